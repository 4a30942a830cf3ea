import PyProof.Rows.All
import Wide.All
import OpenK.AllK
import Wide.FinOn
import PyProof.Rows.NestShow
import PyProof.Rows.RuleB_pow
import HandS.ForMost
import HandS.IsInst
import HandS.Walk
import KE.GoesEnum
import HandS.Style
import HandS.Conv
import HandS.Sort
import KE.GoesRev
import PyProof.ReprLen
import PyProof.FitsInt
import HandS.DictTup
import HandS.SortRule
import PySem.Challenge.RW_linksums_k10_signed_sums
set_option Elab.async false
set_option linter.all false
set_option maxRecDepth 100000
set_option maxHeartbeats 4000000
namespace KX
open PySem PySem.Spec PyProof.Rows L2
/-! ### repr of data, where nothing is being shown -/
structure rShow (K : PySem.W.Frag) (xs : List V) (H : Hp) (Q : VK) : Prop where
  ex : ∃ (x : V) (d : PyData), xs = [x] ∧ Dp K H x d ∧ PyProof.Rows.isDisplay d = true ∧ d.showable = true ∧ d.hasDict = false ∧ d.depth ≤ 60 ∧ d.shown.length ≤ sizeLine ∧ Q (.str d.shown) H
theorem call_show {X : Cx} (hg : X.A.guards = some []) (hu : X.A.units + 64 < cLine) : CallR X (.builtin "repr") (rShow X.K) := by
  intro pins s σ H xs us Q I r h
  obtain ⟨x, d, rfl, hd, hi, hs, hn, hp, hz, q⟩ := h.ex
  cases r with
  | cons r rr =>
    cases rr
    obtain ⟨as, r1⟩ := Dp.reads I d x _ hd r
    obtain ⟨a, e⟩ := PyProof.Rows.isRef_of_reads r1 hi
    subst e
    refine repr_of_reads' r1 hs (PyData.noDict_hsm hn) hg (by omega) (fun _ _ e => e) (fun h' u tk hk => ?_) hz
    exact ⟨.str d.shown, H, I.kept (t' := tk) hk, ⟨u, rfl⟩, q⟩
end KX

namespace KX
open PySem PySem.Spec PyProof.Rows L2
/-! ### defs that show data: their promise holds where nothing is being shown around the call -/
structure FnG (P : Program) (w : World) (K : PySem.W.Frag) (mg : Str → Option Value) (base : Heap)
    (k : Nat) (f : Addr) (fd : FuncData) (ps : List Str) (sp : Sp) : Prop where
  size : ∀ vs H Q E, sp vs H Q E → vs.length = ps.length
  runs : ∀ (A : Around) (outer : List Env) (s : Shared) (H : Hp) (args : Args)
    (us : List Value) (vs : List V) (Q : VK) (E : XK), A.guards = some [] → Room k A →
    Env0 P w K mg base A outer s H → BindsTo s fd args (ps.zip us) → Vals vs us → sp vs H Q E →
    codeAny (model P w) A (.call (.ref f) args) (CR CX0 outer P w H s Q E) s
theorem FnG.more {P : Program} {w : World} {K : PySem.W.Frag} {mg : Str → Option Value} {base : Heap} {j k : Nat}
    {f : Addr} {fd : FuncData} {ps : List Str} {sp : Sp} (F : FnG P w K mg base j f fd ps sp) (h : j ≤ k) :
    FnG P w K mg base k f fd ps sp :=
  ⟨F.size, fun A o s H g us vs Q E gd rm => F.runs A o s H g us vs Q E gd (rm.mono h)⟩
section
variable {P : Program} {w : World} {K : PySem.W.Frag} {mg : Str → Option Value} {base : Heap}
theorem okG {x qual : Str} {st : Stmt} {f : Addr} {fd : FuncData} {N ps : List Str} {k : Nat} {sp : Sp}
    (F : Fun K x qual st f fd) (S : FnScope N ps (defScope st))
    (size : ∀ vs H Q E, sp vs H Q E → vs.length = ps.length)
    (bd : ∀ (cdv : Value) (A : Around) (outer : List Env) (s : Shared) (H : Hp) (vs : List V) (Q : VK) (E : XK),
      (A.deeper (envOfC qual (defScope st) s.heap.objs.size f cdv)).guards = some [] →
      Room k (A.deeper (envOfC qual (defScope st) s.heap.objs.size f cdv)) → sp vs H Q E →
      ∃ t, PSs (cxOf CX0 P w K mg base N qual (defScope st) f cdv A outer s H E).nox (defBody st) t ∧
        t { nx := fun _ H' => Q .non H', rt := Q } (start N vs) H) :
    FnG P w K mg base (k + 1) f fd ps sp := by
  obtain ⟨oc, od, kV, doc, pm, an, cdv, ct, osl, rfl, look, code⟩ := F.ex
  refine ⟨size, ?_⟩
  intro A outer s H args us vs Q E gd room env0 bind rel prom
  have len := size _ _ _ _ prom
  have keep : ∀ b o, base.get? b = some o → s.heap.get? b = some o := fun b o e => (env0.bs b o e).1
  have inK : K.In s.heap := env0.mod.kin.keeps keep
  have par : ∀ y ∈ ps.zip us, (defScope st).names.lookup y.1 = some .local ∨
      ((defScope st).names.lookup y.1 = some .cell ∧
        ((cellsFrom (s.heap.objs.size + 1) (defScope st).names []).lookup y.1).isSome = true) := by
    rintro ⟨n, v⟩ hy
    cases S.par n (List.of_mem_zip hy).1 with
    | inl q => exact .inl q
    | inr q => exact .inr ⟨q, PySem.W.cellsFrom_some _ _ _ (.inl q)⟩
  refine codeAny_call_function room.depth (inK _ _ look) rfl S.co S.gen rfl
    (PySem.W.codeRec_of inK code) (bind _ _ _ _ ?_)
  refine wpAny_newFunctionEnv_cells S.kind par ?_
  intro env same s1 entered
  subst same
  refine ⟨(env0.mod.nolimit.keeps keep).keeps entered.toInCall.keep, codeAny_func ?_⟩
  obtain ⟨t, body, read⟩ := bd cdv A outer s H vs Q E gd (room.deeper _) prom
  have inv := inv_start (CX := CX0) (E := E) S room.hd env0 len rel entered
  refine wpAny_mono (body.nox.run [] s1 (start N vs) H _ inv read) ?_ fun _ _ z => z
  intro fl s' ends
  cases fl with
  | ret u =>
    obtain ⟨v, σ', H', J, rv, q⟩ := ends
    exact ⟨v, H', J.os, J.bare, J.base, J.hok, rv, q⟩
  | next =>
    obtain ⟨σ', H', J, q⟩ := ends
    exact ⟨V.non, H', J.os, J.bare, J.base, J.hok, rfl, q⟩
  | brk => exact ends.choose_spec.choose_spec.2.elim
  | cont => exact ends.choose_spec.choose_spec.2.elim
end
section
variable {X : Cx} {k : Nat} {f : Addr} {fd : FuncData} {ps : List Str} {sp : Sp} {dvs : List V} {ds : List Value}
  {x : Str} {p pos : Pos} {e : Expr} {es : List Expr} {t : TA}
/-- f(e, ..) of such a def -/
theorem pe_callG (F : FnG X.prog X.w X.K X.mg X.base k f fd ps sp) (gd : X.A.guards = some []) (rm : Room k X.A)
    (hg : Gl X x) (hm : X.mg x = some (.ref f)) (hk : PySem.W.keepIn X.K (.ref f) = true)
    (hb : Binds X.K fd ps ds) (hd : Vals dvs ds) (ha : PA X (e :: es) t)
    (hdb : (x == ("__debug__" : Str)) = false := by decide)
    (he : starEach (e :: es) X.env = (false, eval e X.env) :: starEach es X.env := by rfl)
    (hpl : (backTo pos (starEach es X.env)).any (·.1) = false := by rfl) :
    PE X (.Call (.Name x p) (e :: es) [] pos) (tCall sp dvs E0 t) := by
  constructor
  intro pins s σ H Q inv read
  refine wpAny_Call_Name_kw (ld_glob inv hg hm ?_ hdb)
  refine PySem.W.callWith_K (h₀ := X.base) inv.ok.mod.kin hk ?_ he hpl
  refine thn (ha.run pos pins s σ H _ inv read) ?_
  rintro us s1 ⟨vs, H1, inv1, rel, prom⟩
  refine ⟨inv1.kIn, ?_⟩
  have rel2 : Vals (vs ++ dvs) (us ++ ds) := rel.append hd
  have len : (us ++ ds).length = ps.length := rel2.length ▸ F.size _ _ _ _ prom
  refine wpAny_call (codeAny_mono (F.runs X.A X.stack s1 H1 ⟨us, []⟩ (us ++ ds) (vs ++ dvs) Q E0 gd rm inv1.env0
    (hb s1 us inv1.kIn len) rel2 prom) ?_)
  intro r s' fin
  match r, fin with
  | .ok (.ret u), fin => exact inv1.after fin
  | .ok .next, fin => exact fin.elim
  | .ok .brk, fin => exact fin.elim
  | .ok .cont, fin => exact fin.elim
  | .error _, fin => exact fin.elim
end
/-! ### the end: the law is such a def -/
theorem lawG {P : Program} {w : World} {K : PySem.W.Frag} {mg mb : Str → Option Value} {k : Nat} {fa a : Addr}
    {fd : FuncData} {x : Str} {sp : Sp} {s₁ : Shared} {vs : List Value} {ns : List Int}
    (KX : K.In s₁.heap) (nsg : s₁.heap.Ns mainGlobals mg) (nsb : s₁.heap.Ns builtinsNs mb)
    (boot : ∀ x : Str, x ≠ "__name__" → mb x = bootBuiltins x) (lim : s₁.heap.NoLimit) (gens : s₁.gens = #[])
    (scr : s₁.heap.get? a = some { cls := .type "list", data := .seq vs.toArray }) (isInts : IntsAre vs ns)
    (fits : ns.length ≤ sizeLine) (rm : Room k callerA)
    (F : ∀ base : Heap, K.In base → base.Ns mainGlobals mg → FnG P w K mg base k fa fd [x] sp)
    (bind : ∀ (s : Shared) (u : Value), BindsTo s fd ⟨[u], []⟩ [(x, u)])
    (prom : ∀ H : Hp, Only H → SqL K H a (ns.map V.int) → sp [.ref a] H (fun v _ => v = .bl true) fun _ _ _ => False) :
    codeAny (model P w) callerA (.call (.ref fa) ⟨[.ref a], []⟩)
      (fun r s' => r = .ok (.ret (.bool true)) ∧ OldK s₁.heap s'.heap ∧ s'.os = s₁.os ∧ AllBare s'.gens) s₁ := by
  have rel := vals_ints isInts
  have go : ∀ H : Hp, Only H → SqL K H a (ns.map V.int) → HOk P w H s₁.heap → (∀ b, b ≠ a → H b = none) →
      (K.lookup a ≠ none → H a = none) →
      codeAny (model P w) callerA (.call (.ref fa) ⟨[.ref a], []⟩)
        (fun r s' => r = .ok (.ret (.bool true)) ∧ OldK s₁.heap s'.heap ∧ s'.os = s₁.os ∧ AllBare s'.gens) s₁ := by
    intro H only seq hok off onK
    have see : ∀ {b : Addr} {o : Obj}, s₁.heap.get? b = some o → H b = none → (hidT s₁.heap H).get? b = some o :=
      fun e n => hidT_get e n
    have dictFree : ∀ {b : Addr} {o : Obj} {es : Array DictEntry} {ep : Nat},
        s₁.heap.get? b = some o → o.data = .dict es ep → H b = none := by
      intro b o es ep e d
      by_cases hb : b = a
      · subst hb
        rw [scr] at e
        cases e
        cases d
      · exact off b hb
    have nsSee : ∀ {b : Addr} {m : Str → Option Value}, s₁.heap.Ns b m → (hidT s₁.heap H).Ns b m := by
      rintro b m ⟨o, es, ep, e, d, r⟩
      exact ⟨o, es, ep, see e (dictFree e d), d, r⟩
    have KB : K.In (hidT s₁.heap H) := by
      intro b o e
      refine see (KX b o e) ?_
      by_cases hb : b = a
      · subst hb
        exact onK (by rw [e]; exact fun z => nomatch z)
      · exact off b hb
    have md : Mod K mg (hidT s₁.heap H) :=
      ⟨KB, nsSee nsg, ⟨mb, nsSee nsb, boot⟩, by obtain ⟨mc, z1, z2⟩ := lim; exact ⟨mc, nsSee z1, z2⟩⟩
    have env0 : Env0 P w K mg (hidT s₁.heap H) callerA [] s₁ H :=
      ⟨rfl, md, fun b o e => of_hidT e, Nat.le_of_eq (hidT_size _ _), trivial,
        fun b hb => absurd (show b ∈ ([] : List Addr) from hb) List.not_mem_nil, hok, .of_eq gens⟩
    have run := (F _ KB (nsSee nsg)).runs callerA [] s₁ H ⟨[.ref a], []⟩ [.ref a] [.ref a] _ _ rfl rm env0
      (bind s₁ (.ref a)) (.cons rfl .nil) (prom H only seq)
    refine codeAny_mono run ?_
    intro r s' fin
    match r, fin with
    | .error _, fin => exact fin.elim
    | .ok .next, fin => exact fin.elim
    | .ok .brk, fin => exact fin.elim
    | .ok .cont, fin => exact fin.elim
    | .ok (.ret u), ⟨v, H', os, bare, un, hok', rv, (q : v = .bl true)⟩ =>
      subst q
      have eu : u = Value.bool true := rv
      subst eu
      refine ⟨rfl, OldK.of_keep ?_, os, bare⟩
      intro b o e
      rcases only b with z | ⟨ob, xs, z⟩
      · exact un.keep b o e z (fun y => absurd (show b ∈ ([] : List Addr) from y) List.not_mem_nil) List.not_mem_nil
      · have e2 := (hok' b _ (un.frzs b ob _ z)).1
        have e1 := (hok b _ z).1
        rw [e] at e1
        cases e1
        exact e2
  cases found : K.lookup a with
  | some o =>
    have e := KX a o found
    rw [scr] at e
    cases e
    refine go (fun _ => none) (fun _ => .inl rfl) (.inr ⟨_, vs.toArray, _, found, rfl, rfl, rfl, ?_, ?_⟩) ?_ (fun _ _ => rfl) fun _ => rfl
    · rw [List.size_toArray, isInts.length]
      exact fits
    · simpa using rel
    · intro b u z
      exact nomatch z
  | none =>
    refine go (fun b => if b = a then some (.frz { cls := .type "list", data := .seq vs.toArray } (.lst (ns.map V.int))) else none)
      (fun b => ?_) (.inl (.inr ⟨{ cls := .type "list", data := .seq vs.toArray }, if_pos rfl⟩)) (fun b u z => ?_)
      (fun b hb => if_neg hb) fun z => absurd found z
    · by_cases hb : b = a
      · exact .inr ⟨_, _, if_pos hb⟩
      · exact .inl (if_neg hb)
    · by_cases hb : b = a
      · have y := (if_pos hb).symm.trans z
        cases y
        subst hb
        exact ⟨scr, by rw [List.length_map]; exact fits, vs, _, rel, scr⟩
      · have y := (if_neg hb).symm.trans z
        cases y
theorem walk_ofG {l : PySem.W.OpenLaw} {n k : Nat} {q : Program} {loose : List Str}
    {XP : (Str → Option Value) → Heap → Prop} {YP : World → Heap → Prop} {d : DefRec}
    {K : Params → PySem.W.Frag} {sp : PySem.W.Frag → Sp} {x : Str}
    (hn : l.most = some n) (hn2 : n ≤ sizeLine) (hdf : d.params.defaults = []) (rm : Room k callerA)
    (hY : ∀ (w : World) (h : Heap), YP w h → (K w.params).In h)
    (F : ∀ (w : World) (mg : Str → Option Value) (fa : Addr) (h : Heap), (K w.params).In h → h.Ns mainGlobals mg →
      mg d.name = some (.ref fa) →
      ∃ fd : FuncData, (∀ (s : Shared) (u : Value), BindsTo s fd ⟨[u], []⟩ [(x, u)]) ∧
        ∀ base : Heap, (K w.params).In base → base.Ns mainGlobals mg →
          FnG l.prog w (K w.params) mg base k fa fd [x] (sp (K w.params)))
    (hsp : ∀ (K : PySem.W.Frag) (H : Hp) (a : Addr) (ns : List Int), ns.length ≤ n → Only H →
      SqL K H a (ns.map V.int) → sp K [.ref a] H (fun v _ => v = .bl true) fun _ _ _ => False) :
    PySem.W.WalkO q loose XP YP l.row.toRowW d [] (fun f vs => PySem.call f vs) := by
  refine Att.attach_call hn hdf ?_
  intro w s₀ s₁ mg mb fa o pm cd doc a vs ns G Y ho hd hcd hmg hobj hints hlen hg
  have KX := hY w _ Y
  obtain ⟨fd, hb, hF⟩ := F w mg fa _ KX G.T.g hmg
  exact lawG KX G.T.g G.T.b G.T.builtins G.T.nolimit hg hobj hints (Nat.le_trans hlen hn2) rm hF hb
    fun H only seq => hsp _ H a ns hlen only seq
end KX

namespace KX
open PySem PySem.Spec PyProof.Rows L2
/-! ### enumerate(xs, k) -/
def ItK (c : Int) (K : PySem.W.Frag) (a : Addr) : It where
  go := fun i H => ∃ (xs : List V) (x : V), SqL K H a xs ∧ xs[i]? = some x
  yld := fun i H v H' => ∃ T x, v = .ref T ∧ H T = none ∧ H' = upd H T (.tup [.int (c + (i : Int)), x]) ∧
    ∀ xs, SqL K H a xs → xs[i]? = some x
  stop := fun i H => ∃ xs : List V, SqL K H a xs ∧ xs.length = i
def tnK (c : Int) (a e it : Addr) : Nat → Heap → Prop := fun i h =>
  (∃ old, IsEnum h e it (c + (i : Int)) old) ∧ h.IsListIter it a i ∧ e ≠ it
theorem apart {h : Heap} {p q : Addr} {o u : Obj} {m n : String} (e1 : h.get? p = some o) (e2 : h.get? q = some u)
    (c1 : o.cls = .type m) (c2 : u.cls = .type n) (ne : m ≠ n) : p ≠ q := by
  intro z
  subst z
  rw [e1] at e2
  cases e2
  rw [c1] at c2
  injection c2 with y
  exact ne y
theorem turnK {P : Program} {w : World} {K : PySem.W.Frag} {elts : List Expr} {kk : Nat} {tpos : Pos} (c : Int) (a e it : Addr) :
    Turn P w K (.Tuple elts kk tpos) (ItK c K a) [e, it] e (tnK c a e it) where
  mem := List.mem_cons_self
  obj := by
    rintro i h ⟨⟨old, he⟩, ⟨o, ho, hc, hd⟩, _⟩ b hb
    rcases List.mem_cons.mp hb with z | z
    · subst z
      exact ⟨_, he, fun v q => nomatch q⟩
    · have z' := List.mem_singleton.mp z
      subst z'
      exact ⟨o, ho, fun v q => by rw [hd] at q; cases q⟩
  keep := by
    rintro i h h' ⟨⟨old, he⟩, hi, ne⟩ k
    exact ⟨⟨old, k e List.mem_cons_self _ he⟩, hi.at fun o q => k it (List.mem_cons_of_mem _ List.mem_cons_self) o q, ne⟩
  self := by
    rintro A i s Q E ⟨⟨_, he⟩, _⟩ h
    exact wpAny_pyIter_enum he h
  item := by
    intro X hP hw hK hc i pins s σ H E I hf st hg
    subst hP hw hK
    obtain ⟨⟨old, he⟩, hit, ne⟩ := st
    obtain ⟨xs, x, hq, hx⟩ := hg
    obtain ⟨its, rv, pl, hz⟩ := I.list hq
    obtain ⟨u, hu, ru⟩ := rv.get hx
    have isl := pl.isList
    have hel : e < s.heap.objs.size := Heap.lt_size he
    have hil : it < s.heap.objs.size := by obtain ⟨_, q, _⟩ := hit; exact Heap.lt_size q
    obtain ⟨oi, hoi, hci, _⟩ := id hit
    obtain ⟨ol, hol, hcl, _⟩ := id isl
    have nea : e ≠ a := apart he hol rfl hcl (by decide)
    have nai : a ≠ it := apart hol hoi hcl hci (by decide)
    have lt : i < its.toArray.size := by
      rw [List.size_toArray]
      exact (List.getElem?_eq_some_iff.mp hu).1
    refine wpAny_pyNext_enum_itemC (Draws.list (A := X.A.in1) (I.ok.hd hc) it a nai its.toArray) he ⟨hit, isl⟩ lt ne
      (by simp [ne, nea]) ?_
    intro y h' tk hy out st' hT hsz hk
    have ey : y = u := by
      have hy' : its[i]? = some y := by simpa using hy
      rw [hu] at hy'
      exact (Option.some.inj hy').symm
    subst ey
    refine ⟨_, rfl, wpAny_letOwnedTupleGo_enum (s := { s with heap := h', toks := tk + 1 }) out ?_⟩
    intro h'' he' sb
    have hT2 : h''.get? s.heap.objs.size = some { cls := .type "tuple", data := .seq #[.int (c + (i : Int)) tk, y] } :=
      (sb.2 _ (Nat.ne_of_gt hel)).trans hT
    have new : ObjOk X.prog X.w (upd H s.heap.objs.size (.tup [.int (c + (i : Int)), x])) h'' s.heap.objs.size
        (.tup [.int (c + (i : Int)), x]) :=
      ⟨by show 2 ≤ sizeLine; decide, [.int (c + (i : Int)) tk, y], .cons ⟨_, rfl⟩ (.cons ru .nil), ⟨_, hT2, rfl, _, rfl⟩⟩
    have I1 : Inv X pins σ (upd H s.heap.objs.size (.tup [.int (c + (i : Int)), x])) { s with heap := h'', toks := tk + 1 } := by
      refine I.turnedNew (ch := [e, it]) ?_ hf (Nat.le_refl _) new
      intro b ob hb q
      have nb : b ≠ e := fun z => hb (by simp [z])
      have nc : b ≠ it := fun z => hb (by simp [z])
      exact (sb.2 b nb).trans (hk b ob nb nc q)
    refine ⟨.ref s.heap.objs.size, _, I1, rfl, ⟨_, x, rfl, I.hok.fresh (Nat.le_refl _), rfl, ?_⟩, ⟨⟨y, ?_⟩, ?_, ne⟩, ?_⟩
    · intro ys hy
      rw [I.list_inj hy hq]
      exact hx
    · have e1 : c + ((i + 1 : Nat) : Int) = c + (i : Int) + 1 := by omega
      rw [e1]
      exact he'
    · exact st'.1.at fun o q => (sb.2 it (Ne.symm ne)).trans q
    · intro b hb
      have hb' : b < s.heap.objs.size := by
        rcases List.mem_cons.mp hb with z | z
        · rw [z]; exact hel
        · rw [List.mem_singleton.mp z]; exact hil
      rw [upd_ne (Nat.ne_of_lt hb')]
      exact (hf b hb).1
  done := by
    intro X hP hw hK hc i pins s σ H E I hf st hg
    subst hP hw hK
    obtain ⟨⟨old, he⟩, hit, ne⟩ := st
    obtain ⟨xs, hq, hx⟩ := hg
    obtain ⟨its, rv, pl, hz⟩ := I.list hq
    have isl := pl.isList
    obtain ⟨oi, hoi, hci, _⟩ := id hit
    obtain ⟨ol, hol, hcl, _⟩ := id isl
    have nai : a ≠ it := apart hol hoi hcl hci (by decide)
    obtain ⟨f0, f1, f2, f3, f4, f5⟩ := hf it (by simp)
    have hl : its.toArray.size = i := by
      rw [List.size_toArray, ← rv.length]
      exact hx
    subst hl
    exact wpAny_pyNext_enum_endD (Draws.list (A := X.A.in1) (I.ok.hd hc) it a nai its.toArray) he ⟨hit, isl⟩
      fun h' eb => ⟨rfl, I.turned (t' := s.toks) (fun b o hb q => eb b o hb q) f0 f1 f3 f4 f5⟩
def iEnumK (K : PySem.W.Frag) (ta : TA) : TI := fun σ H R => ta σ H fun vs H1 =>
  ∃ a c xs, vs = [.ref a, .int c] ∧ -(2 ^ 63) ≤ c ∧ c < 2 ^ 63 ∧ SqL K H1 a xs ∧ R (ItK c K a) H1
theorem pi_enumK {X : Cx} {e f : Expr} {ta : TA} {p pos tpos : Pos} {elts : List Expr} {kk : Nat} (hg : Gl X "enumerate")
    (hm : X.mg "enumerate" = none) (ha : PA X [e, f] ta)
    (hs : starEach [e, f] X.env = (false, eval e X.env) :: starEach [f] X.env := by rfl)
    (hpl : (backTo pos (starEach [f] X.env)).any (·.1) = false := by rfl) :
    PI X (.Tuple elts kk tpos) (.Call (.Name "enumerate" p) [e, f] [] pos) (iEnumK X.K ta) := by
  constructor
  intro pins s σ H R I h
  refine Call_ (ld_blt I hg hm boot_enumerate (PyProof.Rows.callWith_type1 (thn (ha.run pos pins s σ H _ I h) ?_) hs hpl))
  rintro us s1 ⟨vs, H1, I1, r1, a, c, xs, ex, c0, c1, hq, q⟩
  subst ex
  match us, r1 with
  | [u1, u2], .cons (e1 : u1 = Value.ref a) (.cons ⟨t, (e2 : u2 = Value.int c t)⟩ .nil) =>
    subst e1 e2
    obtain ⟨its, rv, pl, hz⟩ := I1.list hq
    refine enum_begins (begins_list a its.toArray) pl.isList c0 c1 ?_
    intro h' he ho hsz hk
    refine wpAny_pyIter_enum he ?_
    have I2 : Inv X pins σ H1 { s1 with heap := h' } := I1.kept (t' := s1.toks) hk
    have tn : tnK c a (s1.heap.objs.size + 1) s1.heap.objs.size 0 h' := by
      refine ⟨⟨.none, ?_⟩, ⟨_, ho, rfl, rfl⟩, Nat.succ_ne_self _⟩
      have e1 : c + ((0 : Nat) : Int) = c := by omega
      rw [e1]
      exact he
    refine ⟨s1.heap.objs.size + 1, [s1.heap.objs.size + 1, s1.heap.objs.size], _, _, H1, rfl, I2,
      turnK c a (s1.heap.objs.size + 1) s1.heap.objs.size, tn, ?_, q⟩
    intro b hb
    have le : s1.heap.objs.size ≤ b := by
      rcases List.mem_cons.mp hb with z | z
      · rw [z]; exact Nat.le_add_right _ _
      · rw [List.mem_singleton.mp z]; exact Nat.le_refl _
    exact I1.fpOk le (I1.hok.fresh le)
/-! ### powers of any size -/
def CPowB (i j : Int) : Prop := 0 ≤ j ∧ (Builtin.Int.intBits i : Int) * j ≤ 2 ^ 27
theorem op_powB {X : Cx} : OpR X (binaryOp .Pow) (rI CPowB fun i j => .int (i ^ j.toNat)) :=
  opI fun _ _ _ _ _ _ _ hc q => pow_int hc.1 hc.2 q
end KX

namespace KX
open PySem PySem.Spec PyProof.Rows L2
/-! ### f(k = v, ..) with keywords alone -/
structure KwOnly (K : PySem.W.Frag) (fd : FuncData) (ps ks : List Str) (g : {α : Type} → List α → List α) : Prop where
  to : ∀ (s : Shared) (ws : List Value), K.In s.heap → ws.length = ks.length → BindsTo s fd ⟨[], ks.zip ws⟩ (ps.zip (g ws))
  rel : ∀ {zs : List V} {ws : List Value}, Vals zs ws → Vals (g zs) (g ws)
def tCallW (ks : List Str) (g : {α : Type} → List α → List α) (sp : Sp) (E : XK) (t : TA) : TE := fun σ H Q =>
  t σ H fun zs H1 => zs.length = ks.length ∧ sp (g zs) H1 Q E
section
variable {X : Cx} {k : Nat} {f : Addr} {fd : FuncData} {ps ks : List Str} {sp : Sp} {x : Str} {p pos : Pos}
  {kws : List Keyword} {tk : TA} {g : {α : Type} → List α → List α}
theorem pe_callW (F : FnOk X.prog X.w X.K X.mg X.base CX0 k f fd ps sp) (hr : Room k X.A) (hg : Gl X x)
    (hm : X.mg x = some (.ref f)) (hk : PySem.W.keepIn X.K (.ref f) = true) (hb : KwOnly X.K fd ps ks g)
    (hkw : PK X kws tk)
    (hall : (backToKw pos (keywordEach kws X.env)).all (·.1.isSome) = true := by rfl)
    (hks : (backToKw pos (keywordEach kws X.env)).filterMap (·.1) = ks := by rfl)
    (hdb : (x == ("__debug__" : Str)) = false := by decide)
    (hpl : ((backTo pos (starEach [] X.env)).any (·.1) || (backToKw pos (keywordEach kws X.env)).any (·.1.isNone)) = false := by rfl) :
    PE X (.Call (.Name x p) [] kws pos) (tCallW ks g sp E0 tk) := by
  constructor
  intro pins s σ H Q I h
  refine wpAny_Call_Name_kw (ld_glob I hg hm ?_ hdb)
  refine PySem.W.callWith_KW0 (h₀ := X.base) I.ok.mod.kin hk hall ?_ hpl
  refine thn (hkw.run pos pins s σ H _ I h) ?_
  rintro ws s2 ⟨zs, H2, I2, rz, l1, q2⟩
  refine ⟨I2.kIn, ?_⟩
  rw [hks]
  have r2 := hb.rel rz
  have len : (g ws).length = ps.length := r2.length ▸ F.len _ _ _ _ q2
  refine wpAny_call (codeAny_mono (F.run X.A X.stack s2 H2 ⟨[], ks.zip ws⟩ (g ws) (g zs) Q E0 hr I2.env0
    (hb.to s2 ws I2.kIn (rz.length ▸ l1)) r2 q2) ?_)
  intro r s' fin
  match r, fin with
  | .ok (.ret u), fin => exact I2.after fin
  | .ok .next, fin => exact fin.elim
  | .ok .brk, fin => exact fin.elim
  | .ok .cont, fin => exact fin.elim
  | .error _, fin => exact fin.elim
end
theorem kwOf {K : PySem.W.Frag} {x qual : Str} {st : Stmt} {f : Addr} {fd : FuncData} {ps ks : List Str}
    {g : {α : Type} → List α → List α} (F : Fun K x qual st f fd)
    (rel : ∀ {zs : List V} {ws : List Value}, Vals zs ws → Vals (g zs) (g ws))
    (h : ∀ (kV doc pm : Value) (an : Option Addr) (cdv ct : Value) (ws : List Value), ws.length = ks.length →
      bindArgs (PySem.W.fnOf x qual (defArgs st) (defBody st) (defScope st) .none kV doc pm an cdv ct) ⟨[], ks.zip ws⟩ =
        pure (ps.zip (g ws))) : KwOnly K fd ps ks g := by
  obtain ⟨oc, od, kV, doc, pm, an, cdv, ct, osl, rfl, lk, hcd⟩ := F.ex
  exact ⟨fun s ws _ hl => .of_eq (h kV doc pm an cdv ct ws hl), rel⟩
/-- both exchanged -/
def swap2 {α : Type} : List α → List α
  | [a, b] => [b, a]
  | l => l
theorem swap2_rel {zs : List V} {ws : List Value} (r : Vals zs ws) : Vals (swap2 zs) (swap2 ws) := by
  match zs, ws, r with
  | [], [], .nil => exact .nil
  | [_], [_], .cons a .nil => exact .cons a .nil
  | [_, _], [_, _], .cons a (.cons b .nil) => exact .cons b (.cons a .nil)
  | _ :: _ :: _ :: _, _ :: _ :: _ :: _, .cons a (.cons b (.cons c r)) => exact .cons a (.cons b (.cons c r))
/-- the first last -/
def rot3 {α : Type} : List α → List α
  | [a, b, c] => [b, c, a]
  | l => l
theorem rot3_rel {zs : List V} {ws : List Value} (r : Vals zs ws) : Vals (rot3 zs) (rot3 ws) := by
  match zs, ws, r with
  | [], [], .nil => exact .nil
  | [_], [_], .cons a .nil => exact .cons a .nil
  | [_, _], [_, _], .cons a (.cons b .nil) => exact .cons a (.cons b .nil)
  | [_, _, _], [_, _, _], .cons a (.cons b (.cons c .nil)) => exact .cons b (.cons c (.cons a .nil))
  | _ :: _ :: _ :: _ :: _, _ :: _ :: _ :: _ :: _, .cons a (.cons b (.cons c (.cons d r))) => exact .cons a (.cons b (.cons c (.cons d r)))
/-- turned round -/
def rev3 {α : Type} : List α → List α
  | [a, b, c] => [c, b, a]
  | l => l
theorem rev3_rel {zs : List V} {ws : List Value} (r : Vals zs ws) : Vals (rev3 zs) (rev3 ws) := by
  match zs, ws, r with
  | [], [], .nil => exact .nil
  | [_], [_], .cons a .nil => exact .cons a .nil
  | [_, _], [_, _], .cons a (.cons b .nil) => exact .cons a (.cons b .nil)
  | [_, _, _], [_, _, _], .cons a (.cons b (.cons c .nil)) => exact .cons c (.cons b (.cons a .nil))
  | _ :: _ :: _ :: _ :: _, _ :: _ :: _ :: _ :: _, .cons a (.cons b (.cons c (.cons d r))) => exact .cons a (.cons b (.cons c (.cons d r)))
/-! ### a range that is kept -/
def iRngV (te : TE) : TI := fun σ H R => te σ H fun x H1 => ∃ p lo hi, x = .ref p ∧ H1 p = some (.rng lo hi) ∧
  (-(2 ^ 62) ≤ lo ∧ lo < 2 ^ 62 ∧ -(2 ^ 62) ≤ hi ∧ hi < 2 ^ 62) ∧ R (Itr lo (hi - lo).toNat) H1
theorem pi_rng {X : Cx} {tg e : Expr} {te : TE} (he : PE X e te) : PI X tg e (iRngV te) := by
  constructor
  intro pins s σ H R I h
  refine thn (he.run pins s σ H _ I h) ?_
  rintro v s1 ⟨x, H1, I1, r1, p, lo, hi, e, hp, ⟨h1, h2, h3, h4⟩, q⟩
  subst e
  cases r1
  obtain ⟨t, u, w, ho⟩ := I1.hok p _ hp
  have sm : Builtin.Range.small lo hi 1 = true := small_one h1 h2 h3 h4
  have sz : Builtin.Range.rangeSize lo hi 1 = (((hi - lo).toNat : Nat) : Int) := by
    rw [rangeSize_one]
    split <;> omega
  refine range_begins (a := lo) (b := hi) (c := 1) (t := t) (u := u) (v := w) ho sm sz ?_
  intro h' hit hsz hk
  refine ⟨s1.heap.objs.size, [s1.heap.objs.size], _, _, H1, rfl, I1.kept (t' := s1.toks) hk, turn_range _ lo (hi - lo).toNat, range_st hit, ?_, q⟩
  intro b hb
  have z := List.mem_singleton.mp hb
  subst z
  exact I1.fpOk (Nat.le_refl _) (I1.hok.fresh (Nat.le_refl _))
/-! ### xs[i] op= e -/
def rGetL : V → V → Hp → VK → Prop := fun o i H Q => ∃ p xs k v, o = .ref p ∧ i = .int k ∧ H p = some (.lst xs) ∧ 0 ≤ k ∧ k < 2 ^ 63 ∧ xs[k.toNat]? = some v ∧ Q v H
theorem get_list {X : Cx} : PGet X rGetL := by
  intro pins s σ H o i ov iv Q I ro ri h
  obtain ⟨p, xs, k, v, rfl, rfl, hp, h0, h1, hx, q⟩ := h
  cases ro
  obtain ⟨t, rfl⟩ := ri
  obtain ⟨its, rv, pl, hz⟩ := I.list (.inl (.inl hp))
  obtain ⟨u, hu, ru⟩ := rv.get hx
  exact wpAny_getItem_list pl.isList h0 h1 (by simpa using hu) ⟨v, H, I, ru, q⟩
/-! ### rules that speak of the written part, by its name -/
theorem inK {X : Cx} (K : PySem.W.Frag) (e : X.K = K := by rfl) : OpR X (compareOp .In) (rIn K false) := by
  subst e
  exact op_in_seq
theorem ixL {X : Cx} (K : PySem.W.Frag) (e : X.K = K := by rfl) : IxR X (rIxL K) := by
  subst e
  exact ix_list
theorem ixT {X : Cx} (K : PySem.W.Frag) (e : X.K = K := by rfl) : IxR X (rIxT K) := by
  subst e
  exact ix_tup
theorem slL {X : Cx} (K : PySem.W.Frag) (e : X.K = K := by rfl) : SlR X (rSlL K) := by
  subst e
  exact sl_list
def rLenK (K : PySem.W.Frag) : List V → Hp → VK → Prop := fun xs H Q => ∃ p ys, xs = [.ref p] ∧ (SqL K H p ys ∨ SqT K H p ys) ∧ Q (.int (ys.length : Nat)) H
theorem lenK {X : Cx} (K : PySem.W.Frag) (e : X.K = K := by rfl) : CallR X (.builtin "len") (rLenK K) := by
  subst e
  exact call_len_seq
theorem piL {X : Cx} {tg l : Expr} {tl : TE} (K : PySem.W.Frag) (hl : PE X l tl) (e : X.K = K := by rfl) : PI X tg l (iList K tl) := by
  subst e
  exact pi_list hl
/-! ### heaps -/
theorem same_new {H : Hp} {p : Addr} {o : HO} (h : H p = none) : Same H (upd H p o) := by
  intro b x e
  rw [upd_ne (ne_of_none e h)]
  exact e
theorem room_self {k : Nat} {A : Around} (r : Room k A) : A.units + 64 < cLine := r.units
end KX

namespace KX
open PySem PySem.Spec PyProof.Rows L2
theorem for_enumK {c : Int} {K : PySem.W.Frag} {a : Addr} {xs : List V} {g : TG} {tb : TS} {D : Ends} {σ : L2.St} {H : Hp}
    (Pv : Nat → L2.St → Hp → Prop) (h0 : Pv 0 σ H) (hl : ∀ i σ H, i ≤ xs.length → Pv i σ H → SqL K H a xs)
    (hs : ∀ i x T σ H, xs[i]? = some x → H T = none → Pv i σ H →
      g (.ref T) σ (upd H T (.tup [.int (c + (i : Int)), x])) fun σ2 H2 =>
        tb { D with nx := Pv (i + 1), ct := Pv (i + 1), bk := D.nx } σ2 H2)
    (hd : ∀ σ H, Pv xs.length σ H → D.nx σ H) :
    ∃ W : Nat → Nat → L2.St → Hp → Prop, (∃ m, W 0 m σ H) ∧ ∀ i m σ H, W i m σ H →
      ((ItK c K a).stop i H ∧ D.nx σ H) ∨ ((ItK c K a).go i H ∧ ∃ N : L2.St → Hp → Prop,
        (∀ σ' H', N σ' H' → ∃ m', m' < m ∧ W (i + 1) m' σ' H') ∧
        ∀ x H', (ItK c K a).yld i H x H' → g x σ H' fun σ2 H2 => tb { D with nx := N, ct := N, bk := D.nx } σ2 H2) := by
  refine ⟨fun i m σ H => m = xs.length - i ∧ i ≤ xs.length ∧ Pv i σ H, ⟨xs.length, by simp, Nat.zero_le _, h0⟩, ?_⟩
  rintro i m σ H ⟨rfl, hi, p⟩
  have q := hl i σ H hi p
  by_cases hlt : i < xs.length
  · refine .inr ⟨⟨xs, xs[i], q, by simp [hlt]⟩, Pv (i + 1), fun σ' H' p' => ⟨xs.length - (i + 1), by omega, rfl, hlt, p'⟩, ?_⟩
    rintro x H' ⟨T, x', rfl, nT, rfl, f⟩
    exact hs i x' T σ H (f xs q) nT p
  · have e : i = xs.length := by omega
    subst e
    exact .inl ⟨⟨xs, q, rfl⟩, hd σ H p⟩
theorem lc_zip {K : PySem.W.Frag} {a b : Addr} {xs ys : List V} {g : TG} {tt : TT} {te : TE} {vs : List Nat} {σ : L2.St} {H1 : Hp} {D : Addr} {Qd : Hp → Prop} (hlen : xs.length = ys.length)
    (Pv : Nat → Hp → Prop) (h0 : Pv 0 (upd H1 D (.lst []))) (hl : ∀ i H, i ≤ xs.length → Pv i H → SqL K H a xs ∧ SqL K H b ys)
    (hs : ∀ i x y T H, xs[i]? = some x → ys[i]? = some y → H T = none → Pv i H → g (.ref T) (wipe σ vs) (upd H T (.tup [x, y])) fun σ2 H2 => wipe σ2 vs = wipe σ vs ∧ tt σ2 H2 fun b H3 =>
      if b = true then te σ2 H3 fun y H4 => ∃ acc, H4 D = some (.lst acc) ∧ acc.length < sizeLine ∧ Pv (i + 1) (upd H4 D (.lst (acc ++ [y]))) else Pv (i + 1) H3)
    (hd : ∀ H, Pv xs.length H → Qd H) :
    ∃ W : Nat → Nat → Hp → Prop, (∃ m, W 0 m (upd H1 D (.lst []))) ∧ ∀ i m H, W i m H →
      ((Itz K a b).stop i H ∧ Qd H) ∨ ((Itz K a b).go i H ∧ ∃ Nx : Hp → Prop, (∀ H', Nx H' → ∃ m', m' < m ∧ W (i + 1) m' H') ∧
        ∀ x H', (Itz K a b).yld i H x H' → g x (wipe σ vs) H' fun σ2 H2 => wipe σ2 vs = wipe σ vs ∧ tt σ2 H2 fun b H3 =>
          if b = true then te σ2 H3 fun y H4 => ∃ acc, H4 D = some (.lst acc) ∧ acc.length < sizeLine ∧ Nx (upd H4 D (.lst (acc ++ [y]))) else Nx H3) := by
  refine ⟨fun i m H => m = xs.length - i ∧ i ≤ xs.length ∧ Pv i H, ⟨xs.length, by simp, Nat.zero_le _, h0⟩, ?_⟩
  rintro i m H ⟨rfl, hi, p⟩
  obtain ⟨q1, q2⟩ := hl i H hi p
  by_cases hlt : i < xs.length
  · have g1 : xs[i]? = some xs[i] := by simp [hlt]
    have g2 : ys[i]? = some (ys[i]'(by omega)) := by simp [hlen ▸ hlt]
    refine .inr ⟨⟨xs, ys, _, _, q1, q2, g1, g2⟩, Pv (i + 1), fun H' p' => ⟨xs.length - (i + 1), by omega, rfl, hlt, p'⟩, ?_⟩
    rintro x H' ⟨T, x', y', rfl, nT, rfl, f1, f2⟩
    exact hs i x' y' T H (f1 xs q1) (f2 ys q2) nT p
  · have e : i = xs.length := by omega
    subst e
    exact .inl ⟨⟨xs, ys, q1, q2, .inl (Nat.le_refl _)⟩, hd H p⟩
theorem for_enum {K : PySem.W.Frag} {a : Addr} {xs : List V} {g : TG} {tb : TS} {D : Ends} {σ : L2.St} {H : Hp}
    (Pv : Nat → L2.St → Hp → Prop) (h0 : Pv 0 σ H) (hl : ∀ i σ H, i ≤ xs.length → Pv i σ H → SqL K H a xs)
    (hs : ∀ i x T σ H, xs[i]? = some x → H T = none → Pv i σ H → g (.ref T) σ (upd H T (.tup [.int (i : Nat), x])) fun σ2 H2 => tb { D with nx := Pv (i + 1), ct := Pv (i + 1), bk := D.nx } σ2 H2)
    (hd : ∀ σ H, Pv xs.length σ H → D.nx σ H) :
    ∃ W : Nat → Nat → L2.St → Hp → Prop, (∃ m, W 0 m σ H) ∧ ∀ i m σ H, W i m σ H →
      ((Ite K a).stop i H ∧ D.nx σ H) ∨ ((Ite K a).go i H ∧ ∃ N : L2.St → Hp → Prop, (∀ σ' H', N σ' H' → ∃ m', m' < m ∧ W (i + 1) m' σ' H') ∧
        ∀ x H', (Ite K a).yld i H x H' → g x σ H' fun σ2 H2 => tb { D with nx := N, ct := N, bk := D.nx } σ2 H2) := by
  refine ⟨fun i m σ H => m = xs.length - i ∧ i ≤ xs.length ∧ Pv i σ H, ⟨xs.length, by simp, Nat.zero_le _, h0⟩, ?_⟩
  rintro i m σ H ⟨rfl, hi, p⟩
  have q := hl i σ H hi p
  by_cases hlt : i < xs.length
  · refine .inr ⟨⟨xs, xs[i], q, by simp [hlt]⟩, Pv (i + 1), fun σ' H' p' => ⟨xs.length - (i + 1), by omega, rfl, hlt, p'⟩, ?_⟩
    rintro x H' ⟨T, x', rfl, nT, rfl, f⟩
    exact hs i x' T σ H (f xs q) nT p
  · have e : i = xs.length := by omega
    subst e
    exact .inl ⟨⟨xs, q, Nat.le_refl _⟩, hd σ H p⟩
theorem for_zip2 {K : PySem.W.Frag} {a b : Addr} {xs ys : List V} {g : TG} {tb : TS} {D : Ends} {σ : L2.St} {H : Hp} (hlen : xs.length = ys.length)
    (Pv : Nat → L2.St → Hp → Prop) (h0 : Pv 0 σ H) (hl : ∀ i σ H, i ≤ xs.length → Pv i σ H → SqL K H a xs ∧ SqL K H b ys)
    (hs : ∀ i x y T σ H, xs[i]? = some x → ys[i]? = some y → H T = none → Pv i σ H → g (.ref T) σ (upd H T (.tup [x, y])) fun σ2 H2 => tb { D with nx := Pv (i + 1), ct := Pv (i + 1), bk := D.nx } σ2 H2)
    (hd : ∀ σ H, Pv xs.length σ H → D.nx σ H) :
    ∃ W : Nat → Nat → L2.St → Hp → Prop, (∃ m, W 0 m σ H) ∧ ∀ i m σ H, W i m σ H →
      ((Itz K a b).stop i H ∧ D.nx σ H) ∨ ((Itz K a b).go i H ∧ ∃ N : L2.St → Hp → Prop, (∀ σ' H', N σ' H' → ∃ m', m' < m ∧ W (i + 1) m' σ' H') ∧
        ∀ x H', (Itz K a b).yld i H x H' → g x σ H' fun σ2 H2 => tb { D with nx := N, ct := N, bk := D.nx } σ2 H2) := by
  refine ⟨fun i m σ H => m = xs.length - i ∧ i ≤ xs.length ∧ Pv i σ H, ⟨xs.length, by simp, Nat.zero_le _, h0⟩, ?_⟩
  rintro i m σ H ⟨rfl, hi, p⟩
  obtain ⟨q1, q2⟩ := hl i σ H hi p
  by_cases hlt : i < xs.length
  · have g1 : xs[i]? = some xs[i] := by simp [hlt]
    have g2 : ys[i]? = some (ys[i]'(by omega)) := by simp [hlen ▸ hlt]
    refine .inr ⟨⟨xs, ys, _, _, q1, q2, g1, g2⟩, Pv (i + 1), fun σ' H' p' => ⟨xs.length - (i + 1), by omega, rfl, hlt, p'⟩, ?_⟩
    rintro x H' ⟨T, x', y', rfl, nT, rfl, f1, f2⟩
    exact hs i x' y' T σ H (f1 xs q1) (f2 ys q2) nT p
  · have e : i = xs.length := by omega
    subst e
    exact .inl ⟨⟨xs, ys, q1, q2, .inl (Nat.le_refl _)⟩, hd σ H p⟩
theorem pass_same {H H1 : Hp} {a : Addr} {o : HO} (s : Same H H1) (e : H a = some o) : H1 a = some o := s _ _ e
theorem same_upd_other {H H' : Hp} {l : Addr} {o : HO} (s : Same H H') (n : H l = none) : Same H (upd H' l o) := by
  intro b x e
  rw [upd_ne (ne_of_none e n)]
  exact s _ _ e
/-- the value that decides a test -/
theorem ifT {p q : Prop} {b : Bool} (e : b = true) (h : p) : (if b = true then p else q) := by
  rw [if_pos e]
  exact h
theorem ifF {p q : Prop} {b : Bool} (e : b = false) (h : q) : (if b = true then p else q) := by
  rw [if_neg (by rw [e]; exact fun z => nomatch z)]
  exact h
end KX

namespace KX
open PySem PySem.Spec PyProof.Rows L2
/-! ### tables and walks -/
def DownT (ns : List Int) : Prop := ∀ (i : Nat) (x : Int), ns[i]? = some x → 0 ≤ x ∧ x ≤ i
def UpT (ns : List Int) : Prop := ∀ (i : Nat) (x : Int), ns[i]? = some x → (i : Int) + 2 ≤ x ∧ x ≤ ns.length + 1
/-- the walk from p until it comes to e -/
inductive Way (ns : List Int) (e : Int) : Int → List Int → Prop where
  | nil : Way ns e e []
  | cons {p q : Int} {l : List Int} (h : p ≠ e) (h1 : 1 ≤ p) (h2 : p ≤ ns.length) (hq : ns[(p - 1).toNat]? = some q)
      (t : Way ns e q l) : Way ns e p (p :: l)
theorem Way.inj {ns : List Int} {e : Int} : ∀ {p : Int} {l k : List Int}, Way ns e p l → Way ns e p k → l = k
  | _, _, _, .nil, .nil => rfl
  | _, _, _, .nil, .cons h _ _ _ _ => absurd rfl h
  | _, _, _, .cons h _ _ _ _, .nil => absurd rfl h
  | _, _, _, .cons _ _ _ hq t, .cons _ _ _ hq' t' => by
    rw [hq] at hq'
    cases hq'
    rw [Way.inj t t']
theorem Way.mem {ns : List Int} {e : Int} : ∀ {p : Int} {l : List Int}, Way ns e p l → ∀ x ∈ l, 1 ≤ x ∧ x ≤ ns.length
  | _, _, .nil, x, hx => absurd hx List.not_mem_nil
  | _, _, .cons _ h1 h2 _ t, x, hx => by
    rcases List.mem_cons.mp hx with z | z
    · subst z
      exact ⟨h1, h2⟩
    · exact t.mem x z
theorem down_way {ns : List Int} (D : DownT ns) : ∀ (k : Nat) (p : Int), p.toNat = k → 0 ≤ p → p ≤ ns.length →
    ∃ l, Way ns 0 p l ∧ l.length ≤ k := by
  intro k
  induction k using Nat.strongRecOn with
  | ind k ih =>
    intro p e h0 h1
    by_cases z : p = 0
    · subst z
      exact ⟨[], .nil, Nat.zero_le _⟩
    · have lt : (p - 1).toNat < ns.length := by omega
      have hq := List.getElem?_eq_getElem lt
      obtain ⟨b0, b1⟩ := D _ _ hq
      obtain ⟨l, w, hl⟩ := ih (ns[(p - 1).toNat]).toNat (by omega) _ rfl b0 (by omega)
      exact ⟨p :: l, .cons z (by omega) h1 hq w, by rw [List.length_cons]; omega⟩
theorem up_way {ns : List Int} (U : UpT ns) : ∀ (k : Nat) (p : Int), (ns.length + 1 - p).toNat = k → 1 ≤ p → p ≤ ns.length + 1 →
    ∃ l, Way ns (ns.length + 1) p l ∧ l.length ≤ k := by
  intro k
  induction k using Nat.strongRecOn with
  | ind k ih =>
    intro p e h0 h1
    by_cases z : p = ns.length + 1
    · subst z
      exact ⟨[], .nil, Nat.zero_le _⟩
    · have lt : (p - 1).toNat < ns.length := by omega
      have hq := List.getElem?_eq_getElem lt
      obtain ⟨b0, b1⟩ := U _ _ hq
      obtain ⟨l, w, hl⟩ := ih ((ns.length : Int) + 1 - ns[(p - 1).toNat]).toNat (by omega) _ rfl (by omega) b1
      exact ⟨p :: l, .cons z (by omega) (by omega) hq w, by rw [List.length_cons]; omega⟩
/-- lists of ints on the heap -/
abbrev Ints (H : Hp) (a : Addr) (ns : List Int) : Prop := H a = some (.lst (ns.map V.int))
theorem at_ints {ns : List Int} {p q : Int} (h1 : 1 ≤ p) (hq : ns[(p - 1).toNat]? = some q) :
    atI (ns.map V.int) (p - 1) = some (.int q) := by
  have e : p - 1 = (((p - 1).toNat : Nat) : Int) := by omega
  rw [e]
  refine atI_nat ?_
  rw [List.getElem?_map, hq]
  rfl
theorem ints_at {ns : List Int} {i : Nat} {x : V} (h : (ns.map V.int)[i]? = some x) : ∃ n, ns[i]? = some n ∧ x = .int n := by
  rw [List.getElem?_map] at h
  cases e : ns[i]? with
  | none =>
    rw [e] at h
    cases h
  | some n =>
    rw [e] at h
    cases h
    exact ⟨n, rfl, rfl⟩
theorem small_line {n k : Nat} (h : n ≤ k) (hk : k ≤ sizeLine := by decide) : n ≤ sizeLine := Nat.le_trans h hk
theorem none_of {H H1 : Hp} {r : Addr} (s : Same H H1) (n : H1 r = none) : H r = none := by
  cases e : H r with
  | none => rfl
  | some x =>
    rw [s _ _ e] at n
    cases n
/-! ### the draws -/
/-- the draws' list at a: at most k were drawn -/
def Dr (H : Hp) (a : Addr) (b : Bool) (k : Int) : Prop :=
  ∃ d j : Int, H a = some (.lst [.int d, .int j, .bl b]) ∧ 0 ≤ d ∧ 0 ≤ j ∧ j ≤ k
/-- all but what stands at a stands -/
def Keep (a : Addr) (H H' : Hp) : Prop := ∀ b x, b ≠ a → H b = some x → H' b = some x
theorem Keep.refl (a : Addr) (H : Hp) : Keep a H H := fun _ _ _ e => e
theorem Keep.trans {a : Addr} {H H1 H2 : Hp} (s : Keep a H H1) (t : Keep a H1 H2) : Keep a H H2 := fun b x n e => t b x n (s b x n e)
theorem Same.keep {a : Addr} {H H1 : Hp} (s : Same H H1) : Keep a H H1 := fun b x _ e => s b x e
theorem Keep.upd {a : Addr} {H H1 : Hp} {o : HO} (s : Keep a H H1) : Keep a H (upd H1 a o) := by
  intro b x n e
  rw [upd_ne n]
  exact s b x n e
theorem Keep.other {a l : Addr} {H H1 : Hp} {o : HO} (s : Keep a H H1) (n : H l = none) : Keep a H (L2.upd H1 l o) := by
  intro b x nb e
  rw [upd_ne (ne_of_none e n)]
  exact s b x nb e
theorem Dr.mono {H : Hp} {a : Addr} {b : Bool} {j k : Int} (d : Dr H a b j) (h : j ≤ k) : Dr H a b k := by
  obtain ⟨d, i, e, h1, h2, h3⟩ := d
  exact ⟨d, i, e, h1, h2, by omega⟩
theorem Dr.same {H H' : Hp} {a : Addr} {b : Bool} {k : Int} (d : Dr H a b k) (s : Same H H') : Dr H' a b k := by
  obtain ⟨d, i, e, h⟩ := d
  exact ⟨d, i, s _ _ e, h⟩
theorem Dr.some {H : Hp} {a : Addr} {b : Bool} {k : Int} (d : Dr H a b k) : ∃ o, H a = some o := by
  obtain ⟨d, i, e, _⟩ := d
  exact ⟨_, e⟩
theorem Dr.ne {H : Hp} {a p : Addr} {b : Bool} {k : Int} (d : Dr H a b k) (n : H p = none) : p ≠ a := by
  obtain ⟨o, e⟩ := d.some
  exact (ne_of_none e n).symm
theorem Dr.upd {H : Hp} {a p : Addr} {b : Bool} {k : Int} {o : HO} (d : Dr H a b k) (n : p ≠ a) : Dr (L2.upd H p o) a b k := by
  obtain ⟨d, i, e, h⟩ := d
  exact ⟨d, i, by rw [upd_ne (Ne.symm n)]; exact e, h⟩
/-- what a draw leaves -/
theorem Keep.none_of {a r : Addr} {H H1 : Hp} (s : Keep a H H1) (ne : r ≠ a) (n : H1 r = none) : H r = none := by
  cases e : H r with
  | none => rfl
  | some x =>
    rw [s _ _ ne e] at n
    cases n
/-- a new pair of tables at t -/
structure PairAt (H : Hp) (t f r : Addr) (ns ms : List Int) : Prop where
  tup : H t = some (.tup [.ref f, .ref r])
  down : Ints H f ns
  up : Ints H r ms
  isDown : DownT ns
  isUp : UpT ms
  len : ms.length = ns.length
  pos : 1 ≤ ns.length
  most : ns.length ≤ 16
theorem PairAt.same {H H' : Hp} {t f r : Addr} {ns ms : List Int} (p : PairAt H t f r ns ms) (s : Same H H') : PairAt H' t f r ns ms :=
  ⟨s _ _ p.tup, s _ _ p.down, s _ _ p.up, p.isDown, p.isUp, p.len, p.pos, p.most⟩
theorem PairAt.keep {a : Addr} {H H' : Hp} {t f r : Addr} {ns ms : List Int} (p : PairAt H t f r ns ms) (s : Keep a H H') (n1 : t ≠ a) (n2 : f ≠ a) (n3 : r ≠ a) : PairAt H' t f r ns ms :=
  ⟨s _ _ n1 p.tup, s _ _ n2 p.down, s _ _ n3 p.up, p.isDown, p.isUp, p.len, p.pos, p.most⟩
theorem DownT.snoc {ns : List Int} {x : Int} (D : DownT ns) (h0 : 0 ≤ x) (h1 : x ≤ ns.length) : DownT (ns ++ [x]) := by
  intro i y hy
  by_cases hi : i < ns.length
  · rw [List.getElem?_append_left hi] at hy
    exact D i y hy
  · have hl := (List.getElem?_eq_some_iff.mp hy).1
    rw [List.length_append] at hl
    have e : i = ns.length := by
      simp at hl
      omega
    subst e
    simp at hy
    subst hy
    exact ⟨h0, h1⟩
def UpTo (n : Nat) (ms : List Int) : Prop := ∀ (i : Nat) (x : Int), ms[i]? = some x → (i : Int) + 2 ≤ x ∧ x ≤ n + 1
theorem UpTo.nil (n : Nat) : UpTo n [] := fun i x h => by simp at h
theorem DownT.nil : DownT [] := fun i x h => by simp at h
theorem UpTo.snoc {n : Nat} {ms : List Int} {x : Int} (U : UpTo n ms) (h0 : (ms.length : Int) + 2 ≤ x) (h1 : x ≤ n + 1) : UpTo n (ms ++ [x]) := by
  intro i y hy
  by_cases hi : i < ms.length
  · rw [List.getElem?_append_left hi] at hy
    exact U i y hy
  · have hl := (List.getElem?_eq_some_iff.mp hy).1
    rw [List.length_append] at hl
    have e : i = ms.length := by
      simp at hl
      omega
    subst e
    simp at hy
    subst hy
    exact ⟨h0, h1⟩
theorem UpTo.table {ms : List Int} (U : UpTo ms.length ms) : UpT ms := U
theorem snoc_ints (ns : List Int) (x : Int) : ns.map V.int ++ [V.int x] = (ns ++ [x]).map V.int := by
  rw [List.map_append]
  rfl
theorem line_lt {n k : Nat} (h : n < k) (hk : k ≤ sizeLine := by decide) : n < sizeLine := Nat.lt_of_lt_of_le h hk
theorem yes {σ : L2.St} {H : Hp} {Q : Bool → Hp → Prop} (h : Q true H) : tYes σ H Q := h
end KX

namespace KX
open PySem PySem.Spec PyProof.Rows L2
/-! ### data that is shown and compared -/
structure Nice (n z : Nat) (d : PyData) : Prop where
  deep : d.depth ≤ n
  lay : d.canLay0 = true
  shows : d.showable = true
  plain : d.hasDict = false
  len : d.shown.length ≤ z
theorem Nice.mono {n z n' z' : Nat} {d : PyData} (h : Nice n z d) (h1 : n ≤ n') (h2 : z ≤ z') : Nice n' z' d :=
  ⟨Nat.le_trans h.deep h1, h.lay, h.shows, h.plain, Nat.le_trans h.len h2⟩
theorem log_lt {n : Nat} {k : Nat} (h : n < 2 ^ k) (hk : 0 < k) : n.log2 < k := by
  by_cases z : n = 0
  · subst z
    simpa using hk
  · exact (Nat.log2_lt z).mpr h
theorem nice_int {i : Int} (h : i.natAbs < 2 ^ 130) : Nice 0 41 (.int i) where
  deep := Nat.le_refl _
  lay := rfl
  plain := rfl
  shows := by
    show decide (i.natAbs.log2 < 1920) = true
    refine decide_eq_true ?_
    exact Nat.lt_of_lt_of_le (log_lt h (by decide)) (by decide)
  len := by
    show (Str.ofString (toString i)).length ≤ 41
    have e : i.natAbs < 10 ^ 40 := Nat.lt_of_lt_of_le h (by decide)
    have := int_text_length_le10 (a := i) (k := 40) (by decide) e
    rw [PySem.ofString_length]
    exact this
theorem nice_none : Nice 0 41 .none := ⟨Nat.le_refl _, rfl, rfl, rfl, by decide⟩
theorem nice_bool (b : Bool) : Nice 0 41 (.bool b) := by
  cases b <;> exact ⟨Nat.le_refl _, rfl, rfl, rfl, by decide⟩
theorem all_deep {n : Nat} : ∀ {ds : List PyData}, (∀ d ∈ ds, d.depth ≤ n) → PyData.depthAll ds ≤ n
  | [], _ => Nat.zero_le _
  | d :: ds, h => Nat.max_le.mpr ⟨h d List.mem_cons_self, all_deep fun x hx => h x (List.mem_cons_of_mem _ hx)⟩
theorem all_lay : ∀ {ds : List PyData}, (∀ d ∈ ds, d.canLay0 = true) → PyData.canLayAll0 ds = true
  | [], _ => rfl
  | d :: ds, h => Bool.and_eq_true_iff.mpr ⟨h d List.mem_cons_self, all_lay fun x hx => h x (List.mem_cons_of_mem _ hx)⟩
theorem all_shows : ∀ {ds : List PyData}, (∀ d ∈ ds, d.showable = true) → PyData.showableAll ds = true
  | [], _ => rfl
  | d :: ds, h => Bool.and_eq_true_iff.mpr ⟨h d List.mem_cons_self, all_shows fun x hx => h x (List.mem_cons_of_mem _ hx)⟩
theorem all_plain : ∀ {ds : List PyData}, (∀ d ∈ ds, d.hasDict = false) → PyData.hasDictAll ds = false
  | [], _ => rfl
  | d :: ds, h => Bool.or_eq_false_iff.mpr ⟨h d List.mem_cons_self, all_plain fun x hx => h x (List.mem_cons_of_mem _ hx)⟩
theorem all_len {z : Nat} : ∀ {ds : List PyData}, (∀ d ∈ ds, d.shown.length ≤ z) → ((PyData.shownAll ds).map (·.length)).sum ≤ ds.length * z ∧ (PyData.shownAll ds).length = ds.length
  | [], _ => ⟨by simp [PyData.shownAll], rfl⟩
  | d :: ds, h => by
    obtain ⟨h1, h2⟩ := all_len (z := z) (ds := ds) fun x hx => h x (List.mem_cons_of_mem _ hx)
    have h0 := h d List.mem_cons_self
    constructor
    · show (d.shown.length + ((PyData.shownAll ds).map (·.length)).sum) ≤ (ds.length + 1) * z
      rw [Nat.add_mul, Nat.one_mul]
      omega
    · show (PyData.shownAll ds).length + 1 = ds.length + 1
      rw [h2]
theorem nice_len {m z : Nat} {ds : List PyData} {t : Nat} (h : ∀ d ∈ ds, d.shown.length ≤ z) (hm : ds.length ≤ m)
    (ht : t ≤ ((PyData.shownAll ds).map (·.length)).sum + 2 * (PyData.shownAll ds).length + 3) : t ≤ m * (z + 2) + 3 := by
  obtain ⟨h1, h2⟩ := all_len h
  rw [h2] at ht
  have e : ds.length * z ≤ m * z := Nat.mul_le_mul_right z hm
  rw [Nat.mul_add]
  omega
theorem nice_list {n z m : Nat} {ds : List PyData} (h : ∀ d ∈ ds, Nice n z d) (hm : ds.length ≤ m) : Nice (n + 1) (m * (z + 2) + 3) (.list ds) :=
  ⟨Nat.succ_le_succ (all_deep fun d hd => (h d hd).deep), all_lay fun d hd => (h d hd).lay, all_shows fun d hd => (h d hd).shows,
    all_plain fun d hd => (h d hd).plain, nice_len (fun d hd => (h d hd).len) hm (listText_len_le _)⟩
theorem nice_tuple {n z m : Nat} {ds : List PyData} (h : ∀ d ∈ ds, Nice n z d) (hm : ds.length ≤ m) : Nice (n + 1) (m * (z + 2) + 3) (.tuple ds) :=
  ⟨Nat.succ_le_succ (all_deep fun d hd => (h d hd).deep), all_lay fun d hd => (h d hd).lay, all_shows fun d hd => (h d hd).shows,
    all_plain fun d hd => (h d hd).plain, nice_len (fun d hd => (h d hd).len) hm (tupleText_len_le _)⟩
theorem Nice.shaped {n z : Nat} {d : PyData} (h : Nice n z d) (hn : n ≤ 64 := by decide) : SeqAt.shaped d = true :=
  Bool.and_eq_true_iff.mpr ⟨h.lay, decide_eq_true (Nat.le_trans h.deep hn)⟩
/-- a list of ints as data -/
abbrev dInts (ns : List Int) : PyData := .list (ns.map PyData.int)
theorem dp_all_ints {K : PySem.W.Frag} {H : Hp} : ∀ ns : List Int, DpAll K H (ns.map V.int) (ns.map PyData.int)
  | [] => .nil
  | n :: ns => .cons (.int n) (dp_all_ints ns)
theorem dp_ints {K : PySem.W.Frag} {H : Hp} {a : Addr} {ns : List Int} (h : Ints H a ns) : Dp K H (.ref a) (dInts ns) :=
  .lst (.inl (.inl h)) (dp_all_ints ns)
theorem nice_ints {ns : List Int} {m : Nat} (h : ∀ n ∈ ns, n.natAbs < 2 ^ 130) (hm : ns.length ≤ m) : Nice 1 (m * 43 + 3) (dInts ns) :=
  nice_list (n := 0) (z := 41) (fun d hd => by obtain ⟨n, hn, rfl⟩ := List.mem_map.mp hd; exact nice_int (h n hn)) (by rw [List.length_map]; exact hm)
theorem eqv_ints : ∀ ns ms : List Int, PyData.eqvAll (ns.map PyData.int) (ms.map PyData.int) = decide (ns = ms)
  | [], [] => rfl
  | [], _ :: _ => rfl
  | _ :: _, [] => rfl
  | n :: ns, m :: ms => by
    show ((n == m) && PyData.eqvAll (ns.map PyData.int) (ms.map PyData.int)) = _
    rw [eqv_ints ns ms]
    by_cases h1 : n = m
    · subst h1
      by_cases h2 : ns = ms
      · subst h2
        simp
      · simp [h2]
    · simp [h1]
/-! ### the stretches that a tree's draw has still to root -/
/-- a stretch: where its tuple stands, its ends -/
abbrev Iv := Addr × Int × Int
def IvAt (H : Hp) (N : Nat) (v : Iv) : Prop := H v.1 = some (.tup [.int v.2.1, .int v.2.2]) ∧ 1 ≤ v.2.1 ∧ v.2.1 ≤ v.2.2 ∧ v.2.2 ≤ N
def ivSize (vs : List Iv) : Int := (vs.map fun v => v.2.2 - v.2.1 + 1).sum
def ivRefs (vs : List Iv) : List V := vs.map fun v => V.ref v.1
theorem ivSize_app (xs ys : List Iv) : ivSize (xs ++ ys) = ivSize xs + ivSize ys := by
  unfold ivSize
  rw [List.map_append, List.sum_append]
theorem ivSize_ge {H : Hp} {N : Nat} : ∀ vs : List Iv, (∀ v ∈ vs, IvAt H N v) → (vs.length : Int) ≤ ivSize vs
  | [], _ => Int.le_refl _
  | v :: vs, h => by
    have h1 := ivSize_ge vs fun x hx => h x (List.mem_cons_of_mem _ hx)
    obtain ⟨_, _, h2, _⟩ := h v List.mem_cons_self
    have e : ivSize (v :: vs) = (v.2.2 - v.2.1 + 1) + ivSize vs := by simp [ivSize]
    rw [e, List.length_cons]
    omega
theorem dp_ivs {K : PySem.W.Frag} {H : Hp} {N : Nat} : ∀ vs : List Iv, (∀ v ∈ vs, IvAt H N v) → DpAll K H (ivRefs vs) (vs.map fun v => PyData.tuple [.int v.2.1, .int v.2.2])
  | [], _ => .nil
  | v :: vs, h => .cons (.tup (.inl (.inl (h v List.mem_cons_self).1)) (.cons (.int _) (.cons (.int _) .nil))) (dp_ivs vs fun x hx => h x (List.mem_cons_of_mem _ hx))
theorem IvAt.same {H H' : Hp} {N : Nat} {v : Iv} (h : IvAt H N v) (s : Same H H') : IvAt H' N v := ⟨s _ _ h.1, h.2⟩
theorem IvAt.ne {H : Hp} {N : Nat} {v : Iv} {p : Addr} {xs : List V} (h : IvAt H N v) (e : H p = some (.lst xs)) : v.1 ≠ p := by
  intro z
  rw [← z, h.1] at e
  cases e
theorem IvAt.upd {H : Hp} {N : Nat} {v : Iv} {p : Addr} {o : HO} (h : IvAt H N v) (n : v.1 ≠ p) : IvAt (L2.upd H p o) N v :=
  ⟨by rw [upd_ne n]; exact h.1, h.2⟩
theorem eqv_nil : ∀ xs : List PyData, PyData.eqv (.list xs) (.list []) = xs.isEmpty
  | [] => rfl
  | _ :: _ => rfl
theorem nice_ivs {H : Hp} {N : Nat} (hN : N ≤ 16) {vs : List Iv} (h : ∀ v ∈ vs, IvAt H N v) (hl : vs.length ≤ 16) :
    Nice 2 (16 * (2 * (41 + 2) + 3 + 2) + 3) (.list (vs.map fun v => PyData.tuple [.int v.2.1, .int v.2.2])) := by
  refine nice_list (n := 1) (z := 2 * (41 + 2) + 3) (fun d hd => ?_) (by rw [List.length_map]; exact hl)
  obtain ⟨v, hv, rfl⟩ := List.mem_map.mp hd
  obtain ⟨_, h1, h2, h3⟩ := h v hv
  refine nice_tuple (n := 0) (z := 41) (fun e he => ?_) (Nat.le_refl 2)
  have : e = .int v.2.1 ∨ e = .int v.2.2 := by simpa using he
  have big : (17 : Nat) < 2 ^ 130 := by decide
  rcases this with z | z
  · subst z
    exact nice_int (by omega)
  · subst z
    exact nice_int (by omega)
/-- what is rooted already, and what is not -/
def Rooted (N : Nat) (vs : List Iv) (ms : List Int) : Prop :=
  ms.length = N ∧ ∀ (i : Nat) (x : Int), ms[i]? = some x → ((i : Int) + 2 ≤ x ∧ x ≤ N + 1) ∨ ∃ v ∈ vs, v.2.1 ≤ i + 1 ∧ (i : Int) + 1 ≤ v.2.2
theorem Rooted.done {N : Nat} {ms : List Int} (h : Rooted N [] ms) : UpT ms := by
  intro i x hx
  obtain ⟨l, h⟩ := h
  rcases h i x hx with z | ⟨v, hv, _⟩
  · rw [l]
    exact z
  · exact absurd hv List.not_mem_nil
theorem DownT.set {ns : List Int} (D : DownT ns) {j : Nat} {x : Int} (h0 : 0 ≤ x) (h1 : x ≤ j) : DownT (ns.set j x) := by
  intro i y hy
  rw [List.getElem?_set] at hy
  by_cases e : j = i
  · subst e
    rw [if_pos rfl] at hy
    split at hy
    · cases hy
      exact ⟨h0, h1⟩
    · cases hy
  · rw [if_neg e] at hy
    exact D i y hy
theorem UpT.set {ns : List Int} (D : UpT ns) {j : Nat} {x : Int} (h0 : (j : Int) + 2 ≤ x) (h1 : x ≤ ns.length + 1) : UpT (ns.set j x) := by
  intro i y hy
  rw [List.length_set]
  rw [List.getElem?_set] at hy
  by_cases e : j = i
  · subst e
    rw [if_pos rfl] at hy
    split at hy
    · cases hy
      exact ⟨h0, h1⟩
    · cases hy
  · rw [if_neg e] at hy
    exact D i y hy
/-- one root: the stretch (lo, hi) of v is taken off, the stretches ws beside it come in -/
theorem Rooted.root {N : Nat} {init ws : List Iv} {v : Iv} {ms : List Int} {r : Int} (h : Rooted N (init ++ [v]) ms) (h1 : 1 ≤ v.2.1) (a1 : v.2.1 ≤ r) (a2 : r ≤ v.2.2) (h2 : v.2.2 ≤ N)
    (cov : ∀ i : Int, v.2.1 ≤ i → i ≤ v.2.2 → i ≠ r → ∃ u ∈ ws, u.2.1 ≤ i ∧ i ≤ u.2.2) : Rooted N (init ++ ws) (ms.set (r - 1).toNat (v.2.2 + 1)) := by
  obtain ⟨l, h⟩ := h
  refine ⟨by rw [List.length_set]; exact l, ?_⟩
  intro i y hy
  rw [List.getElem?_set] at hy
  by_cases e : (r - 1).toNat = i
  · rw [if_pos e] at hy
    split at hy
    · cases hy
      exact .inl ⟨by omega, by omega⟩
    · cases hy
  · rw [if_neg e] at hy
    rcases h i y hy with z | ⟨u, hu, c1, c2⟩
    · exact .inl z
    · rcases List.mem_append.mp hu with m | m
      · exact .inr ⟨u, List.mem_append_left _ m, c1, c2⟩
      · have e2 := List.mem_singleton.mp m
        subst e2
        obtain ⟨w, hw, d1, d2⟩ := cov ((i : Int) + 1) c1 c2 (by omega)
        exact .inr ⟨w, List.mem_append_right _ hw, d1, d2⟩
theorem ints_set (ns : List Int) (j : Nat) (x : Int) : (ns.map V.int).set j (V.int x) = (ns.set j x).map V.int := by
  rw [List.map_set]
theorem ixN_int {n : Nat} {r : Int} (h1 : 1 ≤ r) (h2 : r ≤ n) : ixN n (r - 1) = some (r - 1).toNat := by
  unfold ixN
  rw [if_pos (by omega), if_pos (by omega)]
theorem ixN_of {n j : Nat} (h : j < n) : ixN n (j : Int) = some j := by
  unfold ixN
  rw [if_pos (by omega), if_pos (by omega)]
  rfl
theorem rep_one {x : V} {n : Nat} : (List.replicate n [x]).flatten = List.replicate n x := by
  induction n with
  | zero => rfl
  | succ n ih =>
    rw [List.replicate_succ, List.flatten_cons, ih, List.replicate_succ]
    rfl
/-- numbers that are small enough to be shown -/
def SmallL (ns : List Int) : Prop := ∀ n ∈ ns, n.natAbs < 2 ^ 130
theorem SmallL.of {ns : List Int} {lo hi : Int} (h : ∀ n ∈ ns, lo ≤ n ∧ n ≤ hi) (h1 : -1000 ≤ lo) (h2 : hi ≤ 1000) : SmallL ns := by
  intro n hn
  obtain ⟨a, b⟩ := h n hn
  have big : (1001 : Nat) < 2 ^ 130 := by decide
  omega
theorem DownT.small {ns : List Int} (D : DownT ns) (h : ns.length ≤ 16) : SmallL ns := by
  refine SmallL.of (lo := 0) (hi := 16) (fun n hn => ?_) (by decide) (by decide)
  obtain ⟨i, hi, e⟩ := List.getElem_of_mem hn
  obtain ⟨a, b⟩ := D i n (by rw [List.getElem?_eq_getElem hi, e])
  omega
theorem UpT.small {ns : List Int} (D : UpT ns) (h : ns.length ≤ 16) : SmallL ns := by
  refine SmallL.of (lo := 0) (hi := 17) (fun n hn => ?_) (by decide) (by decide)
  obtain ⟨i, hi, e⟩ := List.getElem_of_mem hn
  obtain ⟨a, b⟩ := D i n (by rw [List.getElem?_eq_getElem hi, e])
  omega
theorem Way.small {ns : List Int} {e p : Int} {l : List Int} (W : Way ns e p l) (h : ns.length ≤ 16) : SmallL l :=
  SmallL.of (lo := 1) (hi := 16) (fun n hn => by have := W.mem n hn; omega) (by decide) (by decide)
theorem nice_two {m : Nat} {ns ms : List Int} (h1 : SmallL ns) (h2 : SmallL ms) (l1 : ns.length ≤ m) (l2 : ms.length ≤ m) : Nice 2 (2 * (m * 43 + 3 + 2) + 3) (.list [dInts ns, dInts ms]) := by
  refine nice_list (n := 1) (z := m * 43 + 3) (fun d hd => ?_) (Nat.le_refl 2)
  have : d = dInts ns ∨ d = dInts ms := by simpa using hd
  rcases this with z | z
  · subst z
    exact nice_ints h1 l1
  · subst z
    exact nice_ints h2 l2
theorem nice_pair {m : Nat} {ns ms : List Int} (h1 : SmallL ns) (h2 : SmallL ms) (l1 : ns.length ≤ m) (l2 : ms.length ≤ m) : Nice 2 (2 * (m * 43 + 3 + 2) + 3) (.tuple [dInts ns, dInts ms]) := by
  refine nice_tuple (n := 1) (z := m * 43 + 3) (fun d hd => ?_) (Nat.le_refl 2)
  have : d = dInts ns ∨ d = dInts ms := by simpa using hd
  rcases this with z | z
  · subst z
    exact nice_ints h1 l1
  · subst z
    exact nice_ints h2 l2
theorem PairAt.nice {H : Hp} {t f r : Addr} {ns ms : List Int} (p : PairAt H t f r ns ms) : Nice 2 (2 * (16 * 43 + 3 + 2) + 3) (.tuple [dInts ns, dInts ms]) :=
  nice_pair (p.isDown.small p.most) (p.isUp.small (by rw [p.len]; exact p.most)) p.most (by rw [p.len]; exact p.most)
theorem PairAt.dp {K : PySem.W.Frag} {H : Hp} {t f r : Addr} {ns ms : List Int} (p : PairAt H t f r ns ms) : Dp K H (.ref t) (.tuple [dInts ns, dInts ms]) :=
  .tup (.inl (.inl p.tup)) (.cons (dp_ints p.down) (.cons (dp_ints p.up) .nil))
theorem dp_two {K : PySem.W.Frag} {H : Hp} {t f r : Addr} {ns ms : List Int} (e : H t = some (.lst [.ref f, .ref r])) (h1 : Ints H f ns) (h2 : Ints H r ms) : Dp K H (.ref t) (.list [dInts ns, dInts ms]) :=
  .lst (.inl (.inl e)) (.cons (dp_ints h1) (.cons (dp_ints h2) .nil))
/-- the walk, reckoned -/
def wayF (ns : List Int) (e : Int) : Nat → Int → Option (List Int)
  | 0, _ => none
  | k + 1, p => if p = e then some [] else if 1 ≤ p ∧ p ≤ ns.length then match ns[(p - 1).toNat]? with
    | some q => (wayF ns e k q).map (p :: ·)
    | none => none
    else none
theorem way_of {ns : List Int} {e : Int} : ∀ {k : Nat} {p : Int} {l : List Int}, wayF ns e k p = some l → Way ns e p l
  | 0, _, _, h => by cases h
  | k + 1, p, l, h => by
    unfold wayF at h
    by_cases z : p = e
    · rw [if_pos z] at h
      cases h
      subst z
      exact .nil
    · rw [if_neg z] at h
      by_cases c : 1 ≤ p ∧ p ≤ ns.length
      · rw [if_pos c] at h
        cases hq : ns[(p - 1).toNat]? with
        | none =>
          rw [hq] at h
          cases h
        | some q =>
          rw [hq] at h
          have h : Option.map (p :: ·) (wayF ns e k q) = some l := h
          cases hw : wayF ns e k q with
          | none =>
            rw [hw] at h
            cases h
          | some l2 =>
            rw [hw] at h
            cases h
            exact .cons z c.1 c.2 hq (way_of hw)
      · rw [if_neg c] at h
        cases h
theorem cut_ints (ns : List Int) (lo hi : Option Int) : ∃ cs : List Int, cutV (ns.map V.int) lo hi = cs.map V.int ∧ cs.length ≤ ns.length := by
  refine ⟨(ns.drop (HT.sIx (ns.map V.int).length 0 lo)).take (HT.sIx (ns.map V.int).length (ns.map V.int).length hi - HT.sIx (ns.map V.int).length 0 lo), ?_, ?_⟩
  · rw [List.map_take, List.map_drop]
    rfl
  · rw [List.length_take, List.length_drop]
    omega
/-- the draws' lists, each with at most k drawn -/
def Drs (H : Hp) (D : Addr) (as : List Addr) (k : Int) : Prop := H D = some (.lst (as.map V.ref)) ∧ ∀ a ∈ as, ∃ b, Dr H a b k
theorem Drs.ne {H : Hp} {D : Addr} {as : List Addr} {k : Int} (d : Drs H D as k) {a : Addr} (h : a ∈ as) : D ≠ a := by
  intro z
  obtain ⟨b, dd, j, e, _⟩ := d.2 a h
  rw [← z, d.1] at e
  have e1 : as.map V.ref = [.int dd, .int j, .bl b] := by
    have := Option.some.inj e
    injection this
  cases as with
  | nil => cases e1
  | cons x r =>
    have := (List.cons.inj e1).1
    cases this
theorem Drs.same {H H' : Hp} {D : Addr} {as : List Addr} {k : Int} (d : Drs H D as k) (s : Same H H') : Drs H' D as k :=
  ⟨s _ _ d.1, fun a h => let ⟨b, x⟩ := d.2 a h; ⟨b, x.same s⟩⟩
theorem Drs.mono {H : Hp} {D : Addr} {as : List Addr} {j k : Int} (d : Drs H D as j) (h : j ≤ k) : Drs H D as k :=
  ⟨d.1, fun a ha => let ⟨b, x⟩ := d.2 a ha; ⟨b, x.mono h⟩⟩
/-- one of them drew on -/
theorem Drs.drawn {H H' : Hp} {D a : Addr} {as : List Addr} {j k : Int} {b : Bool} (d : Drs H D as j) (h : a ∈ as) (s : Keep a H H') (x : Dr H' a b k) (hk : j ≤ k) : Drs H' D as k := by
  refine ⟨s _ _ (d.ne h) d.1, fun a' ha => ?_⟩
  by_cases z : a' = a
  · subst z
    exact ⟨b, x⟩
  · obtain ⟨b', e, i, e1, h0, h1, h2⟩ := d.2 a' ha
    exact ⟨b', e, i, s _ _ z e1, h0, h1, by omega⟩
/-- repr's question, from a datum that is nice -/
theorem rShow_of {K : PySem.W.Frag} {H : Hp} {Q : VK} {x : V} {d : PyData} {n z : Nat} (h : Dp K H x d) (N : Nice n z d) (dis : PyProof.Rows.isDisplay d = true)
    (q : Q (.str d.shown) H) (hn : n ≤ 60 := by decide) (hz : z ≤ sizeLine := by decide) : rShow K [x] H Q :=
  ⟨⟨x, d, rfl, h, dis, N.shows, N.plain, Nat.le_trans N.deep hn, Nat.le_trans N.len hz, q⟩⟩
end KX

namespace KX
open PySem PySem.Spec PyProof.Rows L2
/-! ### walks as functions, counts -/
def wayL (ns : List Int) (e p : Int) : List Int := (wayF ns e 40 p).getD []
theorem wayF_of {ns : List Int} {e : Int} : ∀ {k : Nat} {p : Int} {l : List Int}, Way ns e p l → l.length < k → wayF ns e k p = some l
  | 0, _, _, _, h => absurd h (Nat.not_lt_zero _)
  | k + 1, _, _, .nil, _ => by
    unfold wayF
    rw [if_pos rfl]
  | k + 1, p, _, .cons (l := l) h h1 h2 hq t, hk => by
    unfold wayF
    rw [if_neg h, if_pos ⟨h1, h2⟩, hq]
    have := wayF_of (k := k) t (Nat.lt_of_succ_lt_succ hk)
    show Option.map (p :: ·) (wayF ns e k _) = _
    rw [this]
    rfl
theorem Way.eq {ns : List Int} {e p : Int} {l : List Int} (W : Way ns e p l) (h : l.length < 40) : l = wayL ns e p := by
  unfold wayL
  rw [wayF_of W h]
  rfl
abbrev dW (ns : List Int) (p : Int) : List Int := wayL ns 0 p
abbrev uW (ms : List Int) (p : Int) : List Int := wayL ms (ms.length + 1) p
theorem dW_way {ns : List Int} (D : DownT ns) (h : ns.length ≤ 16) {p : Int} (h0 : 0 ≤ p) (h1 : p ≤ ns.length) : Way ns 0 p (dW ns p) ∧ (dW ns p).length ≤ 16 := by
  obtain ⟨l, w, hl⟩ := down_way D _ p rfl h0 h1
  have e := w.eq (by omega)
  unfold dW
  rw [← e]
  exact ⟨w, by omega⟩
theorem uW_way {ms : List Int} (U : UpT ms) (h : ms.length ≤ 16) {p : Int} (h0 : 1 ≤ p) (h1 : p ≤ ms.length + 1) : Way ms (ms.length + 1) p (uW ms p) ∧ (uW ms p).length ≤ 16 := by
  obtain ⟨l, w, hl⟩ := up_way U _ p rfl h0 h1
  have e := w.eq (by omega)
  unfold uW
  rw [← e]
  exact ⟨w, by omega⟩
def shared (xs ys : List Int) : List Int := xs.filter fun x => decide (x ∈ ys)
def cnt (ns ms : List Int) (i j : Int) : Int := (shared (dW ns i) (uW ms j)).length
def cntRow (ns ms : List Int) (i : Int) : List Int := (List.range ns.length).map fun (j : Nat) => cnt ns ms i ((j : Int) + 1)
def cntM (ns ms : List Int) : List (List Int) := (List.range ns.length).map fun (i : Nat) => cntRow ns ms ((i : Int) + 1)
theorem inV_ints (x : Int) : ∀ ys : List Int, inV (.int x) (ys.map V.int) = decide (x ∈ ys)
  | [] => rfl
  | y :: ys => by
    have ih := inV_ints x ys
    unfold inV at ih ⊢
    rw [List.map_cons, List.any_cons, ih]
    show ((y == x) || decide (x ∈ ys)) = _
    by_cases h : y = x
    · subst h
      simp
    · have h' : ¬ x = y := fun z => h z.symm
      simp [h, h']
theorem all_flat (ys : List Int) : (ys.map V.int).all flatV = true := by
  rw [List.all_map]
  exact List.all_eq_true.mpr fun _ _ => rfl
/-- the walk down, one step -/
theorem dW_cons {ns : List Int} (D : DownT ns) (h : ns.length ≤ 16) {p q : Int} (h0 : 1 ≤ p) (h1 : p ≤ ns.length) (hq : ns[(p - 1).toNat]? = some q) : dW ns p = p :: dW ns q := by
  obtain ⟨b0, b1⟩ := D _ _ hq
  obtain ⟨w, hl⟩ := dW_way D h b0 (by omega)
  have w2 : Way ns 0 p (p :: dW ns q) := .cons (by omega) h0 h1 hq w
  exact (w2.eq (by rw [List.length_cons]; omega)).symm
theorem dW_zero (ns : List Int) : dW ns 0 = [] := by
  unfold dW wayL wayF
  rfl
theorem cnt_step {ns ms : List Int} (D : DownT ns) (h : ns.length ≤ 16) {p q j : Int} (h0 : 1 ≤ p) (h1 : p ≤ ns.length) (hq : ns[(p - 1).toNat]? = some q) :
    cnt ns ms p j = (if p ∈ uW ms j then 1 else 0) + cnt ns ms q j := by
  unfold cnt shared
  rw [dW_cons D h h0 h1 hq, List.filter_cons]
  by_cases c : p ∈ uW ms j
  · simp [c]
    omega
  · simp [c]
theorem cnt_zero (ns ms : List Int) (j : Int) : cnt ns ms 0 j = 0 := by
  unfold cnt shared
  rw [dW_zero]
  rfl
/-! ### where the walks lie -/
theorem Way.down_lt {ns : List Int} (D : DownT ns) : ∀ {p : Int} {l : List Int}, Way ns 0 p l → ∀ x ∈ l, x ≤ p
  | _, _, .nil, x, hx => absurd hx List.not_mem_nil
  | p, _, .cons h h1 h2 hq t, x, hx => by
    rcases List.mem_cons.mp hx with z | z
    · omega
    · have := Way.down_lt D t x z
      obtain ⟨b0, b1⟩ := D _ _ hq
      omega
theorem Way.up_gt {ms : List Int} (U : UpT ms) {e : Int} : ∀ {p : Int} {l : List Int}, Way ms e p l → ∀ x ∈ l, p ≤ x
  | _, _, .nil, x, hx => absurd hx List.not_mem_nil
  | p, _, .cons h h1 h2 hq t, x, hx => by
    rcases List.mem_cons.mp hx with z | z
    · omega
    · have := Way.up_gt U t x z
      obtain ⟨b0, b1⟩ := U _ _ hq
      omega
theorem cnt_nonneg (ns ms : List Int) (i j : Int) : 0 ≤ cnt ns ms i j := Int.natCast_nonneg _
/-- at most one more than the distance -/
theorem cnt_le {ns ms : List Int} (D : DownT ns) (U : UpT ms) (h : ns.length ≤ 16) (hm : ms.length = ns.length) {j : Int} (hj0 : 1 ≤ j) (hj1 : j ≤ ns.length) :
    ∀ (k : Nat) (p : Int), p.toNat = k → 0 ≤ p → p ≤ ns.length → cnt ns ms p j ≤ max 0 (p - j + 1) := by
  intro k
  induction k using Nat.strongRecOn with
  | ind k ih =>
    intro p e h0 h1
    by_cases z : p = 0
    · subst z
      rw [cnt_zero]
      omega
    · have lt : (p - 1).toNat < ns.length := by omega
      have hq := List.getElem?_eq_getElem lt
      obtain ⟨b0, b1⟩ := D _ _ hq
      have := ih (ns[(p - 1).toNat]).toNat (by omega) _ rfl b0 (by omega)
      rw [cnt_step D h (by omega) h1 hq]
      obtain ⟨w, hl⟩ := uW_way U (by omega) hj0 (by omega : j ≤ ms.length + 1)
      split
      · have := w.up_gt U p (by assumption)
        omega
      · omega
theorem cnt_diag {ns ms : List Int} (D : DownT ns) (U : UpT ms) (h : ns.length ≤ 16) (hm : ms.length = ns.length) {j : Int} (hj0 : 1 ≤ j) (hj1 : j ≤ ns.length) : 1 ≤ cnt ns ms j j := by
  have lt : (j - 1).toNat < ns.length := by omega
  have hq := List.getElem?_eq_getElem lt
  rw [cnt_step D h hj0 hj1 hq]
  have mem : j ∈ uW ms j := by
    obtain ⟨w, hl⟩ := uW_way U (by omega) hj0 (by omega : j ≤ ms.length + 1)
    cases e : uW ms j with
    | nil =>
      rw [e] at w
      cases w
      omega
    | cons x l =>
      rw [e] at w
      cases w
      exact List.mem_cons_self
  rw [if_pos mem]
  have := cnt_nonneg ns ms (ns[(j - 1).toNat]) j
  omega
/-! ### tables of ints: lists of lists on the heap -/
structure RowsAt (H0 H : Hp) (q : Addr) (as : List Addr) (rs : List (List Int)) : Prop where
  top : H q = some (.lst (as.map V.ref))
  len : as.length = rs.length
  row : ∀ (i : Nat) (a : Addr) (r : List Int), as[i]? = some a → rs[i]? = some r → Ints H a r
  new : ∀ a ∈ as, H0 a = none
  nd : as.Nodup
theorem RowsAt.same {H0 H H' : Hp} {q : Addr} {as : List Addr} {rs : List (List Int)} (h : RowsAt H0 H q as rs) (s : Same H H') : RowsAt H0 H' q as rs :=
  ⟨s _ _ h.top, h.len, fun i a r h1 h2 => s _ _ (h.row i a r h1 h2), h.new, h.nd⟩
theorem RowsAt.from {H0 H1 H : Hp} {q : Addr} {as : List Addr} {rs : List (List Int)} (h : RowsAt H1 H q as rs) (s : Same H0 H1) : RowsAt H0 H q as rs :=
  ⟨h.top, h.len, h.row, fun a ha => none_of s (h.new a ha), h.nd⟩
theorem RowsAt.nil {H0 H : Hp} {q : Addr} (e : H q = some (.lst [])) : RowsAt H0 H q [] [] :=
  ⟨e, rfl, fun i a r h _ => by simp at h, fun a h => absurd h List.not_mem_nil, List.nodup_nil⟩
theorem RowsAt.self {H0 H : Hp} {q : Addr} {as : List Addr} {rs : List (List Int)} (h : RowsAt H0 H q as rs) : q ∉ as := by
  intro hq
  obtain ⟨i, hi, e⟩ := List.getElem_of_mem hq
  have h1 : as[i]? = some q := by rw [List.getElem?_eq_getElem hi, e]
  have h2 := List.getElem?_eq_getElem (show i < rs.length by rw [← h.len]; exact hi)
  have z : H q = _ := h.row i q _ h1 h2
  rw [h.top] at z
  have z1 := Option.some.inj z
  injection z1 with z2
  cases as with
  | nil => simp at hi
  | cons a as =>
    cases hr : rs[i]'(by rw [← h.len]; exact hi) with
    | nil =>
      rw [hr] at z2
      cases z2
    | cons x r =>
      rw [hr] at z2
      cases z2
/-- one more row, appended at q -/
theorem RowsAt.snoc {H0 H H' : Hp} {q a : Addr} {as : List Addr} {rs : List (List Int)} {r : List Int} (h : RowsAt H0 H q as rs) (s : Same H H') (na : H a = none) (nH : H0 a = none) (ha : Ints H' a r) :
    RowsAt H0 (L2.upd H' q (.lst (as.map V.ref ++ [V.ref a]))) q (as ++ [a]) (rs ++ [r]) := by
  have qna : a ≠ q := (ne_of_none h.top na).symm
  have qa := h.self
  refine ⟨by rw [upd_same, List.map_append]; rfl, by rw [List.length_append, List.length_append, h.len]; rfl, ?_, ?_, ?_⟩
  · intro i b r' h1 h2
    by_cases hi : i < as.length
    · rw [List.getElem?_append_left hi] at h1
      rw [List.getElem?_append_left (by rw [← h.len]; exact hi)] at h2
      have : b ≠ q := fun z => qa (z ▸ List.mem_of_getElem? h1)
      show L2.upd H' q _ b = _
      rw [upd_ne this]
      exact s _ _ (h.row i b r' h1 h2)
    · have hl := (List.getElem?_eq_some_iff.mp h1).1
      rw [List.length_append] at hl
      have e : i = as.length := by
        have : [a].length = 1 := rfl
        omega
      subst e
      rw [List.getElem?_append_right (Nat.le_refl _), Nat.sub_self] at h1
      rw [h.len, List.getElem?_append_right (Nat.le_refl _), Nat.sub_self] at h2
      cases h1
      cases h2
      show L2.upd H' q _ a = _
      rw [upd_ne qna]
      exact ha
  · intro b hb
    rcases List.mem_append.mp hb with z | z
    · exact h.new b z
    · rw [List.mem_singleton.mp z]
      exact nH
  · refine List.nodup_append.mpr ⟨h.nd, List.nodup_cons.mpr ⟨List.not_mem_nil, List.nodup_nil⟩, ?_⟩
    intro x hx y hy z
    rw [List.mem_singleton.mp hy] at z
    subst z
    obtain ⟨i, hi, e⟩ := List.getElem_of_mem hx
    have h1 : as[i]? = some x := by rw [List.getElem?_eq_getElem hi, e]
    have h2 := List.getElem?_eq_getElem (show i < rs.length by rw [← h.len]; exact hi)
    have z : H x = _ := h.row i x _ h1 h2
    rw [na] at z
    cases z
theorem RowsAt.dp {K : PySem.W.Frag} {H0 H : Hp} {q : Addr} {as : List Addr} {rs : List (List Int)} (h : RowsAt H0 H q as rs) : Dp K H (.ref q) (.list (rs.map dInts)) := by
  refine .lst (.inl (.inl h.top)) ?_
  have go : ∀ (as : List Addr) (rs : List (List Int)), as.length = rs.length → (∀ (i : Nat) (a : Addr) (r : List Int), as[i]? = some a → rs[i]? = some r → Ints H a r) → DpAll K H (as.map V.ref) (rs.map dInts) := by
    intro as
    induction as with
    | nil =>
      intro rs e _
      cases rs with
      | nil => exact .nil
      | cons r rs => cases e
    | cons a as ih =>
      intro rs e h
      cases rs with
      | nil => cases e
      | cons r rs => exact .cons (dp_ints (h 0 a r rfl rfl)) (ih rs (Nat.succ.inj e) fun i b r' h1 h2 => h (i + 1) b r' h1 h2)
  exact go as rs h.len h.row
theorem nice_rows {rs : List (List Int)} {m : Nat} (h : ∀ r ∈ rs, SmallL r ∧ r.length ≤ m) (hl : rs.length ≤ m) : Nice 2 (m * (m * 43 + 3 + 2) + 3) (.list (rs.map dInts)) := by
  refine nice_list (n := 1) (z := m * 43 + 3) (fun d hd => ?_) (by rw [List.length_map]; exact hl)
  obtain ⟨r, hr, rfl⟩ := List.mem_map.mp hd
  exact nice_ints (h r hr).1 (h r hr).2
theorem at_refs {as : List Addr} {p : Int} {a : Addr} (h1 : 1 ≤ p) (hq : as[(p - 1).toNat]? = some a) : atI (as.map V.ref) (p - 1) = some (.ref a) := by
  have e : p - 1 = (((p - 1).toNat : Nat) : Int) := by omega
  rw [e]
  refine atI_nat ?_
  rw [List.getElem?_map, hq]
  rfl
theorem cut12 (p : Int) (l : List Int) : cutV ((p :: l).map V.int) (some 1) (some 2) = (l.take 1).map V.int := by
  unfold cutV
  rw [show HT.sIx ((p :: l).map V.int).length 0 (some 1) = min 1 ((p :: l).map V.int).length from HT.sIx_nat _ 0 1,
    show HT.sIx ((p :: l).map V.int).length ((p :: l).map V.int).length (some 2) = min 2 ((p :: l).map V.int).length from HT.sIx_nat _ _ 2]
  cases l with
  | nil => rfl
  | cons x l =>
    have e : ((p :: x :: l).map V.int).length = l.length + 2 := by simp
    rw [e]
    have e1 : min 1 (l.length + 2) = 1 := by omega
    have e2 : min 2 (l.length + 2) = 2 := by omega
    rw [e1, e2]
    rfl
/-- the ones that are in a walk -/
def inRow (ms : List Int) (i : Int) (n : Nat) : List Int := (List.range n).map fun (k : Nat) => if i ∈ uW ms ((k : Int) + 1) then 1 else 0
theorem inRow_succ (ms : List Int) (i : Int) (n : Nat) : inRow ms i (n + 1) = inRow ms i n ++ [if i ∈ uW ms ((n : Int) + 1) then 1 else 0] := by
  unfold inRow
  rw [List.range_succ, List.map_append]
  rfl
theorem cntRow_step {ns ms : List Int} (D : DownT ns) (h : ns.length ≤ 16) {p q : Int} (h0 : 1 ≤ p) (h1 : p ≤ ns.length) (hq : ns[(p - 1).toNat]? = some q) (i : Nat) :
    (cntRow ns ms p)[i]? = (match (inRow ms p ns.length)[i]?, (cntRow ns ms q)[i]? with | some a, some b => some (a + b) | _, _ => none) := by
  unfold cntRow inRow
  rw [List.getElem?_map, List.getElem?_map, List.getElem?_map]
  by_cases hi : i < ns.length
  · rw [List.getElem?_range hi]
    show some (cnt ns ms p ((i : Int) + 1)) = some ((if p ∈ uW ms ((i : Int) + 1) then 1 else 0) + cnt ns ms q ((i : Int) + 1))
    rw [cnt_step D h h0 h1 hq]
  · rw [List.getElem?_eq_none (by rw [List.length_range]; omega)]
    rfl
theorem cntRow_zero {ns ms : List Int} (D : DownT ns) (h : ns.length ≤ 16) {p : Int} (h0 : 1 ≤ p) (h1 : p ≤ ns.length) (hq : ns[(p - 1).toNat]? = some 0) : cntRow ns ms p = inRow ms p ns.length := by
  unfold cntRow inRow
  refine List.map_congr_left fun k _ => ?_
  rw [cnt_step D h h0 h1 hq, cnt_zero, Int.add_zero]
theorem cntRow_len (ns ms : List Int) (p : Int) : (cntRow ns ms p).length = ns.length := by
  unfold cntRow
  rw [List.length_map, List.length_range]
theorem cntM_len (ns ms : List Int) : (cntM ns ms).length = ns.length := by
  unfold cntM
  rw [List.length_map, List.length_range]
theorem cntM_at {ns ms : List Int} {i : Nat} (h : i < ns.length) : (cntM ns ms)[i]? = some (cntRow ns ms ((i : Int) + 1)) := by
  unfold cntM
  rw [List.getElem?_map, List.getElem?_range h]
  rfl
theorem cntRow_at {ns ms : List Int} {i : Int} {j : Nat} (h : j < ns.length) : (cntRow ns ms i)[j]? = some (cnt ns ms i ((j : Int) + 1)) := by
  unfold cntRow
  rw [List.getElem?_map, List.getElem?_range h]
  rfl
theorem cnt_small {ns ms : List Int} (D : DownT ns) (h : ns.length ≤ 16) {i : Int} (j : Int) (h0 : 1 ≤ i) (h1 : i ≤ ns.length) : cnt ns ms i j ≤ 16 := by
  obtain ⟨w, hl⟩ := dW_way D h (by omega : 0 ≤ i) h1
  have : (shared (dW ns i) (uW ms j)).length ≤ (dW ns i).length := List.length_filter_le _ _
  unfold cnt
  omega
theorem cntRow_small {ns ms : List Int} (D : DownT ns) (h : ns.length ≤ 16) {i : Int} (h0 : 1 ≤ i) (h1 : i ≤ ns.length) : SmallL (cntRow ns ms i) := by
  refine SmallL.of (lo := 0) (hi := 16) (fun n hn => ?_) (by decide) (by decide)
  obtain ⟨j, hj, rfl⟩ := List.mem_map.mp hn
  exact ⟨cnt_nonneg .., cnt_small D h _ h0 h1⟩
theorem cntM_small {ns ms : List Int} (D : DownT ns) (h : ns.length ≤ 16) : ∀ r ∈ cntM ns ms, SmallL r ∧ r.length ≤ 16 := by
  intro r hr
  obtain ⟨i, hi, rfl⟩ := List.mem_map.mp hr
  have := List.mem_range.mp hi
  exact ⟨cntRow_small D h (by omega) (by omega), by rw [cntRow_len]; exact h⟩
abbrev dRows (rs : List (List Int)) : PyData := .list (rs.map dInts)
theorem cntM_nice {ns ms : List Int} (D : DownT ns) (h : ns.length ≤ 16) : Nice 2 11091 (dRows (cntM ns ms)) :=
  nice_rows (m := 16) (cntM_small D h) (by rw [cntM_len]; exact h)
theorem cntM_nice2 {ns ms : List Int} (D : DownT ns) (h : ns.length ≤ 16) : Nice 3 22189 (.list [dRows (cntM ns ms), dRows (cntM ns ms)]) := by
  refine nice_list (n := 2) (z := 11091) (m := 2) (fun d hd => ?_) (Nat.le_refl 2)
  have : d = dRows (cntM ns ms) := by simpa using hd
  subst this
  exact cntM_nice D h
/-- a row with None behind it -/
abbrev dNone (r : List Int) : PyData := .list (r.map PyData.int ++ [.none])
theorem dp_none {K : PySem.W.Frag} {H : Hp} {a : Addr} {r : List Int} (h : H a = some (.lst (r.map V.int ++ [V.non]))) : Dp K H (.ref a) (dNone r) := by
  refine .lst (.inl (.inl h)) ?_
  induction r with
  | nil => exact .cons .non .nil
  | cons x r ih =>
    have go : ∀ r : List Int, DpAll K H (r.map V.int ++ [V.non]) (r.map PyData.int ++ [.none]) := by
      intro r
      induction r with
      | nil => exact .cons .non .nil
      | cons x r ih => exact .cons (.int x) ih
    exact go _
theorem dp_gen {K : PySem.W.Frag} {H : Hp} {q : Addr} : ∀ {as : List Addr} {ds : List PyData}, as.length = ds.length → (∀ (i : Nat) (a : Addr) (d : PyData), as[i]? = some a → ds[i]? = some d → Dp K H (.ref a) d) → DpAll K H (as.map V.ref) ds
  | [], [], _, _ => .nil
  | [], _ :: _, e, _ => by cases e
  | _ :: _, [], e, _ => by cases e
  | a :: as, d :: ds, e, h => .cons (h 0 a d rfl rfl) (dp_gen (q := q) (Nat.succ.inj e) fun i b d' h1 h2 => h (i + 1) b d' h1 h2)
theorem nice_none_rows {ns ms : List Int} (D : DownT ns) (h : ns.length ≤ 16) : Nice 2 (16 * (17 * 43 + 3 + 2) + 3) (.list ((cntM ns ms).map dNone)) := by
  refine nice_list (n := 1) (z := 17 * 43 + 3) (fun d hd => ?_) (by rw [List.length_map, cntM_len]; exact h)
  obtain ⟨r, hr, rfl⟩ := List.mem_map.mp hd
  obtain ⟨s, l⟩ := cntM_small D h r hr
  refine nice_list (n := 0) (z := 41) (fun e he => ?_) (by rw [List.length_append, List.length_map]; show r.length + 1 ≤ 17; omega)
  rcases List.mem_append.mp he with m | m
  · obtain ⟨n, hn, rfl⟩ := List.mem_map.mp m
    exact nice_int (s n hn)
  · rw [List.mem_singleton.mp m]
    exact nice_none
theorem nodup_at {as : List Addr} (h : as.Nodup) {i j : Nat} {z : Addr} (h1 : as[i]? = some z) (h2 : as[j]? = some z) : i = j := by
  induction as generalizing i j with
  | nil => simp at h1
  | cons a as ih =>
    obtain ⟨n1, n2⟩ := List.nodup_cons.mp h
    cases i with
    | zero =>
      cases j with
      | zero => rfl
      | succ j =>
        have e : a = z := Option.some.inj h1
        have m : z ∈ as := List.mem_of_getElem? (i := j) h2
        exact absurd (e ▸ m) n1
    | succ i =>
      cases j with
      | zero =>
        have e : a = z := Option.some.inj h2
        have m : z ∈ as := List.mem_of_getElem? (i := i) h1
        exact absurd (e ▸ m) n1
      | succ j => rw [ih n2 h1 h2]
/-- all but what stands at the addresses of S stands -/
def Off (S : List Addr) (H H' : Hp) : Prop := ∀ b o, b ∉ S → H b = some o → H' b = some o
theorem RowsAt.keep {a : Addr} {H0 H H' : Hp} {q : Addr} {as : List Addr} {rs : List (List Int)} (h : RowsAt H0 H q as rs) (s : Keep a H H') (n1 : q ≠ a) (n2 : a ∉ as) : RowsAt H0 H' q as rs :=
  ⟨s _ _ n1 h.top, h.len, fun i z r h1 h2 => s _ _ (fun y => n2 (y ▸ List.mem_of_getElem? h1)) (h.row i z r h1 h2), h.new, h.nd⟩
theorem RowsAt.off {S : List Addr} {H0 H H' : Hp} {q : Addr} {as : List Addr} {rs : List (List Int)} (h : RowsAt H0 H q as rs) (s : Off S H H') (n1 : q ∉ S) (n2 : ∀ a ∈ as, a ∉ S) : RowsAt H0 H' q as rs :=
  ⟨s _ _ n1 h.top, h.len, fun i z r h1 h2 => s _ _ (n2 z (List.mem_of_getElem? h1)) (h.row i z r h1 h2), h.new, h.nd⟩
theorem at_nat_refs {as : List Addr} {i : Nat} {a : Addr} (h : as[i]? = some a) : atI (as.map V.ref) (i : Int) = some (.ref a) := by
  refine atI_nat ?_
  rw [List.getElem?_map, h]
  rfl
theorem at_nat_ints {ns : List Int} {i : Nat} {n : Int} (h : ns[i]? = some n) : atI (ns.map V.int) (i : Int) = some (.int n) := by
  refine atI_nat ?_
  rw [List.getElem?_map, h]
  rfl
theorem RowsAt.get {H0 H : Hp} {q : Addr} {as : List Addr} {rs : List (List Int)} (h : RowsAt H0 H q as rs) {i : Nat} {a : Addr} (h1 : as[i]? = some a) : ∃ r, rs[i]? = some r ∧ Ints H a r := by
  have hi := (List.getElem?_eq_some_iff.mp h1).1
  have h2 := List.getElem?_eq_getElem (show i < rs.length by rw [← h.len]; exact hi)
  exact ⟨_, h2, h.row i a _ h1 h2⟩
theorem RowsAt.some {H0 H : Hp} {q : Addr} {as : List Addr} {rs : List (List Int)} (h : RowsAt H0 H q as rs) {a : Addr} (ha : a ∈ as) : ∃ o, H a = some o := by
  obtain ⟨i, hi, e⟩ := List.getElem_of_mem ha
  obtain ⟨r, _, z⟩ := h.get (i := i) (by rw [List.getElem?_eq_getElem hi, e])
  exact ⟨_, z⟩
theorem refs_at {as : List Addr} {i : Nat} {x : V} (h : (as.map V.ref)[i]? = some x) : ∃ a, as[i]? = some a ∧ x = .ref a := by
  rw [List.getElem?_map] at h
  cases e : as[i]? with
  | none =>
    rw [e] at h
    cases h
  | some a =>
    rw [e] at h
    exact ⟨a, rfl, (Option.some.inj h).symm⟩
theorem downT_by {ns : List Int} (h : ((List.range ns.length).all fun i => decide (0 ≤ ns.getD i 0) && decide (ns.getD i 0 ≤ (i : Int))) = true) : DownT ns := by
  intro i x hx
  have hi := (List.getElem?_eq_some_iff.mp hx).1
  have z := List.all_eq_true.mp h i (List.mem_range.mpr hi)
  have e : ns.getD i 0 = x := by rw [List.getD_eq_getElem?_getD, hx]; rfl
  rw [e] at z
  obtain ⟨z1, z2⟩ := Bool.and_eq_true_iff.mp z
  exact ⟨of_decide_eq_true z1, of_decide_eq_true z2⟩
theorem upT_by {ns : List Int} (h : ((List.range ns.length).all fun i => decide ((i : Int) + 2 ≤ ns.getD i 0) && decide (ns.getD i 0 ≤ (ns.length : Int) + 1)) = true) : UpT ns := by
  intro i x hx
  have hi := (List.getElem?_eq_some_iff.mp hx).1
  have z := List.all_eq_true.mp h i (List.mem_range.mpr hi)
  have e : ns.getD i 0 = x := by rw [List.getD_eq_getElem?_getD, hx]; rfl
  rw [e] at z
  obtain ⟨z1, z2⟩ := Bool.and_eq_true_iff.mp z
  exact ⟨of_decide_eq_true z1, of_decide_eq_true z2⟩
/-- the pair of all steps of one, and noughts -/
def stepsD (n : Nat) : List Int := (List.range n).map fun (k : Nat) => (k : Int)
def stepsU (n : Nat) : List Int := (List.range n).map fun (k : Nat) => (k : Int) + 2
def maxM (n : Nat) : List (List Int) := (List.range n).map fun (i : Nat) => (List.range n).map fun (j : Nat) => if (i : Int) - (j : Int) + 1 > 0 then (i : Int) - (j : Int) + 1 else 0
def leM (n : Nat) : List (List Int) := (List.range n).map fun (i : Nat) => (List.range n).map fun (j : Nat) => if (j : Int) ≤ (i : Int) then 1 else 0
theorem steps_all {n : Nat} (h : n = 1 ∨ n = 2 ∨ n = 16) : (cntM (stepsD n) (stepsU n) = maxM n ∧ cntM (List.replicate n 0) (stepsU n) = leM n) ∧
    (DownT (stepsD n) ∧ DownT (List.replicate n 0) ∧ UpT (stepsU n)) ∧ 1 ≤ n ∧ n ≤ 16 := by
  rcases h with h | h | h <;> subst h
  · exact ⟨⟨by decide +kernel, by decide +kernel⟩, ⟨downT_by (by decide +kernel), downT_by (by decide +kernel), upT_by (by decide +kernel)⟩, by decide, by decide⟩
  · exact ⟨⟨by decide +kernel, by decide +kernel⟩, ⟨downT_by (by decide +kernel), downT_by (by decide +kernel), upT_by (by decide +kernel)⟩, by decide, by decide⟩
  · exact ⟨⟨by decide +kernel, by decide +kernel⟩, ⟨downT_by (by decide +kernel), downT_by (by decide +kernel), upT_by (by decide +kernel)⟩, by decide, by decide⟩
theorem Nice.eqv {n z : Nat} {d : PyData} (h : Nice n z d) : PyData.eqv d d = true := PySem.SeqAt.eqv_refl d h.lay
end KX

namespace KX
open PySem PySem.Spec PyProof.Rows L2
/-! ### sums over places -/
def sumTo (n : Nat) (f : Nat → Int) : Int := ((List.range n).map f).sum
theorem sumTo_zero (f : Nat → Int) : sumTo 0 f = 0 := rfl
theorem sumTo_succ (n : Nat) (f : Nat → Int) : sumTo (n + 1) f = sumTo n f + f n := by
  unfold sumTo
  rw [List.range_succ, List.map_append, List.sum_append]
  simp
theorem sumTo_congr {n : Nat} {f g : Nat → Int} (h : ∀ i, i < n → f i = g i) : sumTo n f = sumTo n g := by
  unfold sumTo
  congr 1
  exact List.map_congr_left fun i hi => h i (List.mem_range.mp hi)
theorem sumTo_add (n : Nat) (f g : Nat → Int) : sumTo n (fun i => f i + g i) = sumTo n f + sumTo n g := by
  induction n with
  | zero => rfl
  | succ n ih =>
    rw [sumTo_succ, sumTo_succ, sumTo_succ, ih]
    omega
theorem sumTo_none {n : Nat} {f : Nat → Int} (h : ∀ i, i < n → f i = 0) : sumTo n f = 0 := by
  induction n with
  | zero => rfl
  | succ n ih =>
    rw [sumTo_succ, ih fun i hi => h i (by omega), h n (by omega)]
    rfl
theorem sumTo_swap (n m : Nat) (f : Nat → Nat → Int) : sumTo n (fun i => sumTo m (f i)) = sumTo m (fun j => sumTo n fun i => f i j) := by
  induction n with
  | zero => exact (sumTo_none fun j _ => rfl).symm
  | succ n ih =>
    rw [sumTo_succ, ih, ← sumTo_add]
    exact sumTo_congr fun j _ => (sumTo_succ n fun i => f i j).symm
theorem sumTo_ite {n : Nat} {c : Prop} [Decidable c] (f : Nat → Int) : (if c then sumTo n f else 0) = sumTo n fun i => if c then f i else 0 := by
  by_cases h : c
  · simp [h]
  · simp only [h, if_false]
    exact (sumTo_none fun _ _ => rfl).symm
theorem sumTo_one {n : Nat} {j : Nat} (h : j < n) (f : Nat → Int) : sumTo n (fun i => if i = j then f i else 0) = f j := by
  induction n with
  | zero => omega
  | succ n ih =>
    rw [sumTo_succ]
    by_cases e : j = n
    · subst e
      rw [sumTo_none fun i hi => if_neg (by omega), if_pos rfl, Int.zero_add]
    · rw [ih (by omega), if_neg (fun z => e z.symm), Int.add_zero]
/-! ### cells, as the programs fill them -/
def gt (xs : List Int) (i : Nat) : Int := xs.getD i 0
def addAt (cs : List Int) (x v : Int) : List Int := cs.set (x - 1).toNat (gt cs (x - 1).toNat + v)
def addWay (cs l : List Int) (v : Int) : List Int := l.foldl (fun c x => addAt c x v) cs
def cellsM (ms vals : List Int) : Nat → List Int
  | 0 => List.replicate ms.length 0
  | i + 1 => addWay (cellsM ms vals i) (uW ms ((i : Int) + 1)) (gt vals i)
def valsM (ms cs : List Int) : Nat → List Int
  | 0 => cs
  | i + 1 => if gt ms i ≤ ms.length then addAt (valsM ms cs i) (gt ms i) (-(gt cs i)) else valsM ms cs i
theorem addAt_len (cs : List Int) (x v : Int) : (addAt cs x v).length = cs.length := List.length_set ..
theorem addWay_len (l : List Int) (v : Int) : ∀ cs : List Int, (addWay cs l v).length = cs.length := by
  induction l with
  | nil => exact fun _ => rfl
  | cons x l ih =>
    intro cs
    show (addWay (addAt cs x v) l v).length = _
    rw [ih, addAt_len]
theorem cellsM_len (ms vals : List Int) : ∀ i, (cellsM ms vals i).length = ms.length
  | 0 => List.length_replicate ..
  | i + 1 => by
    show (addWay _ _ _).length = _
    rw [addWay_len, cellsM_len ms vals i]
theorem valsM_len (ms cs : List Int) : ∀ i, (valsM ms cs i).length = cs.length
  | 0 => rfl
  | i + 1 => by
    unfold valsM
    split
    · rw [addAt_len, valsM_len ms cs i]
    · exact valsM_len ms cs i
theorem addAt_get {cs : List Int} {x v : Int} {j : Nat} (h1 : 1 ≤ x) (h2 : x ≤ cs.length) : gt (addAt cs x v) j = gt cs j + (if x = (j : Int) + 1 then v else 0) := by
  unfold gt addAt
  rw [List.getD_eq_getElem?_getD, List.getD_eq_getElem?_getD, List.getElem?_set]
  by_cases e : x = (j : Int) + 1
  · have e2 : (x - 1).toNat = j := by omega
    rw [if_pos e2, if_pos (by omega), if_pos e]
    show gt cs (x - 1).toNat + v = _
    rw [e2]
    unfold gt
    rw [List.getD_eq_getElem?_getD]
  · have e2 : ¬ (x - 1).toNat = j := by omega
    rw [if_neg e2, if_neg e, Int.add_zero]
theorem addWay_get {v : Int} {j : Nat} : ∀ {l cs : List Int}, (∀ x ∈ l, 1 ≤ x ∧ x ≤ cs.length) → l.Nodup → gt (addWay cs l v) j = gt cs j + (if ((j : Int) + 1) ∈ l then v else 0)
  | [], cs, _, _ => by
    rw [if_neg List.not_mem_nil, Int.add_zero]
    rfl
  | x :: l, cs, h, nd => by
    obtain ⟨n1, n2⟩ := List.nodup_cons.mp nd
    obtain ⟨h1, h2⟩ := h x List.mem_cons_self
    show gt (addWay (addAt cs x v) l v) j = _
    rw [addWay_get (fun y hy => by rw [addAt_len]; exact h y (List.mem_cons_of_mem _ hy)) n2, addAt_get h1 h2]
    by_cases e : x = (j : Int) + 1
    · rw [if_pos e, if_neg (e ▸ n1), if_pos (by rw [e]; exact List.mem_cons_self)]
      omega
    · have e3 : (((j : Int) + 1) ∈ x :: l) = (((j : Int) + 1) ∈ l) := propext ⟨fun m => by
        rcases List.mem_cons.mp m with z | z
        · exact absurd z.symm e
        · exact z, List.mem_cons_of_mem _⟩
      rw [if_neg e]
      simp only [e3]
      omega
theorem Way.up_nodup {ms : List Int} (U : UpT ms) {e : Int} : ∀ {p : Int} {l : List Int}, Way ms e p l → l.Nodup
  | _, _, .nil => List.nodup_nil
  | p, _, .cons h h1 h2 hq t => by
    refine List.nodup_cons.mpr ⟨fun m => ?_, t.up_nodup U⟩
    have := t.up_gt U p m
    obtain ⟨b0, b1⟩ := U _ _ hq
    omega
/-- what the cells are: each value at the places of its walk -/
def cellS (ms vals : List Int) (i j : Nat) : Int := sumTo i fun p => if ((j : Int) + 1) ∈ uW ms ((p : Int) + 1) then gt vals p else 0
theorem cellsM_get {ms vals : List Int} (U : UpT ms) (h : ms.length ≤ 16) (j : Nat) : ∀ i, i ≤ ms.length → gt (cellsM ms vals i) j = cellS ms vals i j
  | 0, _ => by
    unfold gt cellsM
    rw [List.getD_eq_getElem?_getD, List.getElem?_replicate]
    split <;> rfl
  | i + 1, hi => by
    obtain ⟨w, hl⟩ := uW_way U h (by omega : (1 : Int) ≤ (i : Int) + 1) (by omega)
    show gt (addWay _ _ _) j = _
    rw [addWay_get (fun x hx => by rw [cellsM_len]; exact w.mem x hx) (w.up_nodup U), cellsM_get U h j i (by omega)]
    unfold cellS
    rw [sumTo_succ]
theorem valsM_get {ms cs : List Int} (U : UpT ms) (hl : cs.length = ms.length) (j : Nat) : ∀ i, i ≤ ms.length → j < ms.length → gt (valsM ms cs i) j = gt cs j - sumTo i fun k => if gt ms k = (j : Int) + 1 then gt cs k else 0
  | 0, _, _ => by
    rw [sumTo_zero, Int.sub_zero]
    rfl
  | i + 1, hi, hj => by
    have ih := valsM_get (cs := cs) U hl j i (by omega) hj
    obtain ⟨b0, b1⟩ := U i (gt ms i) (by unfold gt; rw [List.getD_eq_getElem?_getD, List.getElem?_eq_getElem (by omega)]; rfl)
    rw [sumTo_succ]
    unfold valsM
    split
    · rw [addAt_get (by omega) (by rw [valsM_len, hl]; assumption), ih]
      split <;> omega
    · rw [ih, if_neg (by omega)]
      omega
/-- of a walk, the places whose link is j -/
theorem way_next {ms : List Int} (U : UpT ms) (h : ms.length ≤ 16) (j : Nat) (hj : j < ms.length) : ∀ (m : Nat) (p : Nat), ms.length - p = m → p < ms.length →
    (sumTo ms.length fun k => if gt ms k = (j : Int) + 1 ∧ ((k : Int) + 1) ∈ uW ms ((p : Int) + 1) then 1 else 0) + (if j = p then 1 else 0) = (if ((j : Int) + 1) ∈ uW ms ((p : Int) + 1) then 1 else 0) := by
  intro m
  induction m using Nat.strongRecOn with
  | ind m ih =>
    intro p e hp
    have hq : ms[(((p : Int) + 1) - 1).toNat]? = some (gt ms p) := by
      have : (((p : Int) + 1) - 1).toNat = p := by omega
      rw [this]
      unfold gt
      rw [List.getD_eq_getElem?_getD, List.getElem?_eq_getElem hp]
      rfl
    obtain ⟨b0, b1⟩ := U p (gt ms p) (by unfold gt; rw [List.getD_eq_getElem?_getD, List.getElem?_eq_getElem hp]; rfl)
    obtain ⟨w, hl⟩ := uW_way U h (by omega : 1 ≤ gt ms p) b1
    obtain ⟨w0, hl0⟩ := uW_way U h (by omega : (1 : Int) ≤ (p : Int) + 1) (by omega)
    have w2 : Way ms (ms.length + 1) ((p : Int) + 1) (((p : Int) + 1) :: uW ms (gt ms p)) := .cons (by omega) (by omega) (by omega) hq w
    have ew : uW ms ((p : Int) + 1) = ((p : Int) + 1) :: uW ms (gt ms p) := w0.inj w2
    have np : ((p : Int) + 1) ∉ uW ms (gt ms p) := fun m => by
      have := w.up_gt U _ m
      omega
    have split1 : (sumTo ms.length fun k => if gt ms k = (j : Int) + 1 ∧ ((k : Int) + 1) ∈ uW ms ((p : Int) + 1) then (1 : Int) else 0) =
        (if gt ms p = (j : Int) + 1 then 1 else 0) + sumTo ms.length fun k => if gt ms k = (j : Int) + 1 ∧ ((k : Int) + 1) ∈ uW ms (gt ms p) then (1 : Int) else 0 := by
      rw [← sumTo_one hp fun k => if gt ms k = (j : Int) + 1 then (1 : Int) else 0, ← sumTo_add]
      refine sumTo_congr fun k hk => ?_
      rw [ew]
      by_cases ek : k = p
      · subst ek
        simp [np]
      · have : ¬ ((k : Int) + 1) = (p : Int) + 1 := by omega
        simp [ek, this]
    rw [split1, ew]
    by_cases last : gt ms p = ms.length + 1
    · have e0 : uW ms (gt ms p) = [] := by
        rw [last]
        exact (uW_way U h (by omega : (1 : Int) ≤ ms.length + 1) (Int.le_refl _)).1.inj .nil
      rw [e0, if_neg (by omega), sumTo_none fun k _ => if_neg fun z => absurd z.2 List.not_mem_nil]
      by_cases ej : j = p
      · subst ej
        simp
      · have : ¬ ((j : Int) + 1) = (p : Int) + 1 := by omega
        simp [ej, this]
    · obtain ⟨p2, ep2⟩ : ∃ p2 : Nat, gt ms p = (p2 : Int) + 1 := ⟨(gt ms p - 1).toNat, by omega⟩
      have := ih (ms.length - p2) (by omega) p2 rfl (by omega)
      rw [ep2] at np ⊢
      by_cases ej : j = p
      · subst ej
        rw [if_neg (show ¬ j = p2 by omega), Int.add_zero, if_neg np] at this
        rw [this, if_neg (by omega), if_pos rfl, if_pos List.mem_cons_self]
        rfl
      · have nj : ¬ ((j : Int) + 1) = (p : Int) + 1 := by omega
        rw [if_neg ej, Int.add_zero]
        have e3 : (((j : Int) + 1) ∈ ((p : Int) + 1) :: uW ms ((p2 : Int) + 1)) = (((j : Int) + 1) ∈ uW ms ((p2 : Int) + 1)) := propext ⟨fun m => by
          rcases List.mem_cons.mp m with z | z
          · exact absurd z nj
          · exact z, List.mem_cons_of_mem _⟩
        simp only [e3]
        rw [← this]
        by_cases ej2 : j = p2
        · subst ej2
          simp
          omega
        · have : ¬ (p2 : Int) + 1 = (j : Int) + 1 := by omega
          simp [ej2, this]
/-- each cell is its value and the cells that lead to it -/
theorem cell_rec {ms vals : List Int} (U : UpT ms) (h : ms.length ≤ 16) {j : Nat} (hj : j < ms.length) :
    cellS ms vals ms.length j = gt vals j + sumTo ms.length fun k => if gt ms k = (j : Int) + 1 then cellS ms vals ms.length k else 0 := by
  have e1 : (sumTo ms.length fun k => if gt ms k = (j : Int) + 1 then cellS ms vals ms.length k else 0) =
      sumTo ms.length fun p => sumTo ms.length fun k => (if gt ms k = (j : Int) + 1 ∧ ((k : Int) + 1) ∈ uW ms ((p : Int) + 1) then gt vals p else 0) := by
    rw [sumTo_swap]
    refine sumTo_congr fun k hk => ?_
    unfold cellS
    rw [sumTo_ite]
    refine sumTo_congr fun p hp => ?_
    by_cases c : gt ms k = (j : Int) + 1 <;> simp [c]
  have e2 : ∀ p, p < ms.length → (sumTo ms.length fun k => (if gt ms k = (j : Int) + 1 ∧ ((k : Int) + 1) ∈ uW ms ((p : Int) + 1) then gt vals p else 0)) + (if p = j then gt vals p else 0) =
      (if ((j : Int) + 1) ∈ uW ms ((p : Int) + 1) then gt vals p else 0) := by
    intro p hp
    have key := way_next U h j hj _ p rfl hp
    have mul : (sumTo ms.length fun k => (if gt ms k = (j : Int) + 1 ∧ ((k : Int) + 1) ∈ uW ms ((p : Int) + 1) then gt vals p else 0)) =
        (sumTo ms.length fun k => if gt ms k = (j : Int) + 1 ∧ ((k : Int) + 1) ∈ uW ms ((p : Int) + 1) then (1 : Int) else 0) * gt vals p := by
      generalize ms.length = n
      induction n with
      | zero => simp [sumTo]
      | succ n ih =>
        rw [sumTo_succ, sumTo_succ, ih, Int.add_mul]
        congr 1
        split <;> simp
    rw [mul]
    generalize (sumTo ms.length fun k => if gt ms k = (j : Int) + 1 ∧ ((k : Int) + 1) ∈ uW ms ((p : Int) + 1) then (1 : Int) else 0) = N at key ⊢
    by_cases c1 : j = p
    · subst c1
      rw [if_pos rfl] at key ⊢
      split at key
      · have : N = 0 := by omega
        subst this
        rw [if_pos (by assumption)]
        omega
      · have : N = -1 := by omega
        subst this
        rw [if_neg (by assumption)]
        omega
    · rw [if_neg c1] at key
      rw [if_neg (fun z => c1 z.symm)]
      split at key
      · have : N = 1 := by omega
        subst this
        rw [if_pos (by assumption)]
        omega
      · have : N = 0 := by omega
        subst this
        rw [if_neg (by assumption)]
        omega
  rw [e1]
  have e3 : gt vals j = sumTo ms.length fun p => if p = j then gt vals p else 0 := (sumTo_one hj fun p => gt vals p).symm
  rw [e3, Int.add_comm, ← sumTo_add]
  exact sumTo_congr fun p hp => (e2 p hp).symm
theorem ext_gt {xs ys : List Int} (hl : xs.length = ys.length) (h : ∀ j, j < xs.length → gt xs j = gt ys j) : xs = ys := by
  refine List.ext_getElem hl fun i h1 h2 => ?_
  have := h i h1
  unfold gt at this
  rw [List.getD_eq_getElem?_getD, List.getD_eq_getElem?_getD, List.getElem?_eq_getElem h1, List.getElem?_eq_getElem h2] at this
  exact this
/-- the values that lead to the cells are the values -/
theorem vals_of_cells {ms vals : List Int} (U : UpT ms) (h : ms.length ≤ 16) (hv : vals.length = ms.length) : valsM ms (cellsM ms vals ms.length) ms.length = vals := by
  refine ext_gt (by rw [valsM_len, cellsM_len, hv]) fun j hj => ?_
  rw [valsM_len, cellsM_len] at hj
  have e : (sumTo ms.length fun k => if gt ms k = (j : Int) + 1 then gt (cellsM ms vals ms.length) k else 0) = sumTo ms.length fun k => if gt ms k = (j : Int) + 1 then cellS ms vals ms.length k else 0 :=
    sumTo_congr fun k hk => by rw [cellsM_get U h k _ (Nat.le_refl _)]
  rw [valsM_get U (cellsM_len ..) j _ (Nat.le_refl _) hj, e, cellsM_get U h j _ (Nat.le_refl _), cell_rec U h hj]
  omega
/-- each row of cells is that of its values -/
theorem cells_of_vals {ms cs : List Int} (U : UpT ms) (h : ms.length ≤ 16) (hc : cs.length = ms.length) : cellsM ms (valsM ms cs ms.length) ms.length = cs := by
  refine ext_gt (by rw [cellsM_len, hc]) fun j hj => ?_
  rw [cellsM_len] at hj
  rw [cellsM_get U h j _ (Nat.le_refl _)]
  induction j using Nat.strongRecOn with
  | ind j ih =>
    rw [cell_rec U h hj, valsM_get U hc j _ (Nat.le_refl _) hj]
    have e : (sumTo ms.length fun k => if gt ms k = (j : Int) + 1 then cellS ms (valsM ms cs ms.length) ms.length k else 0) = sumTo ms.length fun k => if gt ms k = (j : Int) + 1 then gt cs k else 0 := by
      refine sumTo_congr fun k hk => ?_
      by_cases c : gt ms k = (j : Int) + 1
      · obtain ⟨b0, b1⟩ := U k (gt ms k) (by unfold gt; rw [List.getD_eq_getElem?_getD, List.getElem?_eq_getElem hk]; rfl)
        rw [if_pos c, if_pos c]
        exact ih k (by omega) hk
      · rw [if_neg c, if_neg c]
    rw [e]
    omega
theorem gt_at {xs : List Int} {i : Nat} (h : i < xs.length) : xs[i]? = some (gt xs i) := by
  unfold gt
  rw [List.getD_eq_getElem?_getD, List.getElem?_eq_getElem h]
  rfl
/-- numbers of a size -/
def Bnd (B : Nat) (xs : List Int) : Prop := ∀ x ∈ xs, x.natAbs ≤ B
theorem Bnd.small {B : Nat} {xs : List Int} (h : Bnd B xs) (hB : B < 2 ^ 130) : SmallL xs := fun x hx => Nat.lt_of_le_of_lt (h x hx) hB
theorem Bnd.gt {B : Nat} {xs : List Int} (h : Bnd B xs) (i : Nat) : (KX.gt xs i).natAbs ≤ B := by
  by_cases hi : i < xs.length
  · exact h _ (List.mem_of_getElem? (gt_at hi))
  · unfold KX.gt
    rw [List.getD_eq_getElem?_getD, List.getElem?_eq_none (by omega)]
    exact Nat.zero_le _
theorem Bnd.of_gt {B : Nat} {xs : List Int} (h : ∀ i, i < xs.length → (KX.gt xs i).natAbs ≤ B) : Bnd B xs := by
  intro x hx
  obtain ⟨i, hi, e⟩ := List.getElem_of_mem hx
  have := h i hi
  unfold KX.gt at this
  rw [List.getD_eq_getElem?_getD, List.getElem?_eq_getElem hi, e] at this
  exact this
theorem sumTo_bnd {B : Nat} {f : Nat → Int} (h : ∀ i, (f i).natAbs ≤ B) : ∀ n, (sumTo n f).natAbs ≤ n * B
  | 0 => by simp [sumTo]
  | n + 1 => by
    have h1 := sumTo_bnd h n
    have h2 := h n
    rw [sumTo_succ, Nat.add_mul, Nat.one_mul]
    omega
theorem cells_bnd {ms vals : List Int} {B : Nat} (U : UpT ms) (h : ms.length ≤ 16) (b : Bnd B vals) : Bnd (16 * B) (cellsM ms vals ms.length) := by
  refine Bnd.of_gt fun j hj => ?_
  rw [cellsM_get U h j _ (Nat.le_refl _)]
  have := sumTo_bnd (B := B) (f := fun p => if ((j : Int) + 1) ∈ uW ms ((p : Int) + 1) then KX.gt vals p else 0) (fun p => by
    show (if ((j : Int) + 1) ∈ uW ms ((p : Int) + 1) then KX.gt vals p else 0).natAbs ≤ B
    split
    · exact b.gt p
    · exact Nat.zero_le _) ms.length
  exact Nat.le_trans this (Nat.mul_le_mul_right B h)
theorem vals_bnd {ms cs : List Int} {B : Nat} (U : UpT ms) (h : ms.length ≤ 16) (hc : cs.length = ms.length) (b : Bnd B cs) : Bnd (17 * B) (valsM ms cs ms.length) := by
  refine Bnd.of_gt fun j hj => ?_
  rw [valsM_len, hc] at hj
  rw [valsM_get U hc j _ (Nat.le_refl _) hj]
  have := sumTo_bnd (B := B) (f := fun k => if KX.gt ms k = (j : Int) + 1 then KX.gt cs k else 0) (fun k => by
    show (if KX.gt ms k = (j : Int) + 1 then KX.gt cs k else 0).natAbs ≤ B
    split
    · exact b.gt k
    · exact Nat.zero_le _) ms.length
  have h2 := Nat.le_trans this (Nat.mul_le_mul_right B h)
  have h3 := b.gt j
  omega
def totM (cs l : List Int) : Int := (l.map fun x => gt cs (x - 1).toNat).sum
theorem totM_bnd {cs : List Int} {B : Nat} (b : Bnd B cs) : ∀ l : List Int, (totM cs l).natAbs ≤ l.length * B
  | [] => by simp [totM]
  | x :: l => by
    have h1 := totM_bnd b l
    have h2 := b.gt (x - 1).toNat
    have e : totM cs (x :: l) = KX.gt cs (x - 1).toNat + totM cs l := by simp [totM]
    rw [e, List.length_cons, Nat.add_mul, Nat.one_mul]
    omega
theorem at_gt {xs : List Int} {p : Int} (h1 : 1 ≤ p) (h2 : p ≤ xs.length) : atI (xs.map V.int) (p - 1) = some (.int (gt xs (p - 1).toNat)) :=
  at_ints h1 (gt_at (by omega))
theorem set_addAt (cs : List Int) (x v : Int) : (cs.map V.int).set (x - 1).toNat (V.int (gt cs (x - 1).toNat + v)) = (addAt cs x v).map V.int := by
  unfold addAt
  rw [List.map_set]
theorem set_subAt (cs : List Int) (x v : Int) : (cs.map V.int).set (x - 1).toNat (V.int (gt cs (x - 1).toNat - v)) = (addAt cs x (-v)).map V.int := by
  unfold addAt
  rw [List.map_set]
  rfl
theorem addWay_snoc (cs l : List Int) (x v : Int) : addWay cs (l ++ [x]) v = addAt (addWay cs l v) x v := by
  unfold addWay
  rw [List.foldl_append]
  rfl
theorem nice_ints_b {B : Nat} {xs : List Int} (b : Bnd B xs) (hl : xs.length ≤ 16) (hB : B < 2 ^ 130 := by decide) : Nice 1 691 (dInts xs) := nice_ints (m := 16) (b.small hB) hl
theorem nice_ints2 {B : Nat} {xs : List Int} (b : Bnd B xs) (hl : xs.length ≤ 16) (hB : B < 2 ^ 130 := by decide) : Nice 2 (2 * (691 + 2) + 3) (.list [dInts xs, dInts xs]) := by
  refine nice_list (n := 1) (z := 691) (m := 2) (fun d hd => ?_) (Nat.le_refl 2)
  have : d = dInts xs := by simpa using hd
  subst this
  exact nice_ints_b b hl hB
theorem nice_kept {H : Hp} {t f r : Addr} {ns ms vals : List Int} {B : Nat} (p : PairAt H t f r ns ms) (b : Bnd B vals) (hl : vals.length ≤ 16) (hB : B < 2 ^ 130 := by decide) :
    Nice 3 (2 * (2 * (16 * 43 + 3 + 2) + 3 + 2) + 3) (.list [.tuple [dInts ns, dInts ms], dInts vals]) := by
  refine nice_list (n := 2) (z := 2 * (16 * 43 + 3 + 2) + 3) (m := 2) (fun d hd => ?_) (Nat.le_refl 2)
  have : d = .tuple [dInts ns, dInts ms] ∨ d = dInts vals := by simpa using hd
  rcases this with z | z
  · subst z
    exact p.nice
  · subst z
    exact (nice_ints_b b hl hB).mono (by decide) (by decide)
theorem dp_kept {K : PySem.W.Frag} {H : Hp} {l t f r v : Addr} {ns ms vals : List Int} (e : H l = some (.lst [.ref t, .ref v])) (p : PairAt H t f r ns ms) (h : Ints H v vals) : Dp K H (.ref l) (.list [.tuple [dInts ns, dInts ms], dInts vals]) :=
  .lst (.inl (.inl e)) (.cons p.dp (.cons (dp_ints h) .nil))
theorem dp_same2 {K : PySem.W.Frag} {H : Hp} {l a b : Addr} {xs : List Int} (e : H l = some (.lst [.ref a, .ref b])) (h1 : Ints H a xs) (h2 : Ints H b xs) : Dp K H (.ref l) (.list [dInts xs, dInts xs]) :=
  .lst (.inl (.inl e)) (.cons (dp_ints h1) (.cons (dp_ints h2) .nil))
end KX

namespace KX
open PySem PySem.Spec PyProof.Rows L2
/-! ### sorted(d), the keys of d pairs of ints -/
/-- a pair, as it stands on the heap -/
def pairOf (H : Hp) (v : Value) : Int × Int := match v with
  | .ref b => match H b with
    | some (.tup [.int i, .int j]) => (i, j)
    | _ => (0, 0)
  | _ => (0, 0)
theorem pairOf_at {H : Hp} {b : Addr} {i j : Int} (h : H b = some (.tup [.int i, .int j])) : pairOf H (.ref b) = (i, j) := by
  unfold pairOf
  simp only [h]
/-- an entry: where a pair stands, and it -/
abbrev PA := Addr × Int × Int
def rSortedDT : List V → Hp → VK → Prop := fun xs H Q => ∃ (d : Addr) (kvs : List (List Key × V)) (ps : List (Int × Int)), xs = [.ref d] ∧ Rd H d (.dT kvs) ∧ kvs.map (·.1) = ps.map (fun p => [Sum.inl p.1, Sum.inl p.2]) ∧
  ∀ (ys : List PA) (p : Addr), (ys.map (·.2)).Perm ps → ys.Pairwise (fun x y => SrtO.lexB y.2 x.2 = false) → (∀ y ∈ ys, H y.1 = some (.tup [.int y.2.1, .int y.2.2])) → H p = none → Q (.ref p) (upd H p (.lst (ys.map fun y => V.ref y.1)))
theorem keys_at {H : Hp} : ∀ {kvs : List (List Key × V)} {bs : List Addr} {ps : List (Int × Int)}, IsKeys H kvs bs → kvs.map (·.1) = ps.map (fun p => [Sum.inl p.1, Sum.inl p.2]) →
    bs.map (fun b => pairOf H (.ref b)) = ps ∧ ∀ b ∈ bs, ∃ i j, H b = some (.tup [.int i, .int j])
  | _, _, [], .nil, _ => ⟨rfl, fun b h => absurd h List.not_mem_nil⟩
  | _, _, p :: ps, .nil, h => by cases h
  | _, _, [], .cons _ _, h => by cases h
  | kv :: kvs, b :: bs, p :: ps, .cons hb t, h => by
    obtain ⟨h1, h2⟩ := List.cons.inj h
    obtain ⟨r1, r2⟩ := keys_at (ps := ps) t h2
    have hb : H b = some (.tup (kv.1.map kV)) := hb
    have h1 : kv.1 = [Sum.inl p.1, Sum.inl p.2] := h1
    rw [h1] at hb
    have hb2 : H b = some (.tup [.int p.1, .int p.2]) := hb
    refine ⟨?_, fun c hc => ?_⟩
    · show pairOf H (.ref b) :: bs.map _ = _
      rw [r1, pairOf_at hb2]
    · rcases List.mem_cons.mp hc with z | z
      · subst z
        exact ⟨_, _, hb2⟩
      · exact r2 c z
def addrOf : Value → Addr
  | .ref b => b
  | _ => 0
theorem call_sortedDT {X : Cx} (hc : X.calm = true) : CallR X (.builtin "sorted") rSortedDT := by
  intro pins s σ H xs us Q I r h
  obtain ⟨d, kvs, ps, rfl, hd, hks, q⟩ := h
  obtain ⟨u, rfl, rx⟩ := r.one
  cases rx
  obtain ⟨z, hs, ks, pr, o, es, ep, ho, hx, hdt, he, hn⟩ := (show ObjOk X.prog X.w H s.heap d (.dT kvs) from hd.ok I.hok)
  have l1 : es.size = ks.length := size_of_entries he
  have l2 : kvs.length = ks.length := Paired.length pr
  have ik := isKeys_of pr
  refine Calls.call_function_entry PyProof.Rows.kind_sorted PyProof.Rows.plain_sorted PyProof.Rows.entry_sorted (PyProof.Rows.args_sorted1 _) ?_
  unfold Builtin.«sorted»
  refine wpAny_bind (m := checkCount "sorted" 1 1 _) (wpAny_pure ?_)
  refine wpAny_bind (PySem.W.kdu_collect (A := X.A.in1) (kdl_raw hs hx hdt) (I.ok.hd hc) ho (by omega) fun h' tk acc hk hacc => ?_)
  have ea : acc.toList = ks.map fun x => Value.ref x.2.1 := by
    have hl : acc.toList.length = ks.length := by rw [Array.length_toList, hacc.1]; exact l1
    refine List.ext_getElem? fun j => ?_
    rw [List.getElem?_map]
    cases hj : acc.toList[j]? with
    | none =>
      have h1 := List.getElem?_eq_none_iff.mp hj
      rw [List.getElem?_eq_none (by omega)]
      rfl
    | some v =>
      obtain ⟨en, hen, hv⟩ := hacc.2 j v (by rw [← Array.getElem?_toList]; exact hj)
      have qe := entry_at he j
      rw [hen] at qe
      cases hb : ks[j]? with
      | none =>
        rw [hb] at qe
        exact nomatch (show some en = none from qe)
      | some b =>
        rw [hb] at qe
        have e2 : en = entryOfKey (tupleKind (mixKind X.prog X.w)) b := Option.some.inj qe
        rw [hv, e2]
        rfl
  obtain ⟨kp, kat⟩ := keys_at ik hks
  have I1 : Inv X pins σ H { s with heap := h', toks := tk } := I.kept hk
  have hlen : acc.toList.length ≤ sizeLine := by
    rw [ea, List.length_map]
    omega
  have refs : ∀ v ∈ acc.toList, ∃ b i j, v = Value.ref b ∧ H b = some (.tup [.int i, .int j]) := by
    intro v hv
    rw [ea] at hv
    obtain ⟨x, hx', rfl⟩ := List.mem_map.mp hv
    obtain ⟨i, j, e⟩ := kat x.2.1 (List.mem_map.mpr ⟨x, hx', rfl⟩)
    exact ⟨_, i, j, rfl, e⟩
  have prs : ∀ v ∈ acc.toList, Srt.IsPair h' v (pairOf H v).1 (pairOf H v).2 := by
    intro v hv
    obtain ⟨b, i, j, rfl, e⟩ := refs v hv
    rw [pairOf_at e]
    obtain ⟨_, its2, r2, o2, ho2, hc2, n2, hd2⟩ := (show ObjOk X.prog X.w H h' b (.tup [.int i, .int j]) from I1.hok b _ e)
    obtain ⟨u1, u2, rfl, ⟨t1, rfl⟩, ⟨t2, rfl⟩⟩ := vals2 r2
    exact ⟨b, o2, t1, t2, n2, rfl, ho2, hc2, hd2⟩
  refine wpAny_bind (wpAny_newList ?_ hlen)
  have hoL : (h'.push (seqObj "list" acc.toList.toArray 0)).get? h'.objs.size = some (seqObj "list" acc.toList.toArray 0) := Heap.get?_push_size _ rfl
  show wpAny _ _ _ _ _ { s with heap := h'.push (seqObj "list" acc.toList.toArray 0), toks := tk }
  refine wpAny_bind (wpAny_holding (wpAny_call_entry PyProof.Rows.slot_list_sort ⟨_, hoL, rfl⟩ PyProof.Rows.entry_list_sort
    (SrtO.list_sort_ord (ltv := fun v u => SrtO.lexB (pairOf H v) (pairOf H u)) (SrtO.swo_lex (pairOf H)) hoL hlen (fun h2 => ?_) fun out hso hst => ⟨_, rfl, ?_⟩) (PyProof.Rows.args_list_sort _)))
  · refine SrtO.pairs_sortableO (by omega) (fun v hm => (prs v hm).keeps fun b o e _ => Heap.get?_push_of_some _ e) fun o e => ?_
    have e' : some o = some (seqObj "list" acc.toList.toArray 0) := e.symm.trans hoL
    cases e'
    intro c
    exact absurd (Value.type.inj c) (by decide)
  · obtain ⟨e', he'⟩ := PyProof.Rows.sortedHeap_at (vs := acc.toList) (out := out.toArray) hoL
    have orefs : ∀ v ∈ out, ∃ b i j, v = Value.ref b ∧ H b = some (.tup [.int i, .int j]) := fun v hv => refs v (hst.perm.mem_iff.mp hv)
    have eo : (out.map fun v => (addrOf v, pairOf H v)).map (fun y => V.ref y.1) = out.map (fun v => V.ref (addrOf v)) := by
      rw [List.map_map]
      rfl
    have rv : Vals (out.map fun v => V.ref (addrOf v)) out := by
      clear hso hst he' eo
      induction out with
      | nil => exact .nil
      | cons v out ih =>
        obtain ⟨b, i, j, rfl, _⟩ := orefs v List.mem_cons_self
        exact .cons rfl (ih fun w hw => orefs w (List.mem_cons_of_mem _ hw))
    have hl2 : (out.map fun v => V.ref (addrOf v)).length ≤ sizeLine := by
      rw [List.length_map, hst.perm.length_eq]
      exact hlen
    have perm : ((out.map fun v => (addrOf v, pairOf H v)).map (·.2)).Perm ps := by
      have p1 : (out.map (pairOf H)).Perm (acc.toList.map (pairOf H)) := hst.perm.map _
      have p2 : acc.toList.map (pairOf H) = ps := by
        rw [ea, List.map_map, ← kp, List.map_map]
        rfl
      rw [List.map_map, ← p2]
      exact p1
    have fin := q (out.map fun v => (addrOf v, pairOf H v)) h'.objs.size perm (List.pairwise_map.mpr hso) (fun y hy => by
      obtain ⟨v, hv, rfl⟩ := List.mem_map.mp hy
      obtain ⟨b, i, j, rfl, e⟩ := orefs v hv
      rw [pairOf_at e]
      exact e) (I1.hok.fresh (Nat.le_refl _))
    rw [eo] at fin
    refine wpAny_pure ⟨_, rfl, .ref h'.objs.size, upd H h'.objs.size (.lst (out.map fun v => V.ref (addrOf v))), I1.laid (t' := tk) (fun b u e => ?_) (Nat.le_refl _)
      (show ObjOk X.prog X.w _ _ _ (.lst (out.map fun v => V.ref (addrOf v))) from ⟨hl2, out, e', rv, he'⟩), rfl, fin⟩
    have hb : b < h'.objs.size := Heap.lt_size e
    rw [PyProof.Rows.sortedHeap_old (Nat.ne_of_lt hb) (by rw [size_push']; exact Nat.lt_succ_of_lt hb)]
    exact Heap.get?_push_of_some _ e
end KX

namespace KX
open PySem PySem.Spec PyProof.Rows L2
/-! ### a dict of counts by pairs -/
abbrev k2 (p : Int × Int) : List Key := [Sum.inl p.1, Sum.inl p.2]
theorem k2_inj {p q : Int × Int} (h : k2 p = k2 q) : p = q := by
  obtain ⟨a, b⟩ := p
  obtain ⟨c, d⟩ := q
  have h1 := (List.cons.inj h).1
  have h2 := (List.cons.inj (List.cons.inj h).2).1
  have e1 : a = c := Sum.inl.inj h1
  have e2 : b = d := Sum.inl.inj h2
  rw [e1, e2]
structure SumD (kvs : List (List Key × V)) (ps : List (Int × Int)) (S : Int × Int → Int) : Prop where
  keys : kvs.map (·.1) = ps.map k2
  nd : ps.Nodup
  here : ∀ p ∈ ps, valV kvs (k2 p) = some (.int (S p))
  none : ∀ p, p ∉ ps → valV kvs (k2 p) = none ∧ S p = 0
theorem SumD.get {kvs : List (List Key × V)} {ps : List (Int × Int)} {S : Int × Int → Int} (h : SumD kvs ps S) (p : Int × Int) : (valV kvs (k2 p)).getD (.int 0) = .int (S p) := by
  by_cases m : p ∈ ps
  · rw [h.here p m]
    rfl
  · obtain ⟨e1, e2⟩ := h.none p m
    rw [e1, e2]
    rfl
theorem SumD.len {kvs : List (List Key × V)} {ps : List (Int × Int)} {S : Int × Int → Int} (h : SumD kvs ps S) : kvs.length = ps.length := by
  have := congrArg List.length h.keys
  rw [List.length_map, List.length_map] at this
  exact this
theorem putK_keys {kvs : List (List Key × V)} {k : List Key} {v o : V} (h : valV kvs k = some o) : (putK kvs k v).map (·.1) = kvs.map (·.1) := by
  unfold putK
  rw [valV_any, h, if_pos (show (some o).isSome = true from rfl), List.map_map]
  refine List.map_congr_left fun kv _ => ?_
  show (if kv.1 = k then (kv.1, v) else kv).1 = kv.1
  split <;> rfl
/-- one more at a pair -/
def bump (S : Int × Int → Int) (p : Int × Int) (m : Int) : Int × Int → Int := fun q => S q + (if q = p then m else 0)
theorem SumD.put {kvs : List (List Key × V)} {ps : List (Int × Int)} {S : Int × Int → Int} (h : SumD kvs ps S) (p : Int × Int) (m : Int) :
    ∃ ps', SumD (putK kvs (k2 p) (.int (S p + m))) ps' (bump S p m) ∧ ps'.length ≤ ps.length + 1 := by
  have val : ∀ q, valV (putK kvs (k2 p) (.int (S p + m))) (k2 q) = if q = p then some (.int (S p + m)) else valV kvs (k2 q) := by
    intro q
    rw [valV_put]
    by_cases e : q = p
    · subst e
      rw [if_pos rfl, if_pos rfl]
    · rw [if_neg (fun z => e (k2_inj z)), if_neg e]
  by_cases mem : p ∈ ps
  · refine ⟨ps, ⟨?_, h.nd, fun q hq => ?_, fun q hq => ?_⟩, Nat.le_succ _⟩
    · rw [putK_keys (h.here p mem)]
      exact h.keys
    · rw [val]
      unfold bump
      by_cases e : q = p
      · subst e
        rw [if_pos rfl, if_pos rfl]
      · rw [if_neg e, if_neg e, Int.add_zero]
        exact h.here q hq
    · have e : ¬ q = p := fun z => hq (z ▸ mem)
      rw [val, if_neg e]
      unfold bump
      rw [if_neg e, Int.add_zero]
      exact h.none q hq
  · obtain ⟨n1, n2⟩ := h.none p mem
    refine ⟨ps ++ [p], ⟨?_, ?_, fun q hq => ?_, fun q hq => ?_⟩, by rw [List.length_append]; exact Nat.le_refl _⟩
    · rw [putK_new _ n1, List.map_append, List.map_append, h.keys]
      rfl
    · refine List.nodup_append.mpr ⟨h.nd, List.nodup_cons.mpr ⟨List.not_mem_nil, List.nodup_nil⟩, fun x hx y hy z => ?_⟩
      rw [List.mem_singleton.mp hy] at z
      exact mem (z ▸ hx)
    · rw [val]
      unfold bump
      by_cases e : q = p
      · subst e
        rw [if_pos rfl, if_pos rfl]
      · rw [if_neg e, if_neg e, Int.add_zero]
        rcases List.mem_append.mp hq with z | z
        · exact h.here q z
        · exact absurd (List.mem_singleton.mp z) e
    · have q1 : q ∉ ps := fun z => hq (List.mem_append_left _ z)
      have q2 : ¬ q = p := fun z => hq (List.mem_append_right _ (by rw [z]; exact List.mem_cons_self))
      rw [val, if_neg q2]
      unfold bump
      rw [if_neg q2, Int.add_zero]
      exact h.none q q1
theorem SumD.nil : SumD [] [] (fun _ => 0) := ⟨rfl, List.nodup_nil, fun p h => absurd h List.not_mem_nil, fun p _ => ⟨rfl, rfl⟩⟩
/-! ### signed sums, by the places -/
def ctr (ns ms : List Int) (k : Nat) (p : Int × Int) : Int :=
  (if 0 < gt ns k ∧ p = ((k : Int) + 1, gt ns k) then 1 else 0) + (if gt ms k ≤ ms.length ∧ p = (gt ms k, (k : Int) + 1) then 1 else 0) +
    (if (0 < gt ns k ∧ gt ms k ≤ ms.length) ∧ p = (gt ms k, gt ns k) then -1 else 0)
def sgn (ns ms : List Int) (m : Nat) (p : Int × Int) : Int := sumTo m fun k => ctr ns ms k p
theorem sgn_succ (ns ms : List Int) (m : Nat) (p : Int × Int) : sgn ns ms (m + 1) p = sgn ns ms m p + ctr ns ms m p := sumTo_succ _ _
/-- the signed sum by its definition -/
def sdef (ns ms : List Int) (i j : Nat) : Int :=
  (if gt ns i = (j : Int) + 1 then 1 else 0) + (if gt ms j = (i : Int) + 1 then 1 else 0) - sumTo ms.length fun k => if gt ms k = (i : Int) + 1 ∧ gt ns k = (j : Int) + 1 then 1 else 0
theorem sumTo_neg (n : Nat) (f : Nat → Int) : sumTo n (fun i => -(f i)) = -(sumTo n f) := by
  induction n with
  | zero => rfl
  | succ n ih =>
    rw [sumTo_succ, sumTo_succ, ih]
    omega
theorem sgn_def {ns ms : List Int} (hl : ms.length = ns.length) {i j : Nat} (hi : i < ns.length) (hj : j < ns.length) : sgn ns ms ns.length ((i : Int) + 1, (j : Int) + 1) = sdef ns ms i j := by
  unfold sgn sdef
  have e : ∀ k, k < ns.length → ctr ns ms k ((i : Int) + 1, (j : Int) + 1) =
      ((if k = i then (if gt ns k = (j : Int) + 1 then 1 else 0) else 0) + (if k = j then (if gt ms k = (i : Int) + 1 then 1 else 0) else 0)) +
        -(if gt ms k = (i : Int) + 1 ∧ gt ns k = (j : Int) + 1 then (1 : Int) else 0) := by
    intro k hk
    unfold ctr
    simp only [Prod.mk.injEq]
    have t1 : (if 0 < gt ns k ∧ ((i : Int) + 1 = (k : Int) + 1 ∧ (j : Int) + 1 = gt ns k) then (1 : Int) else 0) = if k = i then (if gt ns k = (j : Int) + 1 then 1 else 0) else 0 := by
      repeat' split
      all_goals omega
    have t2 : (if gt ms k ≤ ms.length ∧ ((i : Int) + 1 = gt ms k ∧ (j : Int) + 1 = (k : Int) + 1) then (1 : Int) else 0) = if k = j then (if gt ms k = (i : Int) + 1 then 1 else 0) else 0 := by
      repeat' split
      all_goals omega
    have t3 : (if (0 < gt ns k ∧ gt ms k ≤ ms.length) ∧ ((i : Int) + 1 = gt ms k ∧ (j : Int) + 1 = gt ns k) then (-1 : Int) else 0) = -(if gt ms k = (i : Int) + 1 ∧ gt ns k = (j : Int) + 1 then (1 : Int) else 0) := by
      repeat' split
      all_goals omega
    rw [t1, t2, t3]
  rw [sumTo_congr e, sumTo_add, sumTo_add, sumTo_one hi fun k => if gt ns k = (j : Int) + 1 then 1 else 0, sumTo_one hj fun k => if gt ms k = (i : Int) + 1 then 1 else 0, sumTo_neg, hl]
  omega
/-- nothing but for places within, the greater one first -/
theorem sgn_out {ns ms : List Int} (D : DownT ns) (U : UpT ms) (hl : ms.length = ns.length) {p : Int × Int} (h : ¬ (1 ≤ p.2 ∧ p.2 < p.1 ∧ p.1 ≤ ns.length)) : sgn ns ms ns.length p = 0 := by
  refine sumTo_none fun k hk => ?_
  obtain ⟨b0, b1⟩ := D k (gt ns k) (gt_at hk)
  obtain ⟨c0, c1⟩ := U k (gt ms k) (gt_at (by omega))
  unfold ctr
  have f1 : ¬ (0 < gt ns k ∧ p = ((k : Int) + 1, gt ns k)) := fun z => h (by rw [z.2]; exact ⟨by show 1 ≤ gt ns k; omega, by show gt ns k < (k : Int) + 1; omega, by show (k : Int) + 1 ≤ ns.length; omega⟩)
  have f2 : ¬ (gt ms k ≤ ms.length ∧ p = (gt ms k, (k : Int) + 1)) := fun z => h (by rw [z.2]; exact ⟨by show 1 ≤ (k : Int) + 1; omega, by show (k : Int) + 1 < gt ms k; omega, by show gt ms k ≤ ns.length; omega⟩)
  have f3 : ¬ ((0 < gt ns k ∧ gt ms k ≤ ms.length) ∧ p = (gt ms k, gt ns k)) := fun z => h (by rw [z.2]; exact ⟨by show 1 ≤ gt ns k; omega, by show gt ns k < gt ms k; omega, by show gt ms k ≤ ns.length; omega⟩)
  rw [if_neg f1, if_neg f2, if_neg f3]
  rfl
/-! ### lists in order, told by what is in them -/
abbrev Tri := (Int × Int) × Int
def before (x y : Tri) : Prop := x.1.1 < y.1.1 ∨ (x.1.1 = y.1.1 ∧ x.1.2 < y.1.2)
theorem order_one : ∀ {l m : List Tri}, l.Pairwise before → m.Pairwise before → (∀ x, x ∈ l ↔ x ∈ m) → l = m
  | [], [], _, _, _ => rfl
  | [], y :: m, _, _, h => absurd ((h y).mpr List.mem_cons_self) List.not_mem_nil
  | x :: l, [], _, _, h => absurd ((h x).mp List.mem_cons_self) List.not_mem_nil
  | x :: l, y :: m, h1, h2, h => by
    obtain ⟨a1, a2⟩ := List.pairwise_cons.mp h1
    obtain ⟨b1, b2⟩ := List.pairwise_cons.mp h2
    have irr : ∀ z : Tri, ¬ before z z := fun z q => by
      unfold before at q
      omega
    have asy : ∀ z w : Tri, before z w → ¬ before w z := fun z w q r => by
      unfold before at q r
      omega
    have e : x = y := by
      rcases List.mem_cons.mp ((h x).mp List.mem_cons_self) with z | z
      · exact z
      · rcases List.mem_cons.mp ((h y).mpr List.mem_cons_self) with w | w
        · exact w.symm
        · exact absurd (a1 y w) (asy _ _ (b1 x z))
    subst e
    have t : l = m := by
      refine order_one a2 b2 fun z => ⟨fun hz => ?_, fun hz => ?_⟩
      · rcases List.mem_cons.mp ((h z).mp (List.mem_cons_of_mem _ hz)) with w | w
        · subst w
          exact absurd (a1 z hz) (irr z)
        · exact w
      · rcases List.mem_cons.mp ((h z).mpr (List.mem_cons_of_mem _ hz)) with w | w
        · subst w
          exact absurd (b1 z hz) (irr z)
        · exact w
    rw [t]
/-- the signed sums that are not 0, in order -/
structure IsSums (ns ms : List Int) (ts : List Tri) : Prop where
  ord : ts.Pairwise before
  mem : ∀ x : Tri, x ∈ ts ↔ x.2 ≠ 0 ∧ x.2 = sgn ns ms ns.length x.1
theorem IsSums.one {ns ms : List Int} {ts us : List Tri} (h : IsSums ns ms ts) (g : IsSums ns ms us) : ts = us :=
  order_one h.ord g.ord fun x => (h.mem x).trans (g.mem x).symm
def tTr (K : PySem.W.Frag) (ta : TE) : TT := fun σ H Q => ta σ H fun x H' => ∃ k, TruV K x H' k ∧ Q k H'
theorem ptT {X : Cx} {a : Expr} {ta : TE} (K : PySem.W.Frag) (ha : PE X a ta) (he : ∀ whole, isTrue a X.env whole = (do let v ← whole; standAt a.pos; holding [v] (truthy v))) (e : X.K = K := by rfl) :
    PT X a (tTr K ta) := by
  subst e
  exact pt_truth ha he
structure TriAt (H : Hp) (q : Addr) (as : List Addr) (ts : List Tri) : Prop where
  top : H q = some (.lst (as.map V.ref))
  len : as.length = ts.length
  row : ∀ (i : Nat) (a : Addr) (x : Tri), as[i]? = some a → ts[i]? = some x → H a = some (.tup [.int x.1.1, .int x.1.2, .int x.2])
theorem TriAt.same {H H' : Hp} {q : Addr} {as : List Addr} {ts : List Tri} (h : TriAt H q as ts) (s : Same H H') : TriAt H' q as ts :=
  ⟨s _ _ h.top, h.len, fun i a x h1 h2 => s _ _ (h.row i a x h1 h2)⟩
theorem TriAt.nil {H : Hp} {q : Addr} (e : H q = some (.lst [])) : TriAt H q [] [] := ⟨e, rfl, fun i a x h _ => by simp at h⟩
theorem TriAt.ne {H : Hp} {q : Addr} {as : List Addr} {ts : List Tri} (h : TriAt H q as ts) : ∀ a ∈ as, a ≠ q := by
  intro a ha z
  obtain ⟨i, hi, e⟩ := List.getElem_of_mem ha
  have h1 : as[i]? = some a := by rw [List.getElem?_eq_getElem hi, e]
  have h2 := List.getElem?_eq_getElem (show i < ts.length by rw [← h.len]; exact hi)
  have y := h.row i a _ h1 h2
  rw [z, h.top] at y
  cases y
theorem TriAt.snoc {H H' : Hp} {q a : Addr} {as : List Addr} {ts : List Tri} {x : Tri} (h : TriAt H q as ts) (s : Same H H') (na : a ≠ q) (ha : H' a = some (.tup [.int x.1.1, .int x.1.2, .int x.2])) :
    TriAt (L2.upd H' q (.lst (as.map V.ref ++ [V.ref a]))) q (as ++ [a]) (ts ++ [x]) := by
  refine ⟨by rw [upd_same, List.map_append]; rfl, by rw [List.length_append, List.length_append, h.len]; rfl, ?_⟩
  intro i b y h1 h2
  by_cases hi : i < as.length
  · rw [List.getElem?_append_left hi] at h1
    rw [List.getElem?_append_left (by rw [← h.len]; exact hi)] at h2
    rw [upd_ne (h.ne b (List.mem_of_getElem? h1))]
    exact s _ _ (h.row i b y h1 h2)
  · have hl := (List.getElem?_eq_some_iff.mp h1).1
    rw [List.length_append] at hl
    have e : i = as.length := by
      have : [a].length = 1 := rfl
      omega
    subst e
    rw [List.getElem?_append_right (Nat.le_refl _), Nat.sub_self] at h1
    rw [h.len, List.getElem?_append_right (Nat.le_refl _), Nat.sub_self] at h2
    cases h1
    cases h2
    rw [upd_ne na]
    exact ha
abbrev dTri (x : Tri) : PyData := .tuple [.int x.1.1, .int x.1.2, .int x.2]
theorem TriAt.dp {K : PySem.W.Frag} {H : Hp} {q : Addr} {as : List Addr} {ts : List Tri} (h : TriAt H q as ts) : Dp K H (.ref q) (.list (ts.map dTri)) := by
  refine .lst (.inl (.inl h.top)) (dp_gen (q := q) (by rw [List.length_map]; exact h.len) fun i a d h1 h2 => ?_)
  rw [List.getElem?_map] at h2
  cases e : ts[i]? with
  | none =>
    rw [e] at h2
    cases h2
  | some x =>
    rw [e] at h2
    cases h2
    exact .tup (.inl (.inl (h.row i a x h1 e))) (.cons (.int _) (.cons (.int _) (.cons (.int _) .nil)))
/-- the kept ones of sorted pairs -/
def keptOf (S : Int × Int → Int) (l : List (Int × Int)) : List Tri := (l.filter fun p => decide (S p ≠ 0)).map fun p => (p, S p)
theorem kept_sums {ns ms : List Int} {ps l : List (Int × Int)} {kvs : List (List Key × V)} (h : SumD kvs ps (sgn ns ms ns.length)) (perm : l.Perm ps) (ord : l.Pairwise fun x y => SrtO.lexB y x = false) : IsSums ns ms (keptOf (sgn ns ms ns.length) l) := by
  refine ⟨?_, fun x => ?_⟩
  · refine List.pairwise_map.mpr ?_
    have nd : l.Nodup := perm.nodup_iff.mpr h.nd
    have both := (ord.and nd).filter fun p => decide (sgn ns ms ns.length p ≠ 0)
    refine both.imp fun {a b} q => ?_
    obtain ⟨q1, q2⟩ := q
    have q3 := SrtO.lexB_no.mp q1
    have q4 : ¬ (a.1 = b.1 ∧ a.2 = b.2) := fun z => q2 (Prod.ext z.1 z.2)
    unfold before
    show a.1 < b.1 ∨ (a.1 = b.1 ∧ a.2 < b.2)
    omega
  · constructor
    · intro m
      obtain ⟨p, hp, rfl⟩ := List.mem_map.mp m
      obtain ⟨_, h2⟩ := List.mem_filter.mp hp
      exact ⟨of_decide_eq_true h2, rfl⟩
    · rintro ⟨h1, h2⟩
      have m : x.1 ∈ ps := by
        by_cases c : x.1 ∈ ps
        · exact c
        · exact absurd (h.none _ c).2 (h2 ▸ h1)
      refine List.mem_map.mpr ⟨x.1, List.mem_filter.mpr ⟨perm.mem_iff.mpr m, decide_eq_true (h2 ▸ h1)⟩, ?_⟩
      rw [← h2]
theorem SumD.cast {kvs : List (List Key × V)} {ps : List (Int × Int)} {S S' : Int × Int → Int} (h : SumD kvs ps S) (e : ∀ p, S' p = S p) : SumD kvs ps S' := by
  have : S' = S := funext e
  rw [this]
  exact h
theorem bump_at (S : Int × Int → Int) (p : Int × Int) (m : Int) (q : Int × Int) : bump S p m q = S q + (if q = p then m else 0) := rfl
/-! ### the signed sums, one after the other -/
def rowF (ns ms : List Int) (a : Nat) : Nat → List Tri
  | 0 => []
  | b + 1 => rowF ns ms a b ++ (if sdef ns ms a b = 0 then [] else [(((a : Int) + 1, (b : Int) + 1), sdef ns ms a b)])
def allF (ns ms : List Int) : Nat → List Tri
  | 0 => []
  | a + 1 => allF ns ms a ++ rowF ns ms a a
theorem mem_rowF {ns ms : List Int} {a : Nat} {x : Tri} : ∀ {b : Nat}, x ∈ rowF ns ms a b ↔ ∃ c, c < b ∧ x = (((a : Int) + 1, (c : Int) + 1), sdef ns ms a c) ∧ sdef ns ms a c ≠ 0
  | 0 => ⟨fun h => absurd h List.not_mem_nil, fun ⟨c, h, _⟩ => absurd h (Nat.not_lt_zero _)⟩
  | b + 1 => by
    show x ∈ rowF ns ms a b ++ _ ↔ _
    rw [List.mem_append, mem_rowF (b := b)]
    constructor
    · rintro (⟨c, h, e⟩ | h)
      · exact ⟨c, by omega, e⟩
      · split at h
        · exact absurd h List.not_mem_nil
        · exact ⟨b, by omega, List.mem_singleton.mp h, by assumption⟩
    · rintro ⟨c, h, e, n⟩
      by_cases z : c = b
      · subst z
        right
        rw [if_neg n, e]
        exact List.mem_cons_self
      · exact .inl ⟨c, by omega, e, n⟩
theorem mem_allF {ns ms : List Int} {x : Tri} : ∀ {n : Nat}, x ∈ allF ns ms n ↔ ∃ a c, a < n ∧ c < a ∧ x = (((a : Int) + 1, (c : Int) + 1), sdef ns ms a c) ∧ sdef ns ms a c ≠ 0
  | 0 => ⟨fun h => absurd h List.not_mem_nil, fun ⟨a, c, h, _⟩ => absurd h (Nat.not_lt_zero _)⟩
  | n + 1 => by
    show x ∈ allF ns ms n ++ _ ↔ _
    rw [List.mem_append, mem_allF (n := n), mem_rowF]
    constructor
    · rintro (⟨a, c, h, e⟩ | ⟨c, h, e⟩)
      · exact ⟨a, c, by omega, e⟩
      · exact ⟨n, c, by omega, h, e⟩
    · rintro ⟨a, c, h, h2, e⟩
      by_cases z : a = n
      · subst z
        exact .inr ⟨c, h2, e⟩
      · exact .inl ⟨a, c, by omega, h2, e⟩
theorem ord_rowF {ns ms : List Int} {a : Nat} : ∀ b, (rowF ns ms a b).Pairwise before
  | 0 => List.Pairwise.nil
  | b + 1 => by
    refine List.pairwise_append.mpr ⟨ord_rowF b, ?_, fun x hx y hy => ?_⟩
    · split
      · exact List.Pairwise.nil
      · exact List.pairwise_singleton _ _
    · obtain ⟨c, h, rfl, _⟩ := mem_rowF.mp hx
      split at hy
      · exact absurd hy List.not_mem_nil
      · rw [List.mem_singleton.mp hy]
        exact .inr ⟨rfl, by show (c : Int) + 1 < (b : Int) + 1; omega⟩
theorem ord_allF {ns ms : List Int} : ∀ n, (allF ns ms n).Pairwise before
  | 0 => List.Pairwise.nil
  | n + 1 => by
    refine List.pairwise_append.mpr ⟨ord_allF n, ord_rowF n, fun x hx y hy => ?_⟩
    obtain ⟨a, c, h, _, rfl, _⟩ := mem_allF.mp hx
    obtain ⟨c2, _, rfl, _⟩ := mem_rowF.mp hy
    exact .inl (by show (a : Int) + 1 < (n : Int) + 1; omega)
theorem allF_sums {ns ms : List Int} (D : DownT ns) (U : UpT ms) (hl : ms.length = ns.length) : IsSums ns ms (allF ns ms ns.length) := by
  refine ⟨ord_allF _, fun x => ?_⟩
  rw [mem_allF]
  constructor
  · rintro ⟨a, c, h, h2, rfl, n⟩
    exact ⟨n, (sgn_def hl h (by omega)).symm⟩
  · rintro ⟨n, e⟩
    by_cases z : 1 ≤ x.1.2 ∧ x.1.2 < x.1.1 ∧ x.1.1 ≤ ns.length
    · obtain ⟨z1, z2, z3⟩ := z
      have ep : x.1 = ((((x.1.1 - 1).toNat : Nat) : Int) + 1, (((x.1.2 - 1).toNat : Nat) : Int) + 1) := Prod.ext (by show x.1.1 = _; omega) (by show x.1.2 = _; omega)
      have sd := sgn_def (ns := ns) (ms := ms) hl (i := (x.1.1 - 1).toNat) (j := (x.1.2 - 1).toNat) (by omega) (by omega)
      rw [← ep, ← e] at sd
      exact ⟨(x.1.1 - 1).toNat, (x.1.2 - 1).toNat, by omega, by omega, Prod.ext ep sd, by rw [← sd]; exact n⟩
    · exact absurd (e.trans (sgn_out D U hl z)) n
theorem rowF_len (ns ms : List Int) (a : Nat) : ∀ b, (rowF ns ms a b).length ≤ b
  | 0 => Nat.le_refl _
  | b + 1 => by
    have := rowF_len ns ms a b
    show (rowF ns ms a b ++ _).length ≤ _
    rw [List.length_append]
    split
    · show _ + 0 ≤ _
      omega
    · show _ + 1 ≤ _
      omega
theorem allF_len (ns ms : List Int) : ∀ n, n ≤ 16 → (allF ns ms n).length ≤ 16 * n
  | 0, _ => Nat.le_refl _
  | n + 1, h => by
    have h1 := allF_len ns ms n (by omega)
    have h2 := rowF_len ns ms n n
    show (allF ns ms n ++ _).length ≤ _
    rw [List.length_append]
    omega
/-- the places between whose links are these -/
theorem between {ns ms : List Int} (D : DownT ns) (U : UpT ms) (hl : ms.length = ns.length) {i j : Nat} (hi : i < ns.length) (hj : j < i) :
    (sumTo (i - j - 1) fun q => if gt ms (j + 1 + q) = (i : Int) + 1 ∧ gt ns (j + 1 + q) = (j : Int) + 1 then (1 : Int) else 0) = sumTo ms.length fun k => if gt ms k = (i : Int) + 1 ∧ gt ns k = (j : Int) + 1 then (1 : Int) else 0 := by
  have cut : ∀ m, m ≤ i - j - 1 → (sumTo (j + 1 + m) fun k => if gt ms k = (i : Int) + 1 ∧ gt ns k = (j : Int) + 1 then (1 : Int) else 0) = sumTo m fun q => if gt ms (j + 1 + q) = (i : Int) + 1 ∧ gt ns (j + 1 + q) = (j : Int) + 1 then (1 : Int) else 0 := by
    intro m
    induction m with
    | zero =>
      intro _
      refine sumTo_none fun k hk => if_neg fun z => ?_
      obtain ⟨b0, b1⟩ := D k (gt ns k) (gt_at (by omega))
      omega
    | succ m ih =>
      intro hm
      rw [sumTo_succ, ← ih (by omega)]
      show sumTo (j + 1 + m + 1) _ = _
      rw [sumTo_succ]
  rw [← cut _ (Nat.le_refl _), show j + 1 + (i - j - 1) = i by omega]
  have rest : ∀ m, i + m ≤ ms.length → (sumTo (i + m) fun k => if gt ms k = (i : Int) + 1 ∧ gt ns k = (j : Int) + 1 then (1 : Int) else 0) = sumTo i fun k => if gt ms k = (i : Int) + 1 ∧ gt ns k = (j : Int) + 1 then (1 : Int) else 0 := by
    intro m
    induction m with
    | zero => intro _; rfl
    | succ m ih =>
      intro hm
      show sumTo (i + m + 1) _ = _
      rw [sumTo_succ, ih (by omega), if_neg, Int.add_zero]
      intro z
      obtain ⟨b0, b1⟩ := U (i + m) (gt ms (i + m)) (gt_at (by omega))
      omega
  have := rest (ms.length - i) (by omega)
  rw [show i + (ms.length - i) = ms.length by omega] at this
  exact this.symm
theorem sgn_small {ns ms : List Int} (x : Tri) (h : x.2 = sgn ns ms ns.length x.1) (hn : ns.length ≤ 16) : x.2.natAbs ≤ 48 := by
  rw [h]
  have := sumTo_bnd (B := 3) (f := fun k => ctr ns ms k x.1) (fun k => by
    show (ctr ns ms k x.1).natAbs ≤ 3
    unfold ctr
    split <;> split <;> split <;> decide) ns.length
  unfold sgn
  omega
theorem sums_nice {ns ms : List Int} {ts : List Tri} (D : DownT ns) (U : UpT ms) (hl : ms.length = ns.length) (hn : ns.length ≤ 16) (h : IsSums ns ms ts) (l : ts.length ≤ 256) : Nice 2 (256 * (3 * 43 + 3 + 2) + 3) (.list (ts.map dTri)) := by
  refine nice_list (n := 1) (z := 3 * 43 + 3) (fun d hd => ?_) (by rw [List.length_map]; exact l)
  obtain ⟨x, hx, rfl⟩ := List.mem_map.mp hd
  obtain ⟨n, e⟩ := (h.mem x).mp hx
  have s := sgn_small x e hn
  have big : (1000 : Nat) < 2 ^ 130 := by decide
  have r : 1 ≤ x.1.2 ∧ x.1.2 < x.1.1 ∧ x.1.1 ≤ ns.length := by
    by_cases z : 1 ≤ x.1.2 ∧ x.1.2 < x.1.1 ∧ x.1.1 ≤ ns.length
    · exact z
    · exact absurd (e.trans (sgn_out D U hl z)) n
  refine nice_tuple (n := 0) (z := 41) (fun y hy => ?_) (Nat.le_refl 3)
  have : y = .int x.1.1 ∨ y = .int x.1.2 ∨ y = .int x.2 := by simpa using hy
  rcases this with w | w | w
  · subst w
    exact nice_int (by omega)
  · subst w
    exact nice_int (by omega)
  · subst w
    exact nice_int (by omega)
theorem sums_nice2 {ns ms : List Int} {ts : List Tri} (D : DownT ns) (U : UpT ms) (hl : ms.length = ns.length) (hn : ns.length ≤ 16) (h : IsSums ns ms ts) (l : ts.length ≤ 256) : Nice 3 (2 * (256 * (3 * 43 + 3 + 2) + 3 + 2) + 3) (.list [.list (ts.map dTri), .list (ts.map dTri)]) := by
  refine nice_list (n := 2) (z := 256 * (3 * 43 + 3 + 2) + 3) (m := 2) (fun d hd => ?_) (Nat.le_refl 2)
  have : d = .list (ts.map dTri) := by simpa using hd
  subst this
  exact sums_nice D U hl hn h l
end KX



namespace K10
open PySem PySem.Spec PyProof.Rows L2 KX
/-! ### the text -/
def topS (i : Nat) : Stmt := PySem.Challenge.pw_linksums_k10_signed_sums.main.body.getD i (.Pass ⟨0, 0, 0, 0⟩)
abbrev s_is_whole : Stmt := topS 4
abbrev N_is_whole : List Str := ["thing"]
theorem sc_is_whole : FnScope N_is_whole ["thing"] (defScope s_is_whole) :=
  ⟨rfl, rfl, rfl, by decide +kernel, rfl, by decide +kernel, by decide +kernel⟩
abbrev s_check_pair : Stmt := topS 5
abbrev N_check_pair : List Str := ["pair", "down", "up"]
theorem sc_check_pair : FnScope N_check_pair ["pair"] (defScope s_check_pair) :=
  ⟨rfl, rfl, rfl, by decide +kernel, rfl, by decide +kernel, by decide +kernel⟩
abbrev s__is_table : Stmt := topS 6
abbrev N__is_table : List Str := ["thing"]
theorem sc__is_table : FnScope N__is_table ["thing"] (defScope s__is_table) :=
  ⟨rfl, rfl, rfl, by decide +kernel, rfl, by decide +kernel, by decide +kernel⟩
abbrev s__is_two_tables : Stmt := topS 7
abbrev N__is_two_tables : List Str := ["thing", "down", "up"]
theorem sc__is_two_tables : FnScope N__is_two_tables ["thing"] (defScope s__is_two_tables) :=
  ⟨rfl, rfl, rfl, by decide +kernel, rfl, by decide +kernel, by decide +kernel⟩
abbrev s__check_down_links : Stmt := topS 8
abbrev N__check_down_links : List Str := ["down", "place", "link"]
theorem sc__check_down_links : FnScope N__check_down_links ["down"] (defScope s__check_down_links) :=
  ⟨rfl, rfl, rfl, by decide +kernel, rfl, by decide +kernel, by decide +kernel⟩
abbrev s__check_up_links : Stmt := topS 9
abbrev N__check_up_links : List Str := ["up", "end", "place", "link"]
theorem sc__check_up_links : FnScope N__check_up_links ["up"] (defScope s__check_up_links) :=
  ⟨rfl, rfl, rfl, by decide +kernel, rfl, by decide +kernel, by decide +kernel⟩
abbrev s_signed_sums : Stmt := topS 11
abbrev N_signed_sums : List Str := ["pair"]
theorem sc_signed_sums : FnScope N_signed_sums ["pair"] (defScope s_signed_sums) :=
  ⟨rfl, rfl, rfl, by decide +kernel, rfl, by decide +kernel, by decide +kernel⟩
abbrev s__sums : Stmt := topS 12
abbrev N__sums : List Str := ["pair", "down", "up", "sums", "place", "below", "above", "has_below", "has_above", "first", "second"]
theorem sc__sums : FnScope N__sums ["pair"] (defScope s__sums) :=
  ⟨rfl, rfl, rfl, by decide +kernel, rfl, by decide +kernel, by decide +kernel⟩
abbrev s__add : Stmt := topS 13
abbrev N__add : List Str := ["sums", "places", "more"]
theorem sc__add : FnScope N__add ["sums", "places", "more"] (defScope s__add) :=
  ⟨rfl, rfl, rfl, by decide +kernel, rfl, by decide +kernel, by decide +kernel⟩
abbrev s__law_draws : Stmt := topS 15
abbrev N__law_draws : List Str := ["_law_cell"]
theorem sc__law_draws : FnScope N__law_draws ["_law_cell"] (defScope s__law_draws) :=
  ⟨rfl, rfl, rfl, by decide +kernel, rfl, by decide +kernel, by decide +kernel⟩
abbrev s__law_next : Stmt := topS 16
abbrev N__law_next : List Str := ["_law_draws_here", "_law_k", "_law_number"]
theorem sc__law_next : FnScope N__law_next ["_law_draws_here"] (defScope s__law_next) :=
  ⟨rfl, rfl, rfl, by decide +kernel, rfl, by decide +kernel, by decide +kernel⟩
abbrev s__law_pair : Stmt := topS 17
abbrev N__law_pair : List Str := ["_law_draws_here", "_law_most", "_law_many", "_law_falls", "_law_rises", "_law_k"]
theorem sc__law_pair : FnScope N__law_pair ["_law_draws_here", "_law_most"] (defScope s__law_pair) :=
  ⟨rfl, rfl, rfl, by decide +kernel, rfl, by decide +kernel, by decide +kernel⟩
abbrev s__law_tree : Stmt := topS 18
abbrev N__law_tree : List Str := ["_law_draws_here", "_law_most", "_law_many", "_law_falls", "_law_rises", "_law_left", "_law_low", "_law_high", "_law_pick", "_law_some", "_law_root"]
theorem sc__law_tree : FnScope N__law_tree ["_law_draws_here", "_law_most"] (defScope s__law_tree) :=
  ⟨rfl, rfl, rfl, by decide +kernel, rfl, by decide +kernel, by decide +kernel⟩
abbrev s__law_bent : Stmt := topS 19
abbrev N__law_bent : List Str := ["_law_draws_here", "_law_a_pair", "_law_falls", "_law_rises", "_law_turn", "_law_pick", "_law_k"]
theorem sc__law_bent : FnScope N__law_bent ["_law_draws_here", "_law_a_pair"] (defScope s__law_bent) :=
  ⟨rfl, rfl, rfl, by decide +kernel, rfl, by decide +kernel, by decide +kernel⟩
abbrev s__law_any : Stmt := topS 20
abbrev N__law_any : List Str := ["_law_draws_here", "_law_most", "_law_kind", "_law_a_pair"]
theorem sc__law_any : FnScope N__law_any ["_law_draws_here", "_law_most"] (defScope s__law_any) :=
  ⟨rfl, rfl, rfl, by decide +kernel, rfl, by decide +kernel, by decide +kernel⟩
abbrev s__law_sums : Stmt := topS 21
abbrev N__law_sums : List Str := ["_law_a_pair", "_law_falls", "_law_rises", "_law_told", "_law_i", "_law_j", "_law_number", "_law_k"]
theorem sc__law_sums : FnScope N__law_sums ["_law_a_pair"] (defScope s__law_sums) :=
  ⟨rfl, rfl, rfl, by decide +kernel, rfl, by decide +kernel, by decide +kernel⟩
abbrev s__law_right : Stmt := topS 22
abbrev N__law_right : List Str := ["_law_a_pair", "_law_kept", "_law_due", "_law_told"]
theorem sc__law_right : FnScope N__law_right ["_law_a_pair"] (defScope s__law_right) :=
  ⟨rfl, rfl, rfl, by decide +kernel, rfl, by decide +kernel, by decide +kernel⟩
abbrev s_law : Stmt := topS 23
abbrev N_law : List Str := ["_law_script", "_law_draws_here", "_law_turn", "_law_cell"]
theorem sc_law : FnScope N_law ["_law_script"] (defScope s_law) :=
  ⟨rfl, rfl, rfl, by decide +kernel, rfl, by decide +kernel, by decide +kernel⟩
/-! ### where each def stands -/
structure Txt (K : PySem.W.Frag) (mg : Str → Option Value) : Type where
  f_is_whole : Addr
  fd_is_whole : FuncData
  F_is_whole : Fun K "is_whole" "is_whole" s_is_whole f_is_whole fd_is_whole
  g_is_whole : mg "is_whole" = some (.ref f_is_whole)
  f_check_pair : Addr
  fd_check_pair : FuncData
  F_check_pair : Fun K "check_pair" "check_pair" s_check_pair f_check_pair fd_check_pair
  g_check_pair : mg "check_pair" = some (.ref f_check_pair)
  f__is_table : Addr
  fd__is_table : FuncData
  F__is_table : Fun K "_is_table" "_is_table" s__is_table f__is_table fd__is_table
  g__is_table : mg "_is_table" = some (.ref f__is_table)
  f__is_two_tables : Addr
  fd__is_two_tables : FuncData
  F__is_two_tables : Fun K "_is_two_tables" "_is_two_tables" s__is_two_tables f__is_two_tables fd__is_two_tables
  g__is_two_tables : mg "_is_two_tables" = some (.ref f__is_two_tables)
  f__check_down_links : Addr
  fd__check_down_links : FuncData
  F__check_down_links : Fun K "_check_down_links" "_check_down_links" s__check_down_links f__check_down_links fd__check_down_links
  g__check_down_links : mg "_check_down_links" = some (.ref f__check_down_links)
  f__check_up_links : Addr
  fd__check_up_links : FuncData
  F__check_up_links : Fun K "_check_up_links" "_check_up_links" s__check_up_links f__check_up_links fd__check_up_links
  g__check_up_links : mg "_check_up_links" = some (.ref f__check_up_links)
  f_signed_sums : Addr
  fd_signed_sums : FuncData
  F_signed_sums : Fun K "signed_sums" "signed_sums" s_signed_sums f_signed_sums fd_signed_sums
  g_signed_sums : mg "signed_sums" = some (.ref f_signed_sums)
  f__sums : Addr
  fd__sums : FuncData
  F__sums : Fun K "_sums" "_sums" s__sums f__sums fd__sums
  g__sums : mg "_sums" = some (.ref f__sums)
  f__add : Addr
  fd__add : FuncData
  F__add : Fun K "_add" "_add" s__add f__add fd__add
  g__add : mg "_add" = some (.ref f__add)
  f__law_draws : Addr
  fd__law_draws : FuncData
  F__law_draws : Fun K "_law_draws" "_law_draws" s__law_draws f__law_draws fd__law_draws
  g__law_draws : mg "_law_draws" = some (.ref f__law_draws)
  f__law_next : Addr
  fd__law_next : FuncData
  F__law_next : Fun K "_law_next" "_law_next" s__law_next f__law_next fd__law_next
  g__law_next : mg "_law_next" = some (.ref f__law_next)
  f__law_pair : Addr
  fd__law_pair : FuncData
  F__law_pair : Fun K "_law_pair" "_law_pair" s__law_pair f__law_pair fd__law_pair
  g__law_pair : mg "_law_pair" = some (.ref f__law_pair)
  f__law_tree : Addr
  fd__law_tree : FuncData
  F__law_tree : Fun K "_law_tree" "_law_tree" s__law_tree f__law_tree fd__law_tree
  g__law_tree : mg "_law_tree" = some (.ref f__law_tree)
  f__law_bent : Addr
  fd__law_bent : FuncData
  F__law_bent : Fun K "_law_bent" "_law_bent" s__law_bent f__law_bent fd__law_bent
  g__law_bent : mg "_law_bent" = some (.ref f__law_bent)
  f__law_any : Addr
  fd__law_any : FuncData
  F__law_any : Fun K "_law_any" "_law_any" s__law_any f__law_any fd__law_any
  g__law_any : mg "_law_any" = some (.ref f__law_any)
  f__law_sums : Addr
  fd__law_sums : FuncData
  F__law_sums : Fun K "_law_sums" "_law_sums" s__law_sums f__law_sums fd__law_sums
  g__law_sums : mg "_law_sums" = some (.ref f__law_sums)
  f__law_right : Addr
  fd__law_right : FuncData
  F__law_right : Fun K "_law_right" "_law_right" s__law_right f__law_right fd__law_right
  g__law_right : mg "_law_right" = some (.ref f__law_right)
  f_law : Addr
  fd_law : FuncData
  F_law : Fun K "law" "law" s_law f_law fd_law
  g_law : mg "law" = some (.ref f_law)
  n_isinstance : mg "isinstance" = none
  n_int : mg "int" = none
  n_bool : mg "bool" = none
  n_list : mg "list" = none
  n_len : mg "len" = none
  n_tuple : mg "tuple" = none
  n_enumerate : mg "enumerate" = none
  n_range : mg "range" = none
  n_sorted : mg "sorted" = none
  n_repr : mg "repr" = none
  t_MOST_PLACES : Tok
  c_MOST_PLACES : mg "MOST_PLACES" = some (.int 16 t_MOST_PLACES)
section
variable {K : PySem.W.Frag} {mg : Str → Option Value}
theorem b_is_whole (T : Txt K mg) : Binds K T.fd_is_whole ["thing"] [] :=
  T.F_is_whole.binds fun _ _ _ _ _ _ us hl => match us, hl with | [_], _ => rfl
theorem b_check_pair (T : Txt K mg) : Binds K T.fd_check_pair ["pair"] [] :=
  T.F_check_pair.binds fun _ _ _ _ _ _ us hl => match us, hl with | [_], _ => rfl
theorem b__is_table (T : Txt K mg) : Binds K T.fd__is_table ["thing"] [] :=
  T.F__is_table.binds fun _ _ _ _ _ _ us hl => match us, hl with | [_], _ => rfl
theorem b__is_two_tables (T : Txt K mg) : Binds K T.fd__is_two_tables ["thing"] [] :=
  T.F__is_two_tables.binds fun _ _ _ _ _ _ us hl => match us, hl with | [_], _ => rfl
theorem b__check_down_links (T : Txt K mg) : Binds K T.fd__check_down_links ["down"] [] :=
  T.F__check_down_links.binds fun _ _ _ _ _ _ us hl => match us, hl with | [_], _ => rfl
theorem b__check_up_links (T : Txt K mg) : Binds K T.fd__check_up_links ["up"] [] :=
  T.F__check_up_links.binds fun _ _ _ _ _ _ us hl => match us, hl with | [_], _ => rfl
theorem b_signed_sums (T : Txt K mg) : Binds K T.fd_signed_sums ["pair"] [] :=
  T.F_signed_sums.binds fun _ _ _ _ _ _ us hl => match us, hl with | [_], _ => rfl
theorem b__sums (T : Txt K mg) : Binds K T.fd__sums ["pair"] [] :=
  T.F__sums.binds fun _ _ _ _ _ _ us hl => match us, hl with | [_], _ => rfl
theorem b__add (T : Txt K mg) : Binds K T.fd__add ["sums", "places", "more"] [] :=
  T.F__add.binds fun _ _ _ _ _ _ us hl => match us, hl with | [_, _, _], _ => rfl
theorem b__law_draws (T : Txt K mg) : Binds K T.fd__law_draws ["_law_cell"] [] :=
  T.F__law_draws.binds fun _ _ _ _ _ _ us hl => match us, hl with | [_], _ => rfl
theorem b__law_next (T : Txt K mg) : Binds K T.fd__law_next ["_law_draws_here"] [] :=
  T.F__law_next.binds fun _ _ _ _ _ _ us hl => match us, hl with | [_], _ => rfl
theorem b__law_pair (T : Txt K mg) : Binds K T.fd__law_pair ["_law_draws_here", "_law_most"] [] :=
  T.F__law_pair.binds fun _ _ _ _ _ _ us hl => match us, hl with | [_, _], _ => rfl
theorem b__law_tree (T : Txt K mg) : Binds K T.fd__law_tree ["_law_draws_here", "_law_most"] [] :=
  T.F__law_tree.binds fun _ _ _ _ _ _ us hl => match us, hl with | [_, _], _ => rfl
theorem b__law_bent (T : Txt K mg) : Binds K T.fd__law_bent ["_law_draws_here", "_law_a_pair"] [] :=
  T.F__law_bent.binds fun _ _ _ _ _ _ us hl => match us, hl with | [_, _], _ => rfl
theorem b__law_any (T : Txt K mg) : Binds K T.fd__law_any ["_law_draws_here", "_law_most"] [] :=
  T.F__law_any.binds fun _ _ _ _ _ _ us hl => match us, hl with | [_, _], _ => rfl
theorem b__law_sums (T : Txt K mg) : Binds K T.fd__law_sums ["_law_a_pair"] [] :=
  T.F__law_sums.binds fun _ _ _ _ _ _ us hl => match us, hl with | [_], _ => rfl
theorem b__law_right (T : Txt K mg) : Binds K T.fd__law_right ["_law_a_pair"] [] :=
  T.F__law_right.binds fun _ _ _ _ _ _ us hl => match us, hl with | [_], _ => rfl
theorem b_law (T : Txt K mg) : Binds K T.fd_law ["_law_script"] [] :=
  T.F_law.binds fun _ _ _ _ _ _ us hl => match us, hl with | [_], _ => rfl
theorem kw_signed_sums (T : Txt K mg) : KwOnly K T.fd_signed_sums ["pair"] ["pair"] (fun l => l) :=
  kwOf T.F_signed_sums (fun r => r) fun _ _ _ _ _ _ ws hl => match ws, hl with | [_], _ => rfl
end
section
variable {P : Program} {w : World} {K : PySem.W.Frag} {mg : Str → Option Value} {base : Heap}
/-! ### the checks, where nothing is wrong -/
def sp_is_whole (K : PySem.W.Frag) : Sp := fun vs H Q _ => ∃ i : Int, vs = [.int i] ∧ Q (.bl true) H
theorem ok_is_whole (T : Txt K mg) : FnOk P w K mg base CX0 1 T.f_is_whole T.fd_is_whole ["thing"] (sp_is_whole K) := by
  refine T.F_is_whole.ok sc_is_whole (fun vs H Q E h => ?_) (fun cdv A outer s H vs Q E hr h => ?_)
  · obtain ⟨i, rfl, _⟩ := h
    rfl
  · obtain ⟨i, rfl, q⟩ := h
    refine ⟨_, (pss_one (ps_ret (pe_and (pe_callB call_isi (by rfl) T.n_isinstance (by decide +kernel) (pa_cons (pv 0) (pa_cons (pe_bltn (v := .ty "int") (u := .type "int") (by rfl) T.n_int (by decide +kernel) rfl) pa_nil))) (pe_one (pe_not (pe_callB call_isi (by rfl) T.n_isinstance (by decide +kernel) (pa_cons (pv 0) (pa_cons (pe_bltn (v := .ty "bool") (u := .type "bool") (by rfl) T.n_bool (by decide +kernel) rfl) pa_nil)))))))), ?_⟩
    refine ⟨_, rfl, _, .ty "int", .type "int", .type "int", true, rfl, .ty _, .base (.int i), kit_ty (by decide +kernel), true, rfl, ?_⟩
    refine ⟨_, rfl, _, .ty "bool", .type "int", .type "bool", false, rfl, .ty _, .base (.int i), kit_ty (by decide +kernel), ?_⟩
    exact ⟨_, rfl, q⟩
def sp__is_table (K : PySem.W.Frag) : Sp := fun vs H Q _ => ∃ (a : Addr) (xs : List V), vs = [.ref a] ∧ H a = some (.lst xs) ∧ 1 ≤ xs.length ∧ xs.length ≤ 16 ∧ Q (.bl true) H
theorem ok__is_table (T : Txt K mg) : FnOk P w K mg base CX0 1 T.f__is_table T.fd__is_table ["thing"] (sp__is_table K) := by
  refine T.F__is_table.ok sc__is_table (fun vs H Q E h => ?_) (fun cdv A outer s H vs Q E hr h => ?_)
  · obtain ⟨a, xs, rfl, _⟩ := h
    rfl
  · obtain ⟨a, xs, rfl, e, h1, h2, q⟩ := h
    refine ⟨_, (pss_one (ps_ret (pe_and (pe_callB call_isi (by rfl) T.n_isinstance (by decide +kernel) (pa_cons (pv 0) (pa_cons (pe_bltn (v := .ty "list") (u := .type "list") (by rfl) T.n_list (by decide +kernel) rfl) pa_nil))) (pe_one (pe_chain op_le op_le pe_int (pe_callB call_len_seq (by rfl) T.n_len (by decide +kernel) (pa_cons (pv 0) pa_nil)) (pe_glob (v := .int 16) rfl T.c_MOST_PLACES ⟨_, rfl⟩)))))), ?_⟩
    refine ⟨_, rfl, _, .ty "list", .type "list", .type "list", true, rfl, .ty _, .base (.lst e), kit_ty (by decide +kernel), true, rfl, ?_⟩
    refine ⟨_, rfl, a, xs, rfl, .inl (.inl (.inl e)), 1, (xs.length : Int), rfl, rfl, _, rfl, ifT (decide_eq_true (by omega)) ⟨_, _, rfl, rfl, ?_⟩⟩
    have z : decide ((xs.length : Int) ≤ 16) = true := decide_eq_true (by omega)
    show Q (.bl (decide ((xs.length : Int) ≤ 16))) H
    rw [z]
    exact q
def sp__check_down_links (K : PySem.W.Frag) : Sp := fun vs H Q _ => ∃ (a : Addr) (ns : List Int), vs = [.ref a] ∧ Ints H a ns ∧ DownT ns ∧ ∀ H', Same H H' → Q .non H'
theorem ok__check_down_links (T : Txt K mg) : FnOk P w K mg base CX0 2 T.f__check_down_links T.fd__check_down_links ["down"] (sp__check_down_links K) := by
  refine T.F__check_down_links.ok sc__check_down_links (fun vs H Q E h => ?_) (fun cdv A outer s H vs Q E hr h => ?_)
  · obtain ⟨a, ns, rfl, _⟩ := h
    rfl
  · obtain ⟨a, ns, rfl, e, D, q⟩ := h
    refine ⟨_, (pss_one (ps_for PassesOwn.never rfl (pi_enumK (by rfl) T.n_enumerate (pa_cons (pv 0) (pa_cons pe_int pa_nil))) (pg_tup (by rfl) (pgs_cons (pg_name (i := 1) sc__check_down_links.nd rfl (Or.inl rfl)) (pgs_cons (pg_name (i := 2) sc__check_down_links.nd rfl (Or.inl rfl)) pgs_nil))) (pss_one (ps_if (PW.pt (pw_or (pt_not (pt_val (pe_call (ok_is_whole T) (hr.mono (by decide)) (by rfl) T.g_is_whole T.F_is_whole.kp (b_is_whole T) .nil pass0 (pa_cons (pv 2) pa_nil)))) (pw_or1 (pt_not (pt_chain op_le op_lt pe_int (pv 2) (pv 1)))))) (pss_one (ps_never)) pss_nil)))), ?_⟩
    refine ⟨_, rfl, a, 1, ns.map V.int, rfl, by decide, by decide, .inl (.inl e), ?_⟩
    refine for_enumK (xs := ns.map V.int) (fun i σ H' => ∃ y z, σ = [some (.ref a), y, z] ∧ Same H H') ⟨_, _, rfl, fun _ _ e => e⟩ ?_ ?_ ?_
    · rintro i σ H' _ ⟨_, _, _, s'⟩
      exact .inl (.inl (s' _ _ e))
    · rintro i x T' σ H' hx nT ⟨_, _, rfl, s'⟩
      obtain ⟨n, hn, rfl⟩ := ints_at hx
      obtain ⟨b0, b1⟩ := D _ _ hn
      have s2 : Same H (upd H' T' (.tup [.int (1 + (i : Int)), .int n])) := s'.trans (same_new nT)
      refine ⟨T', [.int (1 + (i : Int)), .int n], rfl, .inl (.inl upd_same), rfl, _, _, rfl, _, _, rfl, rfl, ?_⟩
      refine ⟨_, rfl, n, rfl, ?_⟩
      refine ⟨true, rfl, ifF rfl ?_⟩
      refine ⟨_, rfl, _, _, rfl, rfl, _, rfl, ifT (decide_eq_true b0) ⟨_, rfl, _, _, rfl, rfl, _, rfl, ifF ?_ ?_⟩⟩
      · rw [decide_eq_true (show n < 1 + (i : Int) by omega)]
        rfl
      · exact ⟨_, _, rfl, s2⟩
    · rintro σ H' ⟨_, _, _, s'⟩
      exact q H' s'
def sp__check_up_links (K : PySem.W.Frag) : Sp := fun vs H Q _ => ∃ (a : Addr) (ns : List Int), vs = [.ref a] ∧ Ints H a ns ∧ UpT ns ∧ ∀ H', Same H H' → Q .non H'
theorem ok__check_up_links (T : Txt K mg) : FnOk P w K mg base CX0 2 T.f__check_up_links T.fd__check_up_links ["up"] (sp__check_up_links K) := by
  refine T.F__check_up_links.ok sc__check_up_links (fun vs H Q E h => ?_) (fun cdv A outer s H vs Q E hr h => ?_)
  · obtain ⟨a, ns, rfl, _⟩ := h
    rfl
  · obtain ⟨a, ns, rfl, e, D, q⟩ := h
    refine ⟨_, (pss_cons (ps_set (i := 1) sc__check_up_links.nd rfl (Or.inl rfl) (pe_op op_add (pe_callB call_len_seq (by rfl) T.n_len (by decide +kernel) (pa_cons (pv 0) pa_nil)) pe_int)) (pss_one (ps_for PassesOwn.never rfl (pi_enumK (by rfl) T.n_enumerate (pa_cons (pv 0) (pa_cons pe_int pa_nil))) (pg_tup (by rfl) (pgs_cons (pg_name (i := 2) sc__check_up_links.nd rfl (Or.inl rfl)) (pgs_cons (pg_name (i := 3) sc__check_up_links.nd rfl (Or.inl rfl)) pgs_nil))) (pss_one (ps_if (PW.pt (pw_or (pt_not (pt_val (pe_call (ok_is_whole T) (hr.mono (by decide)) (by rfl) T.g_is_whole T.F_is_whole.kp (b_is_whole T) .nil pass0 (pa_cons (pv 3) pa_nil)))) (pw_or1 (pt_not (pt_chain op_lt op_le (pv 2) (pv 3) (pv 1)))))) (pss_one (ps_never)) pss_nil))))), ?_⟩
    refine ⟨.ref a, rfl, a, ns.map V.int, rfl, .inl (.inl (.inl e)), (ns.map V.int).length, 1, rfl, rfl, ?_⟩
    rw [List.length_map]
    refine ⟨_, rfl, a, 1, ns.map V.int, rfl, by decide, by decide, .inl (.inl e), ?_⟩
    refine for_enumK (xs := ns.map V.int) (fun i σ H' => ∃ y z, σ = [some (.ref a), some (.int (ns.length + 1)), y, z] ∧ Same H H') ⟨_, _, rfl, fun _ _ e => e⟩ ?_ ?_ ?_
    · rintro i σ H' _ ⟨_, _, _, s'⟩
      exact .inl (.inl (s' _ _ e))
    · rintro i x T' σ H' hx nT ⟨_, _, rfl, s'⟩
      obtain ⟨n, hn, rfl⟩ := ints_at hx
      obtain ⟨b0, b1⟩ := D _ _ hn
      have s2 : Same H (upd H' T' (.tup [.int (1 + (i : Int)), .int n])) := s'.trans (same_new nT)
      refine ⟨T', [.int (1 + (i : Int)), .int n], rfl, .inl (.inl upd_same), rfl, _, _, rfl, _, _, rfl, rfl, ?_⟩
      refine ⟨_, rfl, n, rfl, ?_⟩
      refine ⟨true, rfl, ifF rfl ?_⟩
      refine ⟨_, rfl, _, rfl, _, _, rfl, rfl, _, rfl, ifT (decide_eq_true (by omega)) ⟨_, rfl, _, _, rfl, rfl, _, rfl, ifF ?_ ?_⟩⟩
      · rw [decide_eq_true b1]
        rfl
      · exact ⟨_, _, rfl, s2⟩
    · rintro σ H' ⟨_, _, _, s'⟩
      exact q H' s'
/-! ### the walks -/
/-! ### walk_down, walk_up -/
/-! ### the law's draws -/
def sp__law_draws (K : PySem.W.Frag) : Sp := fun vs H Q _ => ∃ c : Int, vs = [.int c] ∧ ∀ a b, H a = none → ∀ d : Int, 0 ≤ d → Q (.ref a) (upd H a (.lst [.int d, .int 0, .bl b]))
theorem big_pos : (0 : Int) < (((10 : Int) ^ (60 : Int).toNat) ^ (60 : Int).toNat) ^ (4 : Int).toNat := by decide +kernel
theorem ok__law_draws (T : Txt K mg) : FnOk P w K mg base CX0 1 T.f__law_draws T.fd__law_draws ["_law_cell"] (sp__law_draws K) := by
  refine T.F__law_draws.ok sc__law_draws (fun vs H Q E h => ?_) (fun cdv A outer s H vs Q E hr h => ?_)
  · obtain ⟨c, rfl, _⟩ := h
    rfl
  · obtain ⟨c, rfl, q⟩ := h
    refine ⟨_, (pss_one (ps_ret (pe_lst (pa_cons (pe_op op_mod (pe_callTy call_int1 (by rfl) T.n_int (by decide +kernel) (pa_cons (pv 0) pa_nil)) (pe_op op_powB (pe_op op_powB (pe_op op_powB pe_int pe_int) pe_int) pe_int)) (pa_cons pe_int (pa_cons (pe_cmpR op_ge (pv 0) (pe_op op_powB pe_int pe_int) (nomark _)) pa_nil)))))), ?_⟩
    refine ⟨_, rfl, .inl ⟨c, rfl, ?_⟩⟩
    refine ⟨_, _, rfl, rfl, ⟨by decide, by decide +kernel⟩, ?_⟩
    refine ⟨_, _, rfl, rfl, ⟨by decide, by decide +kernel⟩, ?_⟩
    refine ⟨_, _, rfl, rfl, ⟨by decide, by decide +kernel⟩, ?_⟩
    refine ⟨_, _, rfl, rfl, big_pos, ?_⟩
    refine ⟨_, rfl, _, _, rfl, rfl, ⟨by decide, by decide +kernel⟩, ?_⟩
    refine ⟨_, _, rfl, rfl, ?_⟩
    refine ⟨by show 3 ≤ sizeLine; decide, fun a na => ?_⟩
    exact q a _ na _ (Int.emod_nonneg _ (Int.ne_of_gt big_pos))
def sp__law_next (K : PySem.W.Frag) : Sp := fun vs H Q _ => ∃ (a : Addr) (b : Bool) (k : Int), vs = [.ref a] ∧ Dr H a b k ∧ k < 100000 ∧
  ∀ n : Int, 0 ≤ n → ∀ H', Dr H' a b (k + 1) → (∃ o, H' = upd H a o) → Q (.int n) H'
theorem ok__law_next (T : Txt K mg) : FnOk P w K mg base CX0 1 T.f__law_next T.fd__law_next ["_law_draws_here"] (sp__law_next K) := by
  refine T.F__law_next.ok sc__law_next (fun vs H Q E h => ?_) (fun cdv A outer s H vs Q E hr h => ?_)
  · obtain ⟨a, b, k, rfl, _⟩ := h
    rfl
  · obtain ⟨a, b, k, rfl, ⟨d, j, e, d0, j0, jk⟩, hk, q⟩ := h
    refine ⟨_, (pss_cons (ps_asg (pe_op op_add (pe_ix ix_list (pv 0) pe_int (fun _ _ => rfl)) pe_int) (pg_sub (pv 0) pe_int set_list)) (pss_cons (ps_set (i := 1) sc__law_next.nd rfl (Or.inl rfl) (pe_ix ix_list (pv 0) pe_int (fun _ _ => rfl))) (pss_cons (ps_if (pt_truth (pe_ix ix_list (pv 0) pe_int (fun _ _ => rfl)) (by intro _; rfl)) (pss_cons (ps_set (i := 2) sc__law_next.nd rfl (Or.inl rfl) (pe_op op_mod (pe_callTy call_int1 (by rfl) T.n_int (by decide +kernel) (pa_cons (pe_ix ix_list (pv 0) pe_int (fun _ _ => rfl)) pa_nil)) (pe_op op_powB pe_int pe_int))) (pss_cons (ps_asg (pe_op op_fdiv (pe_ix ix_list (pv 0) pe_int (fun _ _ => rfl)) (pe_op op_powB pe_int pe_int)) (pg_sub (pv 0) pe_int set_list)) (pss_one (ps_ret (pv 2))))) pss_nil) (pss_cons (ps_set (i := 2) sc__law_next.nd rfl (Or.inl rfl) (pe_op op_mod (pe_callTy call_int1 (by rfl) T.n_int (by decide +kernel) (pa_cons (pe_op op_mul (pe_op op_add (pe_op op_add (pe_op op_mod (pe_callTy call_int1 (by rfl) T.n_int (by decide +kernel) (pa_cons (pe_ix ix_list (pv 0) pe_int (fun _ _ => rfl)) pa_nil)) pe_int) (pe_op op_mul (pe_op op_mul (pv 1) (pv 1)) pe_int)) (pv 1)) pe_int) pa_nil)) pe_int)) (pss_cons (ps_set (i := 2) sc__law_next.nd rfl (Or.inl rfl) (pe_op op_mod (pe_callTy call_int1 (by rfl) T.n_int (by decide +kernel) (pa_cons (pe_op op_mul (pv 2) (pv 2)) pa_nil)) pe_int)) (pss_one (ps_ret (pe_op op_fdiv (pe_op op_mod (pe_callTy call_int1 (by rfl) T.n_int (by decide +kernel) (pa_cons (pe_op op_mul (pv 2) (pe_op op_add (pv 2) pe_int)) pa_nil)) pe_int) pe_int)))))))), ?_⟩
    refine ⟨.ref a, rfl, a, _, 1, _, rfl, rfl, .inl (.inl e), atI_nat (j := 1) rfl, j, 1, rfl, rfl, ?_⟩
    refine ⟨.ref a, rfl, a, _, 1, 1, rfl, rfl, e, rfl, ?_⟩
    have e1 : upd H a (.lst [.int d, .int (j + 1), .bl b]) a = some (.lst [.int d, .int (j + 1), .bl b]) := upd_same
    refine ⟨.ref a, rfl, a, _, 1, _, rfl, rfl, .inl (.inl e1), atI_nat (j := 1) rfl, ?_⟩
    refine ⟨.ref a, rfl, a, _, 2, _, rfl, rfl, .inl (.inl e1), atI_nat (j := 2) rfl, b, rfl, ?_⟩
    cases b with
    | true =>
      refine ifT rfl ?_
      refine ⟨.ref a, rfl, a, _, 0, _, rfl, rfl, .inl (.inl e1), atI_nat (j := 0) rfl, .inl ⟨_, rfl, ?_⟩⟩
      refine ⟨_, _, rfl, rfl, ⟨by decide, by decide +kernel⟩, ?_⟩
      refine ⟨_, _, rfl, rfl, (by show (0 : Int) < _; decide), ?_⟩
      refine ⟨.ref a, rfl, a, _, 0, _, rfl, rfl, .inl (.inl e1), atI_nat (j := 0) rfl, ?_⟩
      refine ⟨_, _, rfl, rfl, ⟨by decide, by decide +kernel⟩, ?_⟩
      refine ⟨_, _, rfl, rfl, ⟨by decide, by decide⟩, ?_⟩
      refine ⟨.ref a, rfl, a, _, 0, 0, rfl, rfl, e1, rfl, ?_⟩
      refine ⟨_, rfl, ?_⟩
      refine q _ (Int.emod_nonneg _ (by decide)) _ ⟨_, _, upd_same, Int.ediv_nonneg d0 (by decide), by omega, by omega⟩ ⟨_, upd_upd⟩
    | false =>
      refine ifF rfl ?_
      refine ⟨.ref a, rfl, a, _, 0, _, rfl, rfl, .inl (.inl e1), atI_nat (j := 0) rfl, .inl ⟨_, rfl, ?_⟩⟩
      refine ⟨_, _, rfl, rfl, (by show (0 : Int) < _; decide), ?_⟩
      refine ⟨_, rfl, _, rfl, _, _, rfl, rfl, .inl ⟨by omega, by omega⟩, ?_⟩
      refine ⟨_, _, rfl, rfl, .inr ⟨by decide, by decide⟩, ?_⟩
      refine ⟨_, _, rfl, rfl, ?_⟩
      refine ⟨_, rfl, _, _, rfl, rfl, ?_⟩
      refine ⟨_, _, rfl, rfl, .inr ⟨by decide, by decide⟩, .inl ⟨_, rfl, ?_⟩⟩
      refine ⟨_, _, rfl, rfl, (by show (0 : Int) < _; decide), ?_⟩
      have b1 : 0 ≤ ((d % 1000003 + (j + 1) * (j + 1) * 7919 + (j + 1)) * 48271) % 2147483629 := Int.emod_nonneg _ (by decide)
      have b2 : ((d % 1000003 + (j + 1) * (j + 1) * 7919 + (j + 1)) * 48271) % 2147483629 < 2147483629 := Int.emod_lt_of_pos _ (by decide)
      generalize ((d % 1000003 + (j + 1) * (j + 1) * 7919 + (j + 1)) * 48271) % 2147483629 = m1 at b1 b2 ⊢
      refine ⟨_, rfl, _, rfl, _, _, rfl, rfl, .inl ⟨by omega, by omega⟩, .inl ⟨_, rfl, ?_⟩⟩
      refine ⟨_, _, rfl, rfl, (by show (0 : Int) < _; decide), ?_⟩
      have c1 : 0 ≤ (m1 * m1) % 2147483587 := Int.emod_nonneg _ (by decide)
      have c2 : (m1 * m1) % 2147483587 < 2147483587 := Int.emod_lt_of_pos _ (by decide)
      generalize (m1 * m1) % 2147483587 = m2 at c1 c2 ⊢
      refine ⟨_, rfl, _, rfl, _, _, rfl, rfl, ?_⟩
      refine ⟨_, _, rfl, rfl, .inl ⟨by omega, by omega⟩, .inl ⟨_, rfl, ?_⟩⟩
      refine ⟨_, _, rfl, rfl, (by show (0 : Int) < _; decide), ?_⟩
      refine ⟨_, _, rfl, rfl, ⟨by decide, by decide⟩, ?_⟩
      exact q _ (Int.ediv_nonneg (Int.emod_nonneg _ (by decide)) (by decide)) _ ⟨_, _, upd_same, d0, by omega, by omega⟩ ⟨_, rfl⟩
def sp__law_pair (K : PySem.W.Frag) : Sp := fun vs H Q _ => ∃ (a : Addr) (b : Bool) (k m : Int), vs = [.ref a, .int m] ∧ 1 ≤ m ∧ m ≤ 16 ∧ Dr H a b k ∧ k ≤ 50000 ∧
  ∀ H' t f r ns ms, PairAt H' t f r ns ms → H t = none → H f = none → H r = none → f ≠ r → (ns.length : Int) ≤ m → Dr H' a b (k + 40) → Keep a H H' → Q (.ref t) H'
theorem ok__law_pair (T : Txt K mg) : FnOk P w K mg base CX0 2 T.f__law_pair T.fd__law_pair ["_law_draws_here", "_law_most"] (sp__law_pair K) := by
  refine T.F__law_pair.ok sc__law_pair (fun vs H Q E h => ?_) (fun cdv A outer s H vs Q E hr h => ?_)
  · obtain ⟨a, b, k, m, rfl, _⟩ := h
    rfl
  · obtain ⟨a, b, k, m, rfl, m1, m2, D, hk, q⟩ := h
    refine ⟨_, (pss_cons (ps_set (i := 2) sc__law_pair.nd rfl (Or.inr rfl) (pe_op op_add pe_int (pe_op op_mod (pe_callTy call_int1 (by rfl) T.n_int (by decide +kernel) (pa_cons (pe_call (ok__law_next T) (hr.mono (by decide)) (by rfl) T.g__law_next T.F__law_next.kp (b__law_next T) .nil pass0 (pa_cons (pv 0) pa_nil)) pa_nil)) (pv 1)))) (pss_cons (ps_setLc (i := 3) (own := [("_law_k", 5)]) (g := gName 5) (tt := tYes) rfl sc__law_pair.nd rfl rfl (sw_true rfl rfl rfl (by decide +kernel)) (pi_range1 (by rfl) T.n_range (pa_cons (pv 2) pa_nil)) (blkOk_by (own := [("_law_k", 5)]) (N := N__law_pair) (sc := defScope s__law_pair) (by decide +kernel)) (fun _ _ _ _ _ => pg_name (i := 5) sc__law_pair.nd rfl (Or.inl rfl)) (fun _ _ _ _ _ => pts_nil) (fun _ _ _ _ _ => (pe_op op_mod (pe_callTy call_int1 (by rfl) T.n_int (by decide +kernel) (pa_cons (pe_call (ok__law_next T) (hr.mono (by decide)) (by rfl) T.g__law_next T.F__law_next.kp (b__law_next T) .nil pass0 (pa_cons (pv 0) pa_nil)) pa_nil)) (pe_op op_add (pv 5) pe_int)))) (pss_cons (ps_setLc (i := 4) (own := [("_law_k", 5)]) (g := gName 5) (tt := tYes) rfl sc__law_pair.nd rfl rfl (sw_true rfl rfl rfl (by decide +kernel)) (pi_range1 (by rfl) T.n_range (pa_cons (pv 2) pa_nil)) (blkOk_by (own := [("_law_k", 5)]) (N := N__law_pair) (sc := defScope s__law_pair) (by decide +kernel)) (fun _ _ _ _ _ => pg_name (i := 5) sc__law_pair.nd rfl (Or.inl rfl)) (fun _ _ _ _ _ => pts_nil) (fun _ _ _ _ _ => (pe_op op_add (pe_op op_add (pv 5) pe_int) (pe_op op_mod (pe_callTy call_int1 (by rfl) T.n_int (by decide +kernel) (pa_cons (pe_call (ok__law_next T) (hr.mono (by decide)) (by rfl) T.g__law_next T.F__law_next.kp (b__law_next T) .nil pass0 (pa_cons (pv 0) pa_nil)) pa_nil)) (pe_op op_sub (pv 2) (pv 5)))))) (pss_one (ps_ret (pe_tup (pa_cons (pv 3) (pa_cons (pv 4) pa_nil)))))))), ?_⟩
    refine ⟨.ref a, rfl, a, b, k, rfl, D, by omega, fun n n0 H1 D1 ⟨o1, E1⟩ => ?_⟩
    refine .inl ⟨_, rfl, _, rfl, _, _, rfl, rfl, (by show (0 : Int) < m; omega), ?_⟩
    have g1 : 0 ≤ n % m := Int.emod_nonneg _ (by omega)
    have g2 : n % m < m := Int.emod_lt_of_pos _ (by omega)
    obtain ⟨N, eN⟩ : ∃ N : Nat, 1 + n % m = (N : Int) := ⟨(1 + n % m).toNat, by omega⟩
    refine ⟨_, _, rfl, rfl, ?_⟩
    show gName 2 (V.int (1 + n % m)) _ _ _
    rw [eN]
    have S1 : Keep a H H1 := by
      rw [E1]
      exact (Keep.refl a H).upd
    refine ⟨_, rfl, _, rfl, by omega, by omega, fun f nf1 => ?_⟩
    have nfa : f ≠ a := D1.ne nf1
    have nf : H f = none := S1.none_of nfa nf1
    refine lc_range (lo := 0) (n := N) (fun i H' => ∃ ns : List Int, Ints H' f ns ∧ ns.length = i ∧ DownT ns ∧ Dr H' a b (k + 1 + i) ∧ Keep a H H')
      ⟨[], upd_same, rfl, DownT.nil, (D1.upd nfa).mono (by omega), S1.other nf⟩ ?_ ?_
    · rintro i H2 hi ⟨ns, e2, l2, T2, D2, S2⟩
      refine ⟨rfl, yes (ifT rfl ?_)⟩
      refine ⟨.ref a, rfl, a, b, _, rfl, D2, by omega, fun z z0 H3 D3 ⟨o3, E3⟩ => ?_⟩
      have e3 : Ints H3 f ns := by
        show H3 f = _
        rw [E3, upd_ne nfa]
        exact e2
      refine .inl ⟨_, rfl, _, rfl, _, _, rfl, rfl, _, _, rfl, rfl, (by show (0 : Int) < 0 + (i : Int) + 1; omega), _, e3, ?_, ?_⟩
      · rw [List.length_map]
        exact line_lt (k := 17) (by omega)
      · rw [snoc_ints]
        have b1 : 0 ≤ z % (0 + (i : Int) + 1) := Int.emod_nonneg _ (by omega)
        have b2 : z % (0 + (i : Int) + 1) < 0 + (i : Int) + 1 := Int.emod_lt_of_pos _ (by omega)
        refine ⟨_, upd_same, by rw [List.length_append, l2]; rfl, T2.snoc b1 (by omega), (D3.upd nfa).mono (by omega), ?_⟩
        refine Keep.other ?_ nf
        rw [E3]
        exact S2.upd
    · rintro H2 ⟨ns, e2, l2, T2, D2, S2⟩
      refine ⟨_, rfl, _, rfl, by omega, by omega, fun r nr2 => ?_⟩
      have nra : r ≠ a := D2.ne nr2
      have nr : H r = none := S2.none_of nra nr2
      have nfr : f ≠ r := ne_of_none e2 nr2
      refine lc_range (lo := 0) (n := N) (fun i H' => ∃ ms : List Int, Ints H' r ms ∧ ms.length = i ∧ UpTo N ms ∧ Dr H' a b (k + 1 + N + i) ∧ Keep a H H' ∧ Ints H' f ns)
        ⟨[], upd_same, rfl, UpTo.nil N, (D2.upd nra).mono (by omega), S2.other nr, by show upd H2 r _ f = _; rw [upd_ne nfr]; exact e2⟩ ?_ ?_
      · rintro i H3 hi ⟨ms, e3, l3, U3, D3, S3, f3⟩
        refine ⟨rfl, yes (ifT rfl ?_)⟩
        refine ⟨_, rfl, _, _, rfl, rfl, ?_⟩
        refine ⟨.ref a, rfl, a, b, _, rfl, D3, by omega, fun z z0 H4 D4 ⟨o4, E4⟩ => ?_⟩
        have e4 : Ints H4 r ms := by
          show H4 r = _
          rw [E4, upd_ne nra]
          exact e3
        have f4 : Ints H4 f ns := by
          show H4 f = _
          rw [E4, upd_ne nfa]
          exact f3
        have pos : (0 : Int) < (N : Int) - (0 + (i : Int)) := by omega
        refine .inl ⟨_, rfl, _, rfl, _, rfl, _, _, rfl, rfl, _, _, rfl, rfl, pos, _, _, rfl, rfl, _, e4, ?_, ?_⟩
        · rw [List.length_map]
          exact line_lt (k := 17) (by omega)
        · rw [snoc_ints]
          have b1 : 0 ≤ z % ((N : Int) - (0 + (i : Int))) := Int.emod_nonneg _ (by omega)
          have b2 : z % ((N : Int) - (0 + (i : Int))) < (N : Int) - (0 + (i : Int)) := Int.emod_lt_of_pos _ pos
          refine ⟨_, upd_same, by rw [List.length_append, l3]; rfl, U3.snoc (by omega) (by omega), (D4.upd nra).mono (by omega), ?_, ?_⟩
          · refine Keep.other ?_ nr
            rw [E4]
            exact S3.upd
          · show upd H4 r _ f = _
            rw [upd_ne nfr]
            exact f4
      · rintro H3 ⟨ms, e3, l3, U3, D3, S3, f3⟩
        refine ⟨_, rfl, _, rfl, by show 2 ≤ sizeLine; decide, fun t nt => ?_⟩
        have s3 := same_new (o := .tup [.ref f, .ref r]) nt
        refine q _ t f r ns ms ⟨upd_same, s3 _ _ f3, s3 _ _ e3, T2, ?_, by omega, by omega, by omega⟩ (S3.none_of (D3.ne nt) nt) nf nr nfr (by omega) ((D3.upd (D3.ne nt)).mono (by omega)) (S3.trans (Same.keep s3))
        rw [← l3] at U3
        exact U3

def sp__law_tree (K : PySem.W.Frag) : Sp := sp__law_pair K
theorem ok__law_tree (T : Txt K mg) : FnOk P w K mg base CX0 2 T.f__law_tree T.fd__law_tree ["_law_draws_here", "_law_most"] (sp__law_tree K) := by
  refine T.F__law_tree.ok sc__law_tree (fun vs H Q E h => ?_) (fun cdv A outer s H vs Q E hr h => ?_)
  · obtain ⟨a, b, k, m, rfl, _⟩ := h
    rfl
  · obtain ⟨a, b, k, m, rfl, m1, m2, D, hk, q⟩ := h
    refine ⟨_, (pss_cons (ps_set (i := 2) sc__law_tree.nd rfl (Or.inl rfl) (pe_op op_add pe_int (pe_op op_mod (pe_callTy call_int1 (by rfl) T.n_int (by decide +kernel) (pa_cons (pe_call (ok__law_next T) (hr.mono (by decide)) (by rfl) T.g__law_next T.F__law_next.kp (b__law_next T) .nil pass0 (pa_cons (pv 0) pa_nil)) pa_nil)) (pv 1)))) (pss_cons (ps_set (i := 3) sc__law_tree.nd rfl (Or.inl rfl) (pe_op op_rep (pe_lst (pa_cons pe_int pa_nil)) (pv 2))) (pss_cons (ps_set (i := 4) sc__law_tree.nd rfl (Or.inl rfl) (pe_op op_rep (pe_lst (pa_cons pe_int pa_nil)) (pv 2))) (pss_cons (ps_set (i := 5) sc__law_tree.nd rfl (Or.inl rfl) (pe_lst (pa_cons (pe_tup (pa_cons pe_int (pa_cons (pv 2) pa_nil))) pa_nil))) (pss_cons (ps_while PassesOwn.never (pt_cmpR (op_neD (room_self hr)) (pv 5) (pe_lst pa_nil) (nomark _)) (pss_cons (ps_asg (pe_bm0 PySem.F.plainAttrs_list PySem.F.slot_list_pop PySem.F.type_list_pop mt_pop (pv 5)) (pg_tup (by rfl) (pgs_cons (pg_name (i := 6) sc__law_tree.nd rfl (Or.inl rfl)) (pgs_cons (pg_name (i := 7) sc__law_tree.nd rfl (Or.inl rfl)) pgs_nil)))) (pss_cons (ps_set (i := 8) sc__law_tree.nd rfl (Or.inl rfl) (pe_callTy call_int1 (by rfl) T.n_int (by decide +kernel) (pa_cons (pe_call (ok__law_next T) (hr.mono (by decide)) (by rfl) T.g__law_next T.F__law_next.kp (b__law_next T) .nil pass0 (pa_cons (pv 0) pa_nil)) pa_nil))) (pss_cons (ps_set (i := 9) sc__law_tree.nd rfl (Or.inl rfl) (pe_op op_add (pv 6) (pe_op op_mod (pe_op op_fdiv (pe_callTy call_int1 (by rfl) T.n_int (by decide +kernel) (pa_cons (pv 8) pa_nil)) pe_int) (pe_op op_add (pe_op op_sub (pv 7) (pv 6)) pe_int)))) (pss_cons (ps_set (i := 10) sc__law_tree.nd rfl (Or.inl rfl) (pe_ix ix_list (pe_lst (pa_cons (pv 6) (pa_cons (pv 7) (pa_cons (pv 9) (pa_cons (pv 9) pa_nil))))) (pe_op op_mod (pe_callTy call_int1 (by rfl) T.n_int (by decide +kernel) (pa_cons (pv 8) pa_nil)) pe_int) (fun _ _ => rfl))) (pss_cons (ps_asg (pe_op op_sub (pv 6) pe_int) (pg_sub (pv 3) (pe_op op_sub (pv 10) pe_int) set_list)) (pss_cons (ps_asg (pe_op op_add (pv 7) pe_int) (pg_sub (pv 4) (pe_op op_sub (pv 10) pe_int) set_list)) (pss_one (ps_set (i := 5) sc__law_tree.nd rfl (Or.inl rfl) (pe_op op_cat (pe_op op_cat (pv 5) (pe_op op_rep (pe_lst (pa_cons (pe_tup (pa_cons (pv 6) (pa_cons (pe_op op_sub (pv 10) pe_int) pa_nil))) pa_nil)) (pe_callTy call_int1 (by rfl) T.n_int (by decide +kernel) (pa_cons (pe_cmpR op_lt (pv 6) (pv 10) (nomark _)) pa_nil)))) (pe_op op_rep (pe_lst (pa_cons (pe_tup (pa_cons (pe_op op_add (pv 10) pe_int) (pa_cons (pv 7) pa_nil))) pa_nil)) (pe_callTy call_int1 (by rfl) T.n_int (by decide +kernel) (pa_cons (pe_cmpR op_lt (pv 10) (pv 7) (nomark _)) pa_nil))))))))))))) (pss_one (ps_ret (pe_tup (pa_cons (pv 3) (pa_cons (pv 4) pa_nil)))))))))), ?_⟩
    refine ⟨.ref a, rfl, a, b, k, rfl, D, by omega, fun n n0 H1 D1 ⟨o1, E1⟩ => ?_⟩
    refine .inl ⟨_, rfl, _, rfl, _, _, rfl, rfl, (by show (0 : Int) < m; omega), ?_⟩
    have g1 : 0 ≤ n % m := Int.emod_nonneg _ (by omega)
    have g2 : n % m < m := Int.emod_lt_of_pos _ (by omega)
    obtain ⟨N, eN⟩ : ∃ N : Nat, 1 + n % m = (N : Int) := ⟨(1 + n % m).toNat, by omega⟩
    refine ⟨_, _, rfl, rfl, ?_⟩
    show gName 2 (V.int (1 + n % m)) _ _ _
    rw [eN]
    have S1 : Keep a H H1 := by
      rw [E1]
      exact (Keep.refl a H).upd
    have N16 : N ≤ 16 := by omega
    -- falls, rises: noughts
    refine ⟨by show 1 ≤ sizeLine; decide, fun q1 nq1 => ⟨_, rfl, q1, N, _, rfl, rfl, upd_same, by omega, by omega, ?_, fun f nf => ?_⟩⟩
    · exact small_line (k := 16) (by simpa using N16)
    have nf1 : H1 f = none := none_of (same_new nq1) nf
    have nfa : f ≠ a := D1.ne nf1
    refine ⟨by show 1 ≤ sizeLine; decide, fun q2 nq2 => ⟨_, rfl, q2, N, _, rfl, rfl, upd_same, by omega, by omega, ?_, fun r nr => ?_⟩⟩
    · exact small_line (k := 16) (by simpa using N16)
    have zer : (List.replicate (N : Int).toNat [V.int 0]).flatten = (List.replicate N (0 : Int)).map V.int := by
      rw [rep_one, Int.toNat_natCast, List.map_replicate]
    rw [zer] at nq2 nr ⊢
    -- left = [(1, many)]
    refine ⟨_, rfl, by show 2 ≤ sizeLine; decide, fun t nt => ⟨by show 1 ≤ sizeLine; decide, fun L nL => ?_⟩⟩
    have sL := same_new (o := .lst [V.ref t]) nL
    have st := (same_new (o := .tup [V.int 1, V.int N]) nt).trans sL
    have sr := (same_new (o := .lst ((List.replicate N (0 : Int)).map V.int)) nr).trans st
    have sq2 := (same_new (o := .lst [V.int 0]) nq2).trans sr
    have sf := (same_new (o := .lst ((List.replicate N (0 : Int)).map V.int)) nf).trans sq2
    have sq1 := (same_new (o := .lst [V.int 0]) nq1).trans sf
    have nr1 : H1 r = none := none_of (same_new nq1) (none_of (same_new nf) (none_of (same_new nq2) nr))
    have nra : r ≠ a := D1.ne nr1
    have nL1 : H1 L = none := none_of (same_new nq1) (none_of (same_new nf) (none_of (same_new nq2) (none_of (same_new nr) (none_of (same_new nt) nL))))
    have nfH : H f = none := S1.none_of nfa nf1
    have nrH : H r = none := S1.none_of nra nr1
    have nLH : H L = none := S1.none_of (D1.ne nL1) nL1
    have nfr : f ≠ r := ne_of_none (same_new nq2 _ _ upd_same) nr
    have nfL : L ≠ f := (ne_of_none (((same_new nq2).trans ((same_new nr).trans (same_new nt))) _ _ upd_same) nL).symm
    have nrL : L ≠ r := (ne_of_none ((same_new nt) _ _ upd_same) nL).symm
    have tL : L ≠ t := (ne_of_none upd_same nL).symm
    refine ⟨fun mm σ H' => ∃ (L : Addr) (ivs : List Iv) (ns ms : List Int) (y6 y7 y8 y9 y10 : Option V),
        σ = [some (.ref a), some (.int m), some (.int N), some (.ref f), some (.ref r), some (.ref L), y6, y7, y8, y9, y10] ∧
        (Ints H' f ns ∧ DownT ns ∧ ns.length = N) ∧ (Ints H' r ms ∧ Rooted N ivs ms) ∧ (H' L = some (.lst (ivRefs ivs)) ∧ ∀ v ∈ ivs, IvAt H' N v) ∧
        Dr H' a b (k + 1 + (N - ivSize ivs)) ∧ Keep a H H' ∧ (L ≠ f ∧ L ≠ r ∧ L ≠ a ∧ H L = none) ∧ ivSize ivs ≤ N ∧ mm = (ivSize ivs).toNat,
      ⟨N, L, [(t, 1, (N : Int))], List.replicate N 0, List.replicate N 0, _, _, _, _, _, rfl, ⟨sq2 _ _ upd_same, ?_, List.length_replicate ..⟩,
        ⟨st _ _ upd_same, List.length_replicate .., ?_⟩, ⟨upd_same, ?_⟩, (D1.same sq1).mono ?_, S1.trans (Same.keep sq1), ⟨nfL, nrL, D1.ne nL1, nLH⟩, ?_, ?_⟩, ?_⟩
    · intro i x hx
      rw [List.getElem?_replicate] at hx
      split at hx
      · cases hx
        exact ⟨Int.le_refl _, by omega⟩
      · cases hx
    · intro i x hx
      rw [List.getElem?_replicate] at hx
      split at hx
      · exact .inr ⟨_, List.mem_cons_self, by show (1 : Int) ≤ _; omega, by show _ ≤ (N : Int); omega⟩
      · cases hx
    · intro v hv
      have e := List.mem_singleton.mp hv
      subst e
      exact ⟨sL _ _ upd_same, Int.le_refl _, by show (1 : Int) ≤ N; omega, Int.le_refl _⟩
    · have e : ivSize [(t, 1, (N : Int))] = N := by simp [ivSize]
      rw [e]
      omega
    · have e : ivSize [(t, 1, (N : Int))] = N := by simp [ivSize]
      rw [e]
      exact Int.le_refl _
    · have e : ivSize [(t, 1, (N : Int))] = N := by simp [ivSize]
      rw [e]
      rfl
    clear nL tL nL1 nLH nfL nrL sL st sr sq2 sf sq1
    rintro mm σ H2 ⟨L, ivs, ns, ms, y6, y7, y8, y9, y10, rfl, ⟨hf, Dn, ln⟩, ⟨hr2, Ro⟩, ⟨hL, hiv⟩, D2, S2, ⟨nLf, nLr, nLa, nLH⟩, le, rfl⟩
    have cnt := ivSize_ge ivs hiv
    refine ⟨.ref L, rfl, by decide, fun e0 ne0 => ?_⟩
    have s0 := same_new (o := .lst []) ne0
    have hiv0 : ∀ v ∈ ivs, IvAt (upd H2 e0 (.lst [])) N v := fun v hv => (hiv v hv).same s0
    refine ⟨.list (ivs.map fun v => PyData.tuple [.int v.2.1, .int v.2.2]), .list [], .lst (.inl (.inl (s0 _ _ hL))) (dp_ivs (N := N) ivs hiv0), .lst (.inl (.inl upd_same)) .nil,
      (nice_ivs N16 hiv (by omega)).shaped, rfl, _, rfl, ?_⟩
    rw [eqv_nil]
    rcases List.eq_nil_or_concat ivs with e | ⟨init, v, e⟩
    · subst e
      refine ifF rfl ?_
      refine ⟨_, rfl, _, rfl, by show 2 ≤ sizeLine; decide, fun t nt => ?_⟩
      have s3 := s0.trans (same_new (o := .tup [V.ref f, V.ref r]) nt)
      refine q _ t f r ns ms ⟨upd_same, s3 _ _ hf, s3 _ _ hr2, Dn, Ro.done, by rw [Ro.1, ln], by omega, by omega⟩
        (S2.none_of (D2.ne (none_of s0 nt)) (none_of s0 nt)) nfH nrH nfr (by omega) ((D2.same s3).mono ?_) (S2.trans (Same.keep s3))
      have e : ivSize [] = 0 := rfl
      rw [e]
      omega
    · rw [List.concat_eq_append] at e
      subst e
      refine ifT ?_ ?_
      · cases init <;> rfl
      refine ⟨_, fun _ _ z => z, ?_⟩
      obtain ⟨tv, lo, hi⟩ := v
      obtain ⟨et, c1, c2, c3⟩ := hiv (tv, lo, hi) (List.mem_append_right _ List.mem_cons_self)
      have et : H2 tv = some (.tup [.int lo, .int hi]) := et
      have c1 : 1 ≤ lo := c1
      have c2 : lo ≤ hi := c2
      have c3 : hi ≤ N := c3
      have esz : ivSize (init ++ [(tv, lo, hi)]) = ivSize init + (hi - lo + 1) := by
        rw [ivSize_app]
        simp [ivSize]
      rw [esz] at cnt le D2
      rw [esz]
      have hin : ∀ u ∈ init, IvAt H2 N u := fun u hu => hiv u (List.mem_append_left _ hu)
      have isz := ivSize_ge init hin
      -- left.pop()
      have eLs : ivRefs (init ++ [(tv, lo, hi)]) = ivRefs init ++ [V.ref tv] := by
        unfold ivRefs
        rw [List.map_append]
        rfl
      rw [eLs] at hL
      have hL0 := s0 _ _ hL
      refine ⟨.ref L, rfl, .inl ⟨rfl, _, .inl (.inl hL0)⟩, L, _, .ref tv, rfl, rfl, hL0, ?_, ?_⟩
      · rw [List.length_append]
        show (ivRefs init ++ [V.ref tv])[(ivRefs init).length + 1 - 1]? = _
        rw [Nat.add_sub_cancel, List.getElem?_append_right (Nat.le_refl _), Nat.sub_self]
        rfl
      rw [List.dropLast_concat]
      have Le0 : L ≠ e0 := ne_of_none hL ne0
      have tvL : tv ≠ L := (hiv (tv, lo, hi) (List.mem_append_right _ List.mem_cons_self)).ne hL
      have et3 : upd (upd H2 e0 (.lst [])) L (.lst (ivRefs init)) tv = some (.tup [.int lo, .int hi]) := by
        rw [upd_ne tvL]
        exact s0 _ _ et
      refine ⟨tv, [.int lo, .int hi], rfl, .inl (.inl et3), rfl, _, _, rfl, _, _, rfl, rfl, ?_⟩
      -- the heap behind it
      have D3 : Dr (upd (upd H2 e0 (.lst [])) L (.lst (ivRefs init))) a b (k + 1 + (N - (ivSize init + (hi - lo + 1)))) := (D2.same s0).upd nLa
      have S3 : Keep a H (upd (upd H2 e0 (.lst [])) L (.lst (ivRefs init))) := (S2.trans (Same.keep s0)).other nLH
      have f3 : Ints (upd (upd H2 e0 (.lst [])) L (.lst (ivRefs init))) f ns := by
        show upd _ L _ f = _
        rw [upd_ne nLf.symm]
        exact s0 _ _ hf
      have r3 : Ints (upd (upd H2 e0 (.lst [])) L (.lst (ivRefs init))) r ms := by
        show upd _ L _ r = _
        rw [upd_ne nLr.symm]
        exact s0 _ _ hr2
      have L3 : upd (upd H2 e0 (.lst [])) L (.lst (ivRefs init)) L = some (.lst (ivRefs init)) := upd_same
      have i3 : ∀ u ∈ init, IvAt (upd (upd H2 e0 (.lst [])) L (.lst (ivRefs init))) N u := fun u hu => ((hin u hu).same s0).upd ((hin u hu).ne hL)
      generalize upd (upd H2 e0 (.lst [])) L (.lst (ivRefs init)) = H3 at D3 S3 f3 r3 L3 i3 et3 ⊢
      -- pick
      refine ⟨.ref a, rfl, a, b, _, rfl, D3, by omega, fun z z0 H4 D4 ⟨o4, E4⟩ => .inl ⟨_, rfl, ?_⟩⟩
      have S4 : Keep a H H4 := by
        rw [E4]
        exact S3.upd
      have f4 : Ints H4 f ns := by
        show H4 f = _
        rw [E4, upd_ne nfa]
        exact f3
      have r4 : Ints H4 r ms := by
        show H4 r = _
        rw [E4, upd_ne nra]
        exact r3
      have L4 : H4 L = some (.lst (ivRefs init)) := by
        rw [E4, upd_ne nLa]
        exact L3
      obtain ⟨oa, ea⟩ := D3.some
      have i4 : ∀ u ∈ init, IvAt H4 N u := fun u hu => by
        rw [E4]
        obtain ⟨d, j, ed, _⟩ := D3
        exact (i3 u hu).upd ((i3 u hu).ne ed)
      clear E4 o4 ea oa
      -- some
      have pos : (0 : Int) < hi - lo + 1 := by omega
      refine ⟨_, rfl, _, rfl, .inl ⟨_, rfl, _, _, rfl, rfl, ⟨by decide, by decide⟩, _, rfl, _, rfl, _, _, rfl, rfl, _, _, rfl, rfl, _, _, rfl, rfl, pos, _, _, rfl, rfl, ?_⟩⟩
      have w1 : 0 ≤ (z / 4) % (hi - lo + 1) := Int.emod_nonneg _ (by omega)
      have w2 : (z / 4) % (hi - lo + 1) < hi - lo + 1 := Int.emod_lt_of_pos _ pos
      obtain ⟨sm, esm, sm1, sm2⟩ : ∃ sm : Int, lo + (z / 4) % (hi - lo + 1) = sm ∧ lo ≤ sm ∧ sm ≤ hi := ⟨_, rfl, by omega, by omega⟩
      show gName 9 (V.int (lo + (z / 4) % (hi - lo + 1))) _ _ _
      rw [esm]
      -- root
      obtain ⟨rt, rt1, rt2, hat⟩ : ∃ rt : Int, lo ≤ rt ∧ rt ≤ hi ∧ atI [V.int lo, V.int hi, V.int sm, V.int sm] (z % 4) = some (.int rt) := by
        have x1 : 0 ≤ z % 4 := Int.emod_nonneg _ (by decide)
        have x2 : z % 4 < 4 := Int.emod_lt_of_pos _ (by decide)
        rcases (show z % 4 = 0 ∨ z % 4 = 1 ∨ z % 4 = 2 ∨ z % 4 = 3 by omega) with e | e | e | e
        · rw [e]
          exact ⟨lo, Int.le_refl _, c2, rfl⟩
        · rw [e]
          exact ⟨hi, c2, Int.le_refl _, rfl⟩
        · rw [e]
          exact ⟨sm, sm1, sm2, rfl⟩
        · rw [e]
          exact ⟨sm, sm1, sm2, rfl⟩
      refine ⟨_, rfl, _, rfl, _, rfl, _, rfl, by show 4 ≤ sizeLine; decide, fun u nu => ⟨_, rfl, .inl ⟨_, rfl, _, _, rfl, rfl, (by show (0 : Int) < _; decide), u, _, _, _, rfl, rfl, .inl (.inl upd_same), hat, ?_⟩⟩⟩
      have s5 := same_new (o := .lst [V.int lo, V.int hi, V.int sm, V.int sm]) nu
      have f5 := s5 _ _ f4
      have r5 := s5 _ _ r4
      have L5 := s5 _ _ L4
      have D5 := D4.same s5
      have S5 := S4.trans (Same.keep s5)
      have i5 : ∀ u' ∈ init, IvAt _ N u' := fun u' hu => (i4 u' hu).same s5
      generalize upd H4 u (.lst [V.int lo, V.int hi, V.int sm, V.int sm]) = H5 at s5 f5 r5 L5 D5 S5 i5 ⊢
      -- falls[root - 1] = low - 1
      have x5 : ixN (ns.map V.int).length (rt - 1) = some (rt - 1).toNat := by
        rw [List.length_map, ln]
        exact ixN_int (by omega) (by omega)
      refine ⟨_, rfl, _, _, rfl, rfl, .ref f, rfl, _, rfl, _, _, rfl, rfl, f, _, _, _, rfl, rfl, f5, x5, ?_⟩
      rw [ints_set]
      have r6 : Ints (upd H5 f (.lst ((ns.set (rt - 1).toNat (lo - 1)).map V.int))) r ms := by
        show upd H5 f _ r = _
        rw [upd_ne nfr.symm]
        exact r5
      -- rises[root - 1] = high + 1
      have x6 : ixN (ms.map V.int).length (rt - 1) = some (rt - 1).toNat := by
        rw [List.length_map, Ro.1]
        exact ixN_int (by omega) (by omega)
      refine ⟨_, rfl, _, _, rfl, rfl, .ref r, rfl, _, rfl, _, _, rfl, rfl, r, _, _, _, rfl, rfl, r6, x6, ?_⟩
      rw [ints_set]
      have f7 : Ints (upd (upd H5 f (.lst ((ns.set (rt - 1).toNat (lo - 1)).map V.int))) r (.lst ((ms.set (rt - 1).toNat (hi + 1)).map V.int))) f (ns.set (rt - 1).toNat (lo - 1)) := by
        show upd _ r _ f = _
        rw [upd_ne nfr]
        exact upd_same
      have r7 : Ints (upd (upd H5 f (.lst ((ns.set (rt - 1).toNat (lo - 1)).map V.int))) r (.lst ((ms.set (rt - 1).toNat (hi + 1)).map V.int))) r (ms.set (rt - 1).toNat (hi + 1)) := upd_same
      have L7 : upd (upd H5 f (.lst ((ns.set (rt - 1).toNat (lo - 1)).map V.int))) r (.lst ((ms.set (rt - 1).toNat (hi + 1)).map V.int)) L = some (.lst (ivRefs init)) := by
        rw [upd_ne nLr, upd_ne nLf]
        exact L5
      have D7 := (D5.upd (o := .lst ((ns.set (rt - 1).toNat (lo - 1)).map V.int)) nfa).upd (o := .lst ((ms.set (rt - 1).toNat (hi + 1)).map V.int)) nra
      have S7 := (S5.other (o := .lst ((ns.set (rt - 1).toNat (lo - 1)).map V.int)) nfH).other (o := .lst ((ms.set (rt - 1).toNat (hi + 1)).map V.int)) nrH
      have i7 : ∀ u' ∈ init, IvAt (upd (upd H5 f (.lst ((ns.set (rt - 1).toNat (lo - 1)).map V.int))) r (.lst ((ms.set (rt - 1).toNat (hi + 1)).map V.int))) N u' := fun u' hu =>
        ((i5 u' hu).upd ((i5 u' hu).ne f5)).upd ((i5 u' hu).ne r5)
      generalize upd (upd H5 f (.lst ((ns.set (rt - 1).toNat (lo - 1)).map V.int))) r (.lst ((ms.set (rt - 1).toNat (hi + 1)).map V.int)) = H7 at f7 r7 L7 D7 S7 i7 ⊢
      -- left + [(low, root - 1)] * .. + [(root + 1, high)] * ..
      refine ⟨.ref L, rfl, _, rfl, _, rfl, _, _, rfl, rfl, by show 2 ≤ sizeLine; decide, fun t1 nt1 => ⟨by show 1 ≤ sizeLine; decide, fun p1 np1 => ?_⟩⟩
      refine ⟨_, rfl, _, rfl, _, _, rfl, rfl, .inr ⟨_, rfl, p1, _, _, rfl, rfl, upd_same, ?_, ?_, ?_, fun p2 np2 => ?_⟩⟩
      · split <;> omega
      · split <;> omega
      · split <;> exact small_line (k := 16) (by simp)
      have u1 := same_new (o := .tup [V.int lo, V.int (rt - 1)]) nt1
      have u2 := same_new (o := .lst [V.ref t1]) np1
      have u3 := same_new (o := .lst (List.replicate (if decide (lo < rt) = true then (1 : Int) else 0).toNat [V.ref t1]).flatten) np2
      have L8 := u3 _ _ (u2 _ _ (u1 _ _ L7))
      refine ⟨L, p2, _, _, rfl, rfl, L8, upd_same, ?_, fun p3 np3 => ?_⟩
      · refine small_line (k := 32) ?_
        rw [rep_one, List.length_replicate]
        unfold ivRefs
        rw [List.length_map]
        split <;> (simp only [Int.toNat_one, Int.toNat_zero]; omega)
      have u4 := same_new (o := .lst (ivRefs init ++ (List.replicate (if decide (lo < rt) = true then (1 : Int) else 0).toNat [V.ref t1]).flatten)) np3
      refine ⟨_, rfl, _, _, rfl, rfl, _, rfl, by show 2 ≤ sizeLine; decide, fun t2 nt2 => ⟨by show 1 ≤ sizeLine; decide, fun p4 np4 => ?_⟩⟩
      refine ⟨_, rfl, _, rfl, _, _, rfl, rfl, .inr ⟨_, rfl, p4, _, _, rfl, rfl, upd_same, ?_, ?_, ?_, fun p5 np5 => ?_⟩⟩
      · split <;> omega
      · split <;> omega
      · split <;> exact small_line (k := 16) (by simp)
      have u5 := same_new (o := .tup [V.int (rt + 1), V.int hi]) nt2
      have u6 := same_new (o := .lst [V.ref t2]) np4
      have u7 := same_new (o := .lst (List.replicate (if decide (rt < hi) = true then (1 : Int) else 0).toNat [V.ref t2]).flatten) np5
      have L9 := u7 _ _ (u6 _ _ (u5 _ _ (upd_same (H := _) (a := p3) (o := .lst (ivRefs init ++ (List.replicate (if decide (lo < rt) = true then (1 : Int) else 0).toNat [V.ref t1]).flatten)))))
      refine ⟨p3, p5, _, _, rfl, rfl, L9, upd_same, ?_, fun p6 np6 => ?_⟩
      · refine small_line (k := 32) ?_
        rw [rep_one, rep_one, List.length_append, List.length_replicate, List.length_replicate]
        unfold ivRefs
        rw [List.length_map]
        split <;> split <;> (simp only [Int.toNat_one, Int.toNat_zero]; omega)
      have R1 : (List.replicate (if decide (lo < rt) = true then (1 : Int) else 0).toNat [V.ref t1]).flatten = ivRefs (if lo < rt then [(t1, lo, rt - 1)] else []) := by
        by_cases h : lo < rt <;> simp [h, ivRefs]
      have R2 : (List.replicate (if decide (rt < hi) = true then (1 : Int) else 0).toNat [V.ref t2]).flatten = ivRefs (if rt < hi then [(t2, rt + 1, hi)] else []) := by
        by_cases h : rt < hi <;> simp [h, ivRefs]
      have Z1 : ivSize (if lo < rt then [(t1, lo, rt - 1)] else []) = rt - lo := by
        by_cases h : lo < rt
        · simp [h, ivSize]
          omega
        · simp [h, ivSize]
          omega
      have Z2 : ivSize (if rt < hi then [(t2, rt + 1, hi)] else []) = hi - rt := by
        by_cases h : rt < hi
        · simp [h, ivSize]
          omega
        · simp [h, ivSize]
          omega
      have Z : ivSize (init ++ ((if lo < rt then [(t1, lo, rt - 1)] else []) ++ (if rt < hi then [(t2, rt + 1, hi)] else []))) = ivSize init + (hi - lo) := by
        rw [ivSize_app, ivSize_app, Z1, Z2]
        omega
      have u8 := same_new (o := .lst (ivRefs init ++ (List.replicate (if decide (lo < rt) = true then (1 : Int) else 0).toNat [V.ref t1]).flatten ++ (List.replicate (if decide (rt < hi) = true then (1 : Int) else 0).toNat [V.ref t2]).flatten)) np6
      have v5 := u6.trans (u7.trans u8)
      have v4 := u5.trans v5
      have v1 := u2.trans (u3.trans (u4.trans v4))
      have v0 := u1.trans v1
      have np6' : H7 p6 = none := none_of (u1.trans (u2.trans (u3.trans (u4.trans (u5.trans (u6.trans u7)))))) np6
      refine ⟨(ivSize init + (hi - lo)).toNat, by omega, p6, init ++ ((if lo < rt then [(t1, lo, rt - 1)] else []) ++ (if rt < hi then [(t2, rt + 1, hi)] else [])),
        ns.set (rt - 1).toNat (lo - 1), ms.set (rt - 1).toNat (hi + 1), _, _, _, _, _, rfl, ⟨v0 _ _ f7, Dn.set (by omega) (by omega), by rw [List.length_set]; exact ln⟩,
        ⟨v0 _ _ r7, Ro.root c1 rt1 rt2 c3 ?_⟩, ⟨?_, ?_⟩, (D7.same v0).mono (by rw [Z]; omega), S7.trans (Same.keep v0), ⟨(ne_of_none f7 np6').symm, (ne_of_none r7 np6').symm, D7.ne np6', S7.none_of (D7.ne np6') np6'⟩, by rw [Z]; omega, by rw [Z]⟩
      · intro i d1 d2 d3
        have d1 : lo ≤ i := d1
        have d2 : i ≤ hi := d2
        by_cases h : i < rt
        · refine ⟨(t1, lo, rt - 1), List.mem_append_left _ ?_, d1, by show i ≤ rt - 1; omega⟩
          rw [if_pos (by omega)]
          exact List.mem_cons_self
        · refine ⟨(t2, rt + 1, hi), List.mem_append_right _ ?_, by show rt + 1 ≤ i; omega, d2⟩
          rw [if_pos (by omega)]
          exact List.mem_cons_self
      · rw [upd_same, R1, R2]
        unfold ivRefs
        rw [List.map_append, List.map_append, List.append_assoc]
      · intro u' hu'
        rcases List.mem_append.mp hu' with h | h
        · exact (i7 u' h).same v0
        · rcases List.mem_append.mp h with h | h
          · by_cases e : lo < rt
            · rw [if_pos e] at h
              have e2 := List.mem_singleton.mp h
              subst e2
              exact ⟨v1 _ _ upd_same, c1, by show lo ≤ rt - 1; omega, by show rt - 1 ≤ (N : Int); omega⟩
            · rw [if_neg e] at h
              exact absurd h List.not_mem_nil
          · by_cases e : rt < hi
            · rw [if_pos e] at h
              have e2 := List.mem_singleton.mp h
              subst e2
              exact ⟨v5 _ _ upd_same, by show 1 ≤ rt + 1; omega, by show rt + 1 ≤ hi; omega, c3⟩
            · rw [if_neg e] at h
              exact absurd h List.not_mem_nil

def sp__law_bent (K : PySem.W.Frag) : Sp := fun vs H Q _ => ∃ (a : Addr) (b : Bool) (k : Int) (t0 f0 r0 : Addr) (ns ms : List Int), vs = [.ref a, .ref t0] ∧ PairAt H t0 f0 r0 ns ms ∧ Dr H a b k ∧ k ≤ 50000 ∧
  ∀ H' t f r ns' ms', PairAt H' t f r ns' ms' → H t = none → H f = none → H r = none → f ≠ r → ns'.length = ns.length → Dr H' a b (k + 4) → Keep a H H' → Q (.ref t) H'
theorem ok__law_bent (T : Txt K mg) : FnOk P w K mg base CX0 2 T.f__law_bent T.fd__law_bent ["_law_draws_here", "_law_a_pair"] (sp__law_bent K) := by
  refine T.F__law_bent.ok sc__law_bent (fun vs H Q E h => ?_) (fun cdv A outer s H vs Q E hr h => ?_)
  · obtain ⟨a, b, k, t0, f0, r0, ns, ms, rfl, _⟩ := h
    rfl
  · obtain ⟨a, b, k, t0, f0, r0, ns, ms, rfl, pr, D, hk, q⟩ := h
    refine ⟨_, (pss_cons (ps_par (i := 2) (j := 3) (by rfl) sc__law_bent.nd rfl rfl (by decide) rfl rfl (pa_cons (pe_callTy call_list_of (by rfl) T.n_list (by decide +kernel) (pa_cons (pe_ix ix_tup (pv 1) pe_int (fun _ _ => rfl)) pa_nil)) (pa_cons (pe_callTy call_list_of (by rfl) T.n_list (by decide +kernel) (pa_cons (pe_ix ix_tup (pv 1) pe_int (fun _ _ => rfl)) pa_nil)) pa_nil)) (by rfl)) (pss_cons (ps_for PassesOwn.never rfl (pi_range1 (by rfl) T.n_range (pa_cons (pe_op op_add pe_int (pe_op op_mod (pe_callTy call_int1 (by rfl) T.n_int (by decide +kernel) (pa_cons (pe_call (ok__law_next T) (hr.mono (by decide)) (by rfl) T.g__law_next T.F__law_next.kp (b__law_next T) .nil pass0 (pa_cons (pv 0) pa_nil)) pa_nil)) pe_int)) pa_nil)) (pg_name (i := 4) sc__law_bent.nd rfl (Or.inl rfl)) (pss_cons (ps_set (i := 5) sc__law_bent.nd rfl (Or.inl rfl) (pe_callTy call_int1 (by rfl) T.n_int (by decide +kernel) (pa_cons (pe_call (ok__law_next T) (hr.mono (by decide)) (by rfl) T.g__law_next T.F__law_next.kp (b__law_next T) .nil pass0 (pa_cons (pv 0) pa_nil)) pa_nil))) (pss_cons (ps_set (i := 6) sc__law_bent.nd rfl (Or.inl rfl) (pe_op op_mod (pe_op op_fdiv (pe_callTy call_int1 (by rfl) T.n_int (by decide +kernel) (pa_cons (pv 5) pa_nil)) pe_int) (pe_callB call_len_seq (by rfl) T.n_len (by decide +kernel) (pa_cons (pv 2) pa_nil)))) (pss_one (ps_if (pt_cmpR op_eq (pe_op op_mod (pe_callTy call_int1 (by rfl) T.n_int (by decide +kernel) (pa_cons (pv 5) pa_nil)) pe_int) pe_int (nomark _)) (pss_one (ps_asg (pe_op op_mod (pe_op op_fdiv (pe_callTy call_int1 (by rfl) T.n_int (by decide +kernel) (pa_cons (pv 5) pa_nil)) pe_int) (pe_op op_add (pv 6) pe_int)) (pg_sub (pv 2) (pv 6) set_list))) (pss_one (ps_asg (pe_op op_add (pe_op op_add (pv 6) pe_int) (pe_op op_mod (pe_op op_fdiv (pe_callTy call_int1 (by rfl) T.n_int (by decide +kernel) (pa_cons (pv 5) pa_nil)) pe_int) (pe_op op_sub (pe_callB call_len_seq (by rfl) T.n_len (by decide +kernel) (pa_cons (pv 2) pa_nil)) (pv 6)))) (pg_sub (pv 3) (pv 6) set_list)))))))) (pss_one (ps_ret (pe_tup (pa_cons (pv 2) (pa_cons (pv 3) pa_nil))))))), ?_⟩
    refine ⟨.ref t0, rfl, t0, _, 0, _, rfl, rfl, .inl (.inl pr.tup), atI_nat (j := 0) rfl, f0, _, rfl, .inl (.inl (.inl pr.down)), fun f nf => ?_⟩
    have s1 := same_new (o := .lst (ns.map V.int)) nf
    refine ⟨.ref t0, rfl, t0, _, 1, _, rfl, rfl, .inl (.inl (s1 _ _ pr.tup)), atI_nat (j := 1) rfl, r0, _, rfl, .inl (.inl (.inl (s1 _ _ pr.up))), fun r nr => ?_⟩
    have s2 := same_new (o := .lst (ms.map V.int)) nr
    refine ⟨_, _, rfl, ?_⟩
    have nrH : H r = none := none_of s1 nr
    have nfa : f ≠ a := D.ne nf
    have nra : r ≠ a := D.ne nrH
    have nfr : f ≠ r := ne_of_none upd_same nr
    have D2 := (D.same s1).same s2
    have S2 : Keep a H _ := (Same.keep (a := a) s1).trans (Same.keep s2)
    have f2 := s2 _ _ (upd_same (H := H) (a := f) (o := .lst (ns.map V.int)))
    have r2 := upd_same (H := upd H f (.lst (ns.map V.int))) (a := r) (o := .lst (ms.map V.int))
    generalize upd (upd H f (.lst (ns.map V.int))) r (.lst (ms.map V.int)) = H2 at D2 S2 f2 r2 ⊢
    -- the turns
    refine ⟨.ref a, rfl, a, b, k, rfl, D2, by omega, fun n n0 H3 D3 ⟨o3, E3⟩ => ?_⟩
    refine .inl ⟨_, rfl, _, _, rfl, rfl, (by show (0 : Int) < _; decide), _, _, rfl, rfl, ?_⟩
    have g1 : 0 ≤ n % 3 := Int.emod_nonneg _ (by decide)
    have g2 : n % 3 < 3 := Int.emod_lt_of_pos _ (by decide)
    refine ⟨1 + n % 3, rfl, by omega, by omega, ?_⟩
    have f3 : Ints H3 f ns := by
      show H3 f = _
      rw [E3, upd_ne nfa]
      exact f2
    have r3 : Ints H3 r ms := by
      show H3 r = _
      rw [E3, upd_ne nra]
      exact r2
    have S3 : Keep a H H3 := by
      rw [E3]
      exact S2.upd
    refine for_range (lo := 0) (n := (1 + n % 3).toNat) (fun i σ H' => ∃ (ns' ms' : List Int) (y4 y5 y6 : Option V), σ = [some (.ref a), some (.ref t0), some (.ref f), some (.ref r), y4, y5, y6] ∧
        (Ints H' f ns' ∧ DownT ns' ∧ ns'.length = ns.length) ∧ (Ints H' r ms' ∧ UpT ms' ∧ ms'.length = ns.length) ∧ Dr H' a b (k + 1 + i) ∧ Keep a H H')
      ⟨ns, ms, _, _, _, rfl, ⟨f3, pr.isDown, rfl⟩, ⟨r3, pr.isUp, pr.len⟩, D3.mono (by omega), S3⟩ ?_ ?_
    · rintro i σ H4 hi ⟨ns', ms', y4, y5, y6, rfl, ⟨f4, d4, l4⟩, ⟨r4, u4, m4⟩, D4, S4⟩
      refine ⟨.ref a, rfl, a, b, _, rfl, D4, by omega, fun z z0 H5 D5 ⟨o5, E5⟩ => .inl ⟨_, rfl, ?_⟩⟩
      have f5 : Ints H5 f ns' := by
        show H5 f = _
        rw [E5, upd_ne nfa]
        exact f4
      have r5 : Ints H5 r ms' := by
        show H5 r = _
        rw [E5, upd_ne nra]
        exact r4
      have S5 : Keep a H H5 := by
        rw [E5]
        exact S4.upd
      have p1 := pr.pos
      have p2 := pr.most
      have lp : (0 : Int) < ((ns'.map V.int).length : Nat) := by
        rw [List.length_map]
        omega
      refine ⟨_, rfl, .inl ⟨_, rfl, _, _, rfl, rfl, ⟨by decide, by decide⟩, .ref f, rfl, f, _, rfl, .inl (.inl (.inl f5)), _, _, rfl, rfl, lp, ?_⟩⟩
      have w1 : 0 ≤ (z / 2) % ((ns'.map V.int).length : Nat) := Int.emod_nonneg _ (by omega)
      have w2 : (z / 2) % ((ns'.map V.int).length : Nat) < ((ns'.map V.int).length : Nat) := Int.emod_lt_of_pos _ lp
      obtain ⟨j, ej, j2⟩ : ∃ j : Nat, (z / 2) % ((ns'.map V.int).length : Nat) = (j : Int) ∧ j < ns.length := by
        refine ⟨((z / 2) % ((ns'.map V.int).length : Nat)).toNat, by omega, ?_⟩
        rw [List.length_map] at w1 w2 ⊢
        omega
      show gName 6 (V.int ((z / 2) % ((ns'.map V.int).length : Nat))) _ _ _
      rw [ej]
      refine ⟨_, rfl, .inl ⟨_, rfl, _, _, rfl, rfl, (by show (0 : Int) < _; decide), rfl, _, rfl, ite2 (fun _ => ?_) (fun _ => ?_)⟩⟩
      · have v1 : 0 ≤ (z / 32) % ((j : Int) + 1) := Int.emod_nonneg _ (by omega)
        have v2 : (z / 32) % ((j : Int) + 1) < (j : Int) + 1 := Int.emod_lt_of_pos _ (by omega)
        have x5 : ixN (ns'.map V.int).length (j : Int) = some j := ixN_of (by rw [List.length_map]; omega)
        refine ⟨_, rfl, .inl ⟨_, rfl, _, _, rfl, rfl, ⟨by decide, by decide⟩, _, rfl, _, _, rfl, rfl, _, _, rfl, rfl, (by show (0 : Int) < (j : Int) + 1; omega), .ref f, rfl, _, rfl, f, _, _, _, rfl, rfl, f5, x5, ?_⟩⟩
        rw [ints_set]
        refine ⟨ns'.set j ((z / 32) % ((j : Int) + 1)), ms', _, _, _, rfl, ⟨upd_same, d4.set v1 (by omega), by rw [List.length_set]; exact l4⟩, ⟨?_, u4, m4⟩, (D5.upd nfa).mono (by omega), S5.other nf⟩
        show upd H5 f _ r = _
        rw [upd_ne nfr.symm]
        exact r5
      · have pos : (0 : Int) < ((ns'.map V.int).length : Nat) - (j : Int) := by
          rw [List.length_map]
          omega
        have v1 : 0 ≤ (z / 32) % (((ns'.map V.int).length : Nat) - (j : Int)) := Int.emod_nonneg _ (by omega)
        have v2 : (z / 32) % (((ns'.map V.int).length : Nat) - (j : Int)) < ((ns'.map V.int).length : Nat) - (j : Int) := Int.emod_lt_of_pos _ pos
        have x5 : ixN (ms'.map V.int).length (j : Int) = some j := ixN_of (by rw [List.length_map]; omega)
        refine ⟨_, rfl, _, _, rfl, rfl, _, rfl, .inl ⟨_, rfl, _, _, rfl, rfl, ⟨by decide, by decide⟩, .ref f, rfl, f, _, rfl, .inl (.inl (.inl f5)), _, rfl, _, _, rfl, rfl, _, _, rfl, rfl, pos, _, _, rfl, rfl, .ref r, rfl, _, rfl, r, _, _, _, rfl, rfl, r5, x5, ?_⟩⟩
        rw [ints_set]
        refine ⟨ns', ms'.set j ((j : Int) + 2 + (z / 32) % (((ns'.map V.int).length : Nat) - (j : Int))), _, _, _, rfl, ⟨?_, d4, l4⟩, ⟨upd_same, u4.set (by omega) ?_, by rw [List.length_set]; exact m4⟩, (D5.upd nra).mono (by omega), S5.other nrH⟩
        · show upd H5 r _ f = _
          rw [upd_ne nfr]
          exact f5
        · rw [List.length_map] at v2 ⊢
          omega
    · rintro σ H4 ⟨ns', ms', y4, y5, y6, rfl, ⟨f4, d4, l4⟩, ⟨r4, u4, m4⟩, D4, S4⟩
      refine ⟨_, rfl, _, rfl, by show 2 ≤ sizeLine; decide, fun t nt => ?_⟩
      have s3 := same_new (o := .tup [V.ref f, V.ref r]) nt
      have p1 := pr.pos
      have p2 := pr.most
      exact q _ t f r ns' ms' ⟨upd_same, s3 _ _ f4, s3 _ _ r4, d4, u4, by omega, by omega, by omega⟩ (S4.none_of (D4.ne nt) nt) nf nrH nfr l4 ((D4.same s3).mono (by omega)) (S4.trans (Same.keep s3))

def sp__law_any (K : PySem.W.Frag) : Sp := fun vs H Q _ => ∃ (a : Addr) (b : Bool) (k m : Int), vs = [.ref a, .int m] ∧ 1 ≤ m ∧ m ≤ 16 ∧ Dr H a b k ∧ k ≤ 40000 ∧
  ∀ H' t f r ns ms, PairAt H' t f r ns ms → H t = none → H f = none → H r = none → f ≠ r → (ns.length : Int) ≤ m → Dr H' a b (k + 50) → Keep a H H' → Q (.ref t) H'
theorem ok__law_any (T : Txt K mg) : FnOk P w K mg base CX0 3 T.f__law_any T.fd__law_any ["_law_draws_here", "_law_most"] (sp__law_any K) := by
  refine T.F__law_any.ok sc__law_any (fun vs H Q E h => ?_) (fun cdv A outer s H vs Q E hr h => ?_)
  · obtain ⟨a, b, k, m, rfl, _⟩ := h
    rfl
  · obtain ⟨a, b, k, m, rfl, m1, m2, D, hk, q⟩ := h
    refine ⟨_, (pss_cons (ps_set (i := 2) sc__law_any.nd rfl (Or.inl rfl) (pe_op op_mod (pe_callTy call_int1 (by rfl) T.n_int (by decide +kernel) (pa_cons (pe_call (ok__law_next T) (hr.mono (by decide)) (by rfl) T.g__law_next T.F__law_next.kp (b__law_next T) .nil pass0 (pa_cons (pv 0) pa_nil)) pa_nil)) pe_int)) (pss_cons (ps_if (pt_cmpR op_eq (pv 2) pe_int (nomark _)) (pss_one (ps_ret (pe_call (ok__law_pair T) (hr.mono (by decide)) (by rfl) T.g__law_pair T.F__law_pair.kp (b__law_pair T) .nil pass0 (pa_cons (pv 0) (pa_cons (pv 1) pa_nil))))) pss_nil) (pss_cons (ps_set (i := 3) sc__law_any.nd rfl (Or.inl rfl) (pe_call (ok__law_tree T) (hr.mono (by decide)) (by rfl) T.g__law_tree T.F__law_tree.kp (b__law_tree T) .nil pass0 (pa_cons (pv 0) (pa_cons (pv 1) pa_nil)))) (pss_one (ps_ret (pe_ifExp (pt_cmpR op_eq (pv 2) pe_int (nomark _)) (pe_call (ok__law_bent T) (hr.mono (by decide)) (by rfl) T.g__law_bent T.F__law_bent.kp (b__law_bent T) .nil pass0 (pa_cons (pv 0) (pa_cons (pv 3) pa_nil))) (pv 3))))))), ?_⟩
    refine ⟨.ref a, rfl, a, b, k, rfl, D, by omega, fun n n0 H1 D1 ⟨o1, E1⟩ => .inl ⟨_, rfl, _, _, rfl, rfl, (by show (0 : Int) < _; decide), ?_⟩⟩
    have S1 : Keep a H H1 := by
      rw [E1]
      exact (Keep.refl a H).upd
    refine ⟨_, rfl, rfl, _, rfl, ite2 (fun _ => ?_) (fun _ => ?_)⟩
    · refine ⟨.ref a, rfl, _, rfl, a, b, _, m, rfl, m1, m2, D1, by omega, fun H2 t f r ns ms pr nt nf nr nfr le D2 S2 => ?_⟩
      exact q H2 t f r ns ms pr (S1.none_of (D1.ne nt) nt) (S1.none_of (D1.ne nf) nf) (S1.none_of (D1.ne nr) nr) nfr le (D2.mono (by omega)) (S1.trans S2)
    · refine ⟨.ref a, rfl, _, rfl, a, b, _, m, rfl, m1, m2, D1, by omega, fun H2 t f r ns ms pr nt nf nr nfr le D2 S2 => ?_⟩
      refine ⟨_, rfl, rfl, _, rfl, ite2 (fun _ => ?_) (fun _ => ?_)⟩
      · refine ⟨.ref a, rfl, _, rfl, a, b, _, t, f, r, ns, ms, rfl, pr, D2, by omega, fun H3 t' f' r' ns' ms' pr' nt' nf' nr' nfr' l' D3 S3 => ?_⟩
        have S12 := S1.trans S2
        exact q H3 t' f' r' ns' ms' pr' (S12.none_of (D2.ne nt') nt') (S12.none_of (D2.ne nf') nf') (S12.none_of (D2.ne nr') nr') nfr' (by omega) (D3.mono (by omega)) (S12.trans S3)
      · exact ⟨_, rfl, q H2 t f r ns ms pr (S1.none_of (D1.ne nt) nt) (S1.none_of (D1.ne nf) nf) (S1.none_of (D1.ne nr) nr) nfr le (D2.mono (by omega)) (S1.trans S2)⟩

/-! ### pairs, where nothing is wrong -/
def sp__is_two_tables (K : PySem.W.Frag) : Sp := fun vs H Q _ => ∃ (t f r : Addr) (xs ys : List V), vs = [.ref t] ∧ H t = some (.tup [.ref f, .ref r]) ∧ H f = some (.lst xs) ∧ H r = some (.lst ys) ∧ 1 ≤ xs.length ∧ xs.length ≤ 16 ∧ ys.length = xs.length ∧ Q (.bl true) H
theorem ok__is_two_tables (T : Txt K mg) : FnOk P w K mg base CX0 2 T.f__is_two_tables T.fd__is_two_tables ["thing"] (sp__is_two_tables K) := by
  refine T.F__is_two_tables.ok sc__is_two_tables (fun vs H Q E h => ?_) (fun cdv A outer s H vs Q E hr h => ?_)
  · obtain ⟨t, f, r, xs, ys, rfl, _⟩ := h
    rfl
  · obtain ⟨t, f, r, xs, ys, rfl, et, ef, er, l1, l2, l3, q⟩ := h
    refine ⟨_, (pss_cons (ps_if (PW.pt (pw_or (pt_not (pt_val (pe_callB call_isi (by rfl) T.n_isinstance (by decide +kernel) (pa_cons (pv 0) (pa_cons (pe_bltn (v := .ty "tuple") (u := .type "tuple") (by rfl) T.n_tuple (by decide +kernel) rfl) pa_nil))))) (pw_or1 (pt_cmpR op_ne (pe_callB call_len_seq (by rfl) T.n_len (by decide +kernel) (pa_cons (pv 0) pa_nil)) pe_int (nomark _))))) (pss_one (ps_ret pe_bl)) pss_nil) (pss_cons (ps_asg (pv 0) (pg_tup (by rfl) (pgs_cons (pg_name (i := 1) sc__is_two_tables.nd rfl (Or.inl rfl)) (pgs_cons (pg_name (i := 2) sc__is_two_tables.nd rfl (Or.inl rfl)) pgs_nil)))) (pss_one (ps_ret (pe_and (pe_call (ok__is_table T) (hr.mono (by decide)) (by rfl) T.g__is_table T.F__is_table.kp (b__is_table T) .nil pass0 (pa_cons (pv 1) pa_nil)) (pe_and (pe_call (ok__is_table T) (hr.mono (by decide)) (by rfl) T.g__is_table T.F__is_table.kp (b__is_table T) .nil pass0 (pa_cons (pv 2) pa_nil)) (pe_one (pe_cmpR op_eq (pe_callB call_len_seq (by rfl) T.n_len (by decide +kernel) (pa_cons (pv 1) pa_nil)) (pe_callB call_len_seq (by rfl) T.n_len (by decide +kernel) (pa_cons (pv 2) pa_nil)) (nomark _))))))))), ?_⟩
    refine ⟨.ref t, rfl, _, .ty "tuple", .type "tuple", .type "tuple", true, rfl, .ty _, .base (.tup et), kit_ty (by decide +kernel), true, rfl, ifF rfl ?_⟩
    refine ⟨.ref t, rfl, t, _, rfl, .inr (.inl (.inl et)), rfl, _, rfl, ifF (by rfl) ?_⟩
    refine ⟨_, rfl, t, _, rfl, .inl (.inl et), rfl, _, _, rfl, _, _, rfl, rfl, ?_⟩
    refine ⟨.ref f, rfl, f, xs, rfl, ef, l1, l2, true, rfl, ifT rfl ?_⟩
    refine ⟨.ref r, rfl, r, ys, rfl, er, by omega, by omega, true, rfl, ifT rfl ?_⟩
    refine ⟨.ref f, rfl, f, xs, rfl, .inl (.inl (.inl ef)), .ref r, rfl, r, ys, rfl, .inl (.inl (.inl er)), rfl, ?_⟩
    rw [l3, decide_eq_true rfl]
    exact q
def sp_check_pair (K : PySem.W.Frag) : Sp := fun vs H Q _ => ∃ (t f r : Addr) (ns ms : List Int), vs = [.ref t] ∧ PairAt H t f r ns ms ∧ ∀ H', Same H H' → Q .non H'
theorem ok_check_pair (T : Txt K mg) : FnOk P w K mg base CX0 3 T.f_check_pair T.fd_check_pair ["pair"] (sp_check_pair K) := by
  refine T.F_check_pair.ok sc_check_pair (fun vs H Q E h => ?_) (fun cdv A outer s H vs Q E hr h => ?_)
  · obtain ⟨t, f, r, ns, ms, rfl, _⟩ := h
    rfl
  · obtain ⟨t, f, r, ns, ms, rfl, pr, q⟩ := h
    refine ⟨_, (pss_cons (ps_if (pt_not (pt_val (pe_call (ok__is_two_tables T) (hr.mono (by decide)) (by rfl) T.g__is_two_tables T.F__is_two_tables.kp (b__is_two_tables T) .nil pass0 (pa_cons (pv 0) pa_nil)))) (pss_one (ps_never)) pss_nil) (pss_cons (ps_asg (pv 0) (pg_tup (by rfl) (pgs_cons (pg_name (i := 1) sc_check_pair.nd rfl (Or.inl rfl)) (pgs_cons (pg_name (i := 2) sc_check_pair.nd rfl (Or.inl rfl)) pgs_nil)))) (pss_cons (ps_expr (pe_call (ok__check_down_links T) (hr.mono (by decide)) (by rfl) T.g__check_down_links T.F__check_down_links.kp (b__check_down_links T) .nil pass0 (pa_cons (pv 1) pa_nil))) (pss_one (ps_expr (pe_call (ok__check_up_links T) (hr.mono (by decide)) (by rfl) T.g__check_up_links T.F__check_up_links.kp (b__check_up_links T) .nil pass0 (pa_cons (pv 2) pa_nil))))))), ?_⟩
    refine ⟨.ref t, rfl, t, f, r, _, _, rfl, pr.tup, pr.down, pr.up, by rw [List.length_map]; exact pr.pos, by rw [List.length_map]; exact pr.most, by rw [List.length_map, List.length_map]; exact pr.len, true, rfl, ifF rfl ?_⟩
    refine ⟨_, rfl, t, _, rfl, .inl (.inl pr.tup), rfl, _, _, rfl, _, _, rfl, rfl, ?_⟩
    refine ⟨.ref f, rfl, f, ns, rfl, pr.down, pr.isDown, fun H1 s1 => ?_⟩
    exact ⟨.ref r, rfl, r, ms, rfl, (pr.same s1).up, pr.isUp, fun H2 s2 => q H2 (s1.trans s2)⟩

/-! ### signed sums -/
def sp__add (K : PySem.W.Frag) : Sp := fun vs H Q _ => ∃ (d t : Addr) (i j m : Int) (kvs : List (List Key × V)) (ps : List (Int × Int)) (S : Int × Int → Int), vs = [.ref d, .ref t, .int m] ∧ H d = some (.dT kvs) ∧ H t = some (.tup [.int i, .int j]) ∧ SumD kvs ps S ∧ ps.length ≤ 100 ∧
  ∀ kvs' ps', SumD kvs' ps' (bump S (i, j) m) → ps'.length ≤ ps.length + 1 → Q .non (upd H d (.dT kvs'))
theorem ok__add (T : Txt K mg) : FnOk P w K mg base CX0 1 T.f__add T.fd__add ["sums", "places", "more"] (sp__add K) := by
  refine T.F__add.ok sc__add (fun vs H Q E h => ?_) (fun cdv A outer s H vs Q E hr h => ?_)
  · obtain ⟨d, t, i, j, m, kvs, ps, S, rfl, _⟩ := h
    rfl
  · obtain ⟨d, t, i, j, m, kvs, ps, S, rfl, hd, ht, hS, hl, q⟩ := h
    refine ⟨_, (pss_one (ps_dput (hu_of hr) (pv 0) (pv 1) (pe_op op_add (pe_dget2 (hu_of hr) (pv 0) (pv 1) pe_int ⟨by rfl, by rfl, by rfl, by rfl⟩) (pv 2)) rfl)), ?_⟩
    obtain ⟨ps', h1, h2⟩ := hS.put (i, j) m
    refine ⟨_, rfl, d, rfl, .inr ⟨kvs, .inl hd⟩, _, rfl, valV kvs (k2 (i, j)), DGet.t (k := k2 (i, j)) hd ht, _, rfl, S (i, j), m, hS.get (i, j), rfl, ?_⟩
    exact ⟨_, rfl, _, rfl, d, _, rfl, DPut.t (k := k2 (i, j)) hd ht (by rw [hS.len]; exact line_lt (k := 101) (by omega)), q _ ps' h1 h2⟩
def sp__sums (K : PySem.W.Frag) : Sp := fun vs H Q _ => ∃ (t f r : Addr) (ns ms : List Int), vs = [.ref t] ∧ PairAt H t f r ns ms ∧ ∀ H' q as ts, Same H H' → H q = none → TriAt H' q as ts → IsSums ns ms ts → ts.length ≤ 48 → Q (.ref q) H'
theorem ok__sums (T : Txt K mg) : FnOk P w K mg base CX0 2 T.f__sums T.fd__sums ["pair"] (sp__sums K) := by
  refine T.F__sums.ok sc__sums (fun vs H Q E h => ?_) (fun cdv A outer s H vs Q E hr h => ?_)
  · obtain ⟨t, f, r, ns, ms, rfl, _⟩ := h
    rfl
  · obtain ⟨t, f, r, ns, ms, rfl, pr, q⟩ := h
    refine ⟨_, (pss_cons (ps_asg (pv 0) (pg_tup (by rfl) (pgs_cons (pg_name (i := 1) sc__sums.nd rfl (Or.inl rfl)) (pgs_cons (pg_name (i := 2) sc__sums.nd rfl (Or.inl rfl)) pgs_nil)))) (pss_cons (ps_set (i := 3) sc__sums.nd rfl (Or.inr rfl) pe_dnewT) (pss_cons (ps_for PassesOwn.never rfl (pi_range2 (by rfl) T.n_range (pa_cons pe_int (pa_cons (pe_op op_add (pe_callB call_len_seq (by rfl) T.n_len (by decide +kernel) (pa_cons (pv 1) pa_nil)) pe_int) pa_nil))) (pg_name (i := 4) sc__sums.nd rfl (Or.inl rfl)) (pss_cons (ps_par (i := 5) (j := 6) (by rfl) sc__sums.nd rfl rfl (by decide) rfl rfl (pa_cons (pe_ix ix_list (pv 1) (pe_op op_sub (pv 4) pe_int) (fun _ _ => rfl)) (pa_cons (pe_ix ix_list (pv 2) (pe_op op_sub (pv 4) pe_int) (fun _ _ => rfl)) pa_nil)) (by rfl)) (pss_cons (ps_par (i := 7) (j := 8) (by rfl) sc__sums.nd rfl rfl (by decide) rfl rfl (pa_cons (pe_cmpR op_gt (pv 5) pe_int (nomark _)) (pa_cons (pe_cmpR op_le (pv 6) (pe_callB call_len_seq (by rfl) T.n_len (by decide +kernel) (pa_cons (pv 2) pa_nil)) (nomark _)) pa_nil)) (by rfl)) (pss_cons (ps_if (pt_truth (pv 7) (by intro _; rfl)) (pss_one (ps_expr (pe_call (ok__add T) (hr.mono (by decide)) (by rfl) T.g__add T.F__add.kp (b__add T) .nil pass0 (pa_cons (pv 3) (pa_cons (pe_tup (pa_cons (pv 4) (pa_cons (pv 5) pa_nil))) (pa_cons pe_int pa_nil)))))) pss_nil) (pss_cons (ps_if (pt_truth (pv 8) (by intro _; rfl)) (pss_one (ps_expr (pe_call (ok__add T) (hr.mono (by decide)) (by rfl) T.g__add T.F__add.kp (b__add T) .nil pass0 (pa_cons (pv 3) (pa_cons (pe_tup (pa_cons (pv 6) (pa_cons (pv 4) pa_nil))) (pa_cons pe_int pa_nil)))))) pss_nil) (pss_one (ps_if (PW.pt (pw_and (pt_truth (pv 7) (by intro _; rfl)) (pw_and1 (pt_truth (pv 8) (by intro _; rfl))))) (pss_one (ps_expr (pe_call (ok__add T) (hr.mono (by decide)) (by rfl) T.g__add T.F__add.kp (b__add T) .nil pass0 (pa_cons (pv 3) (pa_cons (pe_tup (pa_cons (pv 6) (pa_cons (pv 5) pa_nil))) (pa_cons (pe_un un_neg pe_int) pa_nil)))))) pss_nil))))))) (pss_one (ps_ret (pe_lc (own := [("first", 9), ("second", 10)]) (g := gTup K 2 (gCons (gName 9) (gCons (gName 10) gNil))) rfl sc__sums.nd (pi_list (pe_callB (call_sortedDT rfl) (by rfl) T.n_sorted (by decide +kernel) (pa_cons (pv 3) pa_nil))) (blkOk_by (own := [("first", 9), ("second", 10)]) (N := N__sums) (sc := defScope s__sums) (by decide +kernel)) (fun _ _ _ _ _ => (pg_tup (by rfl) (pgs_cons (pg_name (i := 9) sc__sums.nd rfl (Or.inl rfl)) (pgs_cons (pg_name (i := 10) sc__sums.nd rfl (Or.inl rfl)) pgs_nil)))) (fun _ _ _ _ _ => pts_one (ptT K (pe_dget (hu_of hr) (pv 3) (pe_tup (pa_cons (pv 9) (pa_cons (pv 10) pa_nil))) (fun _ _ => rfl)) (by intro _; rfl))) (fun _ _ _ _ _ => (pe_tup (pa_cons (pv 9) (pa_cons (pv 10) (pa_cons (pe_dget (hu_of hr) (pv 3) (pe_tup (pa_cons (pv 9) (pa_cons (pv 10) pa_nil))) (fun _ _ => rfl)) pa_nil))))))))))), ?_⟩
    have p1 := pr.pos
    have p2 := pr.most
    have p3 := pr.len
    refine ⟨_, rfl, t, _, rfl, .inl (.inl pr.tup), rfl, _, _, rfl, _, _, rfl, rfl, ?_⟩
    refine fun d nd => ?_
    have s1 := same_new (o := .dT []) nd
    have d1 := upd_same (H := H) (a := d) (o := .dT [])
    generalize upd H d (.dT []) = H1 at s1 d1 ⊢
    refine ⟨_, rfl, f, _, rfl, .inl (.inl (.inl (s1 _ _ pr.down))), _, _, rfl, rfl, 1, _, rfl, ⟨by decide, by decide, by rw [List.length_map]; omega, by rw [List.length_map]; omega⟩, ?_⟩
    rw [List.length_map]
    have en : (((ns.length : Int) + 1) - 1).toNat = ns.length := by omega
    rw [en]
    refine for_range (lo := 1) (n := ns.length) (fun i σ H' => ∃ (y4 y5 y6 y7 y8 y9 y10 : Option V) (kvs : List (List Key × V)) (ps : List (Int × Int)), σ = [some (.ref t), some (.ref f), some (.ref r), some (.ref d), y4, y5, y6, y7, y8, y9, y10] ∧
        Same H H' ∧ H' d = some (.dT kvs) ∧ SumD kvs ps (sgn ns ms i) ∧ ps.length ≤ 3 * i) ⟨_, _, _, _, _, _, _, [], [], rfl, s1, d1, SumD.nil, Nat.zero_le _⟩ ?_ ?_
    · rintro i σ H2 hi ⟨y4, y5, y6, y7, y8, y9, y10, kvs, ps, rfl, s2, d2, hS, lp⟩
      have pr2 := pr.same s2
      have a1 : atI (ns.map V.int) (1 + (i : Int) - 1) = some (.int (gt ns i)) := by
        have e : (1 + (i : Int) - 1).toNat = i := by omega
        exact at_ints (by omega) (by rw [e]; exact gt_at hi)
      have a2 : atI (ms.map V.int) (1 + (i : Int) - 1) = some (.int (gt ms i)) := by
        have e : (1 + (i : Int) - 1).toNat = i := by omega
        exact at_ints (by omega) (by rw [e]; exact gt_at (by omega))
      refine ⟨_, rfl, _, rfl, _, _, rfl, rfl, f, _, _, _, rfl, rfl, .inl (.inl pr2.down), a1, _, rfl, _, rfl, _, _, rfl, rfl, r, _, _, _, rfl, rfl, .inl (.inl pr2.up), a2, _, _, rfl, ?_⟩
      refine ⟨_, rfl, _, _, rfl, rfl, _, rfl, .ref r, rfl, r, _, rfl, .inl (.inl (.inl pr2.up)), _, _, rfl, rfl, _, _, rfl, ?_⟩
      have lu : ((ms.map V.int).length : Nat) = ms.length := List.length_map ..
      have ei : 1 + (i : Int) = (i : Int) + 1 := by omega
      rw [ei]
      have i16 : i ≤ 16 := by omega
      by_cases c1 : 0 < gt ns i <;> by_cases c2 : gt ms i ≤ ((ms.map V.int).length : Nat)
      all_goals have c2' := c2
      all_goals rw [lu] at c2'
      ·
        -- below, above
        refine ⟨_, rfl, _, rfl, ifT (decide_eq_true c1) ?_⟩
        refine ⟨_, rfl, _, rfl, _, rfl, by show 2 ≤ sizeLine; decide, fun t1 n1 => ?_⟩
        refine ⟨d, t1, _, _, _, _, _, _, rfl, (same_new n1) _ _ d2, upd_same, hS, by omega, fun kv1 ps1 hS1 l1 => ?_⟩
        have e1 := upd_same (H := upd H2 t1 (.tup [.int ((i : Int) + 1), .int (gt ns i)])) (a := d) (o := .dT kv1)
        have w1 := same_upd_other (o := .dT kv1) (s2.trans (same_new (o := .tup [.int ((i : Int) + 1), .int (gt ns i)]) n1)) nd
        generalize upd (upd H2 t1 (.tup [.int ((i : Int) + 1), .int (gt ns i)])) d (.dT kv1) = K1 at e1 w1 ⊢
        refine ⟨_, rfl, _, rfl, ifT (decide_eq_true c2) ?_⟩
        refine ⟨_, rfl, _, rfl, _, rfl, by show 2 ≤ sizeLine; decide, fun t2 n2 => ?_⟩
        refine ⟨d, t2, _, _, _, _, _, _, rfl, (same_new n2) _ _ e1, upd_same, hS1, by omega, fun kv2 ps2 hS2 l2 => ?_⟩
        have e2 := upd_same (H := upd K1 t2 (.tup [.int (gt ms i), .int ((i : Int) + 1)])) (a := d) (o := .dT kv2)
        have w2 := same_upd_other (o := .dT kv2) (w1.trans (same_new (o := .tup [.int (gt ms i), .int ((i : Int) + 1)]) n2)) nd
        generalize upd (upd K1 t2 (.tup [.int (gt ms i), .int ((i : Int) + 1)])) d (.dT kv2) = K2 at e2 w2 ⊢
        refine ⟨_, rfl, _, rfl, ifT (decide_eq_true c1) ⟨_, rfl, _, rfl, ifT (decide_eq_true c2) ?_⟩⟩
        refine ⟨_, rfl, _, rfl, _, rfl, by show 2 ≤ sizeLine; decide, fun t3 n3 => ?_⟩
        refine ⟨_, rfl, d, t3, _, _, _, _, _, _, rfl, (same_new n3) _ _ e2, upd_same, hS2, by omega, fun kv3 ps3 hS3 l3 => ?_⟩
        have e3 := upd_same (H := upd K2 t3 (.tup [.int (gt ms i), .int (gt ns i)])) (a := d) (o := .dT kv3)
        have w3 := same_upd_other (o := .dT kv3) (w2.trans (same_new (o := .tup [.int (gt ms i), .int (gt ns i)]) n3)) nd
        generalize upd (upd K2 t3 (.tup [.int (gt ms i), .int (gt ns i)])) d (.dT kv3) = K3 at e3 w3 ⊢
        refine ⟨_, _, _, _, _, _, _, kv3, ps3, rfl, w3, e3, ?_, by omega⟩
        refine SumD.cast hS3 fun p => ?_
        rw [sgn_succ]
        unfold ctr
        simp only [bump_at, c1, c2', true_and, false_and, and_self, and_true, and_false, if_false, Int.add_zero, Int.zero_add]
        try omega
      ·
        -- below, none above
        refine ⟨_, rfl, _, rfl, ifT (decide_eq_true c1) ?_⟩
        refine ⟨_, rfl, _, rfl, _, rfl, by show 2 ≤ sizeLine; decide, fun t1 n1 => ?_⟩
        refine ⟨d, t1, _, _, _, _, _, _, rfl, (same_new n1) _ _ d2, upd_same, hS, by omega, fun kv1 ps1 hS1 l1 => ?_⟩
        have e1 := upd_same (H := upd H2 t1 (.tup [.int ((i : Int) + 1), .int (gt ns i)])) (a := d) (o := .dT kv1)
        have w1 := same_upd_other (o := .dT kv1) (s2.trans (same_new (o := .tup [.int ((i : Int) + 1), .int (gt ns i)]) n1)) nd
        generalize upd (upd H2 t1 (.tup [.int ((i : Int) + 1), .int (gt ns i)])) d (.dT kv1) = K1 at e1 w1 ⊢
        refine ⟨_, rfl, _, rfl, ifF (decide_eq_false c2) ?_⟩
        refine ⟨_, rfl, _, rfl, ifT (decide_eq_true c1) ⟨_, rfl, _, rfl, ifF (decide_eq_false c2) ?_⟩⟩
        refine ⟨_, _, _, _, _, _, _, kv1, ps1, rfl, w1, e1, ?_, by omega⟩
        refine SumD.cast hS1 fun p => ?_
        rw [sgn_succ]
        unfold ctr
        simp only [bump_at, c1, c2', true_and, false_and, and_self, and_true, and_false, if_false, Int.add_zero, Int.zero_add]
        try omega
      ·
        -- none below, above
        refine ⟨_, rfl, _, rfl, ifF (decide_eq_false c1) ?_⟩
        refine ⟨_, rfl, _, rfl, ifT (decide_eq_true c2) ?_⟩
        refine ⟨_, rfl, _, rfl, _, rfl, by show 2 ≤ sizeLine; decide, fun t1 n1 => ?_⟩
        refine ⟨d, t1, _, _, _, _, _, _, rfl, (same_new n1) _ _ d2, upd_same, hS, by omega, fun kv1 ps1 hS1 l1 => ?_⟩
        have e1 := upd_same (H := upd H2 t1 (.tup [.int (gt ms i), .int ((i : Int) + 1)])) (a := d) (o := .dT kv1)
        have w1 := same_upd_other (o := .dT kv1) (s2.trans (same_new (o := .tup [.int (gt ms i), .int ((i : Int) + 1)]) n1)) nd
        generalize upd (upd H2 t1 (.tup [.int (gt ms i), .int ((i : Int) + 1)])) d (.dT kv1) = K1 at e1 w1 ⊢
        refine ⟨_, rfl, _, rfl, ifF (decide_eq_false c1) (ifF rfl ?_)⟩
        refine ⟨_, _, _, _, _, _, _, kv1, ps1, rfl, w1, e1, ?_, by omega⟩
        refine SumD.cast hS1 fun p => ?_
        rw [sgn_succ]
        unfold ctr
        simp only [bump_at, c1, c2', true_and, false_and, and_self, and_true, and_false, if_false, Int.add_zero, Int.zero_add]
        try omega
      ·
        -- none below, none above
        refine ⟨_, rfl, _, rfl, ifF (decide_eq_false c1) ?_⟩
        refine ⟨_, rfl, _, rfl, ifF (decide_eq_false c2) ?_⟩
        refine ⟨_, rfl, _, rfl, ifF (decide_eq_false c1) (ifF rfl ?_)⟩
        refine ⟨_, _, _, _, _, _, _, kvs, ps, rfl, s2, d2, ?_, by omega⟩
        refine SumD.cast hS fun p => ?_
        rw [sgn_succ]
        unfold ctr
        simp only [bump_at, c1, c2', true_and, false_and, and_self, and_true, and_false, if_false, Int.add_zero, Int.zero_add]
        try omega
    · rintro σ H2 ⟨y4, y5, y6, y7, y8, y9, y10, kvs, ps, rfl, s2, d2, hS, lp⟩
      refine ⟨_, rfl, d, kvs, ps, rfl, .inl d2, hS.keys, fun ys g perm ord at' ng => ⟨g, rfl, ⟨_, .inl (.inl upd_same)⟩, fun R nR => ?_⟩⟩
      have S2 := s2.trans (same_new (o := .lst (ys.map fun y => V.ref y.1)) ng)
      have s3 := same_new (o := .lst (ys.map fun y => V.ref y.1)) ng
      have eg := upd_same (H := H2) (a := g) (o := .lst (ys.map fun y => V.ref y.1))
      have d3 := s3 _ _ d2
      generalize upd H2 g (.lst (ys.map fun y => V.ref y.1)) = H3 at nR S2 s3 eg d3 ⊢
      have ly : ys.length = ps.length := by
        have := perm.length_eq
        rw [List.length_map] at this
        exact this
      refine lc_list (a := g) (xs := ys.map fun y => V.ref y.1) (fun i H' => Same H3 H' ∧ ∃ as, TriAt H' R as (keptOf (sgn ns ms ns.length) ((ys.take i).map (·.2))) ∧ as.length ≤ i) ⟨same_new nR, [], TriAt.nil upd_same, Nat.le_refl _⟩
        (fun i H' _ h => .inl (.inl (h.1 _ _ eg))) ?_ ?_
      · rintro i x H4 hx ⟨s4, as, tr, la⟩
        rw [List.getElem?_map] at hx
        obtain ⟨y, hy, rfl⟩ : ∃ y, ys[i]? = some y ∧ x = V.ref y.1 := by
          cases e : ys[i]? with
          | none =>
            rw [e] at hx
            cases hx
          | some y =>
            rw [e] at hx
            exact ⟨y, rfl, (Option.some.inj hx).symm⟩
        have hi := (List.getElem?_eq_some_iff.mp hy).1
        have my : y ∈ ys := List.mem_of_getElem? hy
        have mp : y.2 ∈ ps := perm.mem_iff.mp (List.mem_map.mpr ⟨y, my, rfl⟩)
        have ty : H4 y.1 = some (.tup [.int y.2.1, .int y.2.2]) := s4 _ _ (s3 _ _ (at' y my))
        have d4 := s4 _ _ d3
        have look : ∀ {Hx : Hp} {u : Addr}, Hx d = some (.dT kvs) → Hx u = some (.tup [.int y.2.1, .int y.2.2]) → DGet Hx d (.ref u) (some (.int (sgn ns ms ns.length y.2))) := by
          intro Hx u h1 h2
          have z := DGet.t (k := k2 y.2) h1 h2
          rw [hS.here y.2 mp] at z
          exact z
        have tk : (ys.take (i + 1)).map (·.2) = (ys.take i).map (·.2) ++ [y.2] := by
          rw [List.take_add_one, hy, List.map_append]
          rfl
        refine ⟨y.1, [.int y.2.1, .int y.2.2], rfl, .inl (.inl ty), rfl, _, _, rfl, _, _, rfl, rfl, rfl, ?_⟩
        refine ⟨_, rfl, _, rfl, _, rfl, by show 2 ≤ sizeLine; decide, fun u nu => ?_⟩
        have su := same_new (o := .tup [V.int y.2.1, V.int y.2.2]) nu
        refine ⟨d, _, rfl, look (su _ _ d4) upd_same, _, rfl, ?_⟩
        by_cases c : sgn ns ms ns.length y.2 = 0
        · refine ifF (by rw [c]; rfl) ⟨s4.trans su, as, ?_, Nat.le_succ_of_le la⟩
          have ek : keptOf (sgn ns ms ns.length) ((ys.take (i + 1)).map (·.2)) = keptOf (sgn ns ms ns.length) ((ys.take i).map (·.2)) := by
            rw [tk]
            unfold keptOf
            rw [List.filter_append]
            simp [c]
          rw [ek]
          exact tr.same su
        · refine ifT (bne_iff_ne.mpr c) ?_
          refine ⟨_, rfl, _, rfl, _, rfl, _, rfl, _, rfl, by show 2 ≤ sizeLine; decide, fun u2 nu2 => ?_⟩
          have su2 := su.trans (same_new (o := .tup [V.int y.2.1, V.int y.2.2]) nu2)
          refine ⟨d, _, rfl, look (su2 _ _ d4) upd_same, by show 3 ≤ sizeLine; decide, fun u3 nu3 => ?_⟩
          have su3 := su2.trans (same_new (o := .tup [V.int y.2.1, V.int y.2.2, V.int (sgn ns ms ns.length y.2)]) nu3)
          refine ⟨as.map V.ref, su3 _ _ tr.top, ?_, same_upd_other (s4.trans su3) nR, as ++ [u3], ?_, by rw [List.length_append]; exact Nat.succ_le_succ la⟩
          · rw [List.length_map]
            exact line_lt (k := 64) (by omega)
          · have ek : keptOf (sgn ns ms ns.length) ((ys.take (i + 1)).map (·.2)) = keptOf (sgn ns ms ns.length) ((ys.take i).map (·.2)) ++ [(y.2, sgn ns ms ns.length y.2)] := by
              rw [tk]
              unfold keptOf
              rw [List.filter_append]
              simp [c]
            rw [ek]
            exact tr.snoc su3 (ne_of_none (su2 _ _ tr.top) nu3).symm upd_same
      · rintro H4 ⟨s4, as, tr, la⟩
        rw [List.length_map, List.take_length] at tr
        refine q H4 R as _ (S2.trans s4) (none_of S2 nR) tr (kept_sums hS perm (List.pairwise_map.mpr ord)) ?_
        unfold keptOf
        rw [List.length_map]
        have h1 := List.length_filter_le (fun p => decide (sgn ns ms ns.length p ≠ 0)) (ys.map (·.2))
        rw [List.length_map] at h1
        omega
def sp_signed_sums (K : PySem.W.Frag) : Sp := sp__sums K
theorem ok_signed_sums (T : Txt K mg) : FnOk P w K mg base CX0 4 T.f_signed_sums T.fd_signed_sums ["pair"] (sp_signed_sums K) := by
  refine T.F_signed_sums.ok sc_signed_sums (fun vs H Q E h => ?_) (fun cdv A outer s H vs Q E hr h => ?_)
  · obtain ⟨t, f, r, ns, ms, rfl, _⟩ := h
    rfl
  · obtain ⟨t, f, r, ns, ms, rfl, pr, q⟩ := h
    refine ⟨_, (pss_cons (ps_expr (pe_call (ok_check_pair T) (hr.mono (by decide)) (by rfl) T.g_check_pair T.F_check_pair.kp (b_check_pair T) .nil pass0 (pa_cons (pv 0) pa_nil))) (pss_one (ps_ret (pe_call (ok__sums T) (hr.mono (by decide)) (by rfl) T.g__sums T.F__sums.kp (b__sums T) .nil pass0 (pa_cons (pv 0) pa_nil))))), ?_⟩
    refine ⟨_, rfl, t, f, r, ns, ms, rfl, pr, fun H1 s1 => ?_⟩
    exact ⟨_, rfl, t, f, r, ns, ms, rfl, pr.same s1, fun H2 q2 as ts s2 n2 tr is lt => q H2 q2 as ts (s1.trans s2) (none_of s1 n2) tr is lt⟩

def sp__law_sums (K : PySem.W.Frag) : Sp := fun vs H Q _ => ∃ (t f r : Addr) (ns ms : List Int), vs = [.ref t] ∧ PairAt H t f r ns ms ∧ ∀ H' q as, Same H H' → H q = none → TriAt H' q as (allF ns ms ns.length) → Q (.ref q) H'
theorem ok__law_sums (T : Txt K mg) : FnOk P w K mg base CX0 1 T.f__law_sums T.fd__law_sums ["_law_a_pair"] (sp__law_sums K) := by
  refine T.F__law_sums.ok sc__law_sums (fun vs H Q E h => ?_) (fun cdv A outer s H vs Q E hr h => ?_)
  · obtain ⟨t, f, r, ns, ms, rfl, _⟩ := h
    rfl
  · obtain ⟨t, f, r, ns, ms, rfl, pr, q⟩ := h
    refine ⟨_, (pss_cons (ps_asg (pv 0) (pg_tup (by rfl) (pgs_cons (pg_name (i := 1) sc__law_sums.nd rfl (Or.inr rfl)) (pgs_cons (pg_name (i := 2) sc__law_sums.nd rfl (Or.inr rfl)) pgs_nil)))) (pss_cons (ps_set (i := 3) sc__law_sums.nd rfl (Or.inl rfl) (pe_lst pa_nil)) (pss_cons (ps_for PassesOwn.never rfl (pi_range2 (by rfl) T.n_range (pa_cons pe_int (pa_cons (pe_op op_add (pe_callB call_len_seq (by rfl) T.n_len (by decide +kernel) (pa_cons (pv 1) pa_nil)) pe_int) pa_nil))) (pg_name (i := 4) sc__law_sums.nd rfl (Or.inr rfl)) (pss_one (ps_for PassesOwn.never rfl (pi_range2 (by rfl) T.n_range (pa_cons pe_int (pa_cons (pv 4) pa_nil))) (pg_name (i := 5) sc__law_sums.nd rfl (Or.inr rfl)) (pss_cons (ps_set (i := 6) sc__law_sums.nd rfl (Or.inl rfl) (pe_op op_add (pe_callTy call_int1 (by rfl) T.n_int (by decide +kernel) (pa_cons (pe_cmpR op_eq (pe_ix ix_list (pv 1) (pe_op op_sub (pv 4) pe_int) (fun _ _ => rfl)) (pv 5) (nomark _)) pa_nil)) (pe_callTy call_int1 (by rfl) T.n_int (by decide +kernel) (pa_cons (pe_cmpR op_eq (pe_ix ix_list (pv 2) (pe_op op_sub (pv 5) pe_int) (fun _ _ => rfl)) (pv 4) (nomark _)) pa_nil)))) (pss_cons (ps_set (i := 6) sc__law_sums.nd rfl (Or.inl rfl) (pe_op op_sub (pv 6) (pe_callB call_len_seq (by rfl) T.n_len (by decide +kernel) (pa_cons (pe_lc (own := [("_law_k", 7)]) (g := gName 7) rfl sc__law_sums.nd (pi_range2 (by rfl) T.n_range (pa_cons (pe_op op_add (pv 5) pe_int) (pa_cons (pv 4) pa_nil))) (blkOk_by (own := [("_law_k", 7)]) (N := N__law_sums) (sc := defScope s__law_sums) (by decide +kernel)) (fun _ _ _ _ _ => pg_name (i := 7) sc__law_sums.nd rfl (Or.inl rfl)) (fun _ _ _ _ _ => pts_one (PW.pt (pw_and (pt_cmpR op_eq (pe_ix (ixL K) (pv 2) (pe_op op_sub (pv 7) pe_int) (fun _ _ => rfl)) (pv 4) (nomark _)) (pw_and1 (pt_cmpR op_eq (pe_ix (ixL K) (pv 1) (pe_op op_sub (pv 7) pe_int) (fun _ _ => rfl)) (pv 5) (nomark _)))))) (fun _ _ _ _ _ => (pv 7))) pa_nil)))) (pss_one (ps_if (pt_cmpR op_ne (pv 6) pe_int (nomark _)) (pss_one (ps_expr (pe_bm PySem.F.plainAttrs_list PySem.F.slot_list_append PySem.F.type_list_append mt_append (pv 3) (pa_cons (pe_tup (pa_cons (pv 4) (pa_cons (pv 5) (pa_cons (pv 6) pa_nil)))) pa_nil)))) pss_nil))))))) (pss_one (ps_ret (pv 3)))))), ?_⟩
    have p1 := pr.pos
    have p2 := pr.most
    have p3 := pr.len
    refine ⟨_, rfl, t, _, rfl, .inl (.inl pr.tup), rfl, _, _, rfl, _, _, rfl, rfl, ?_⟩
    refine ⟨by decide, fun D nD => ?_⟩
    have s1 := same_new (o := .lst []) nD
    have e1 := upd_same (H := H) (a := D) (o := .lst [])
    generalize upd H D (.lst []) = H1 at s1 e1 ⊢
    refine ⟨_, rfl, f, _, rfl, .inl (.inl (.inl (s1 _ _ pr.down))), _, _, rfl, rfl, 1, _, rfl, ⟨by decide, by decide, by rw [List.length_map]; omega, by rw [List.length_map]; omega⟩, ?_⟩
    rw [List.length_map]
    have en : (((ns.length : Int) + 1) - 1).toNat = ns.length := by omega
    rw [en]
    refine for_range (lo := 1) (n := ns.length) (fun i σ H' => ∃ (y4 y5 y6 y7 : Option V) (as : List Addr), σ = [some (.ref t), some (.ref f), some (.ref r), some (.ref D), y4, y5, y6, y7] ∧ Same H H' ∧ TriAt H' D as (allF ns ms i)) ⟨_, _, _, _, [], rfl, s1, TriAt.nil e1⟩ ?_ ?_
    · rintro i σ H2 hi ⟨y4, y5, y6, y7, as, rfl, s2, tr2⟩
      have ei : 1 + (i : Int) = (i : Int) + 1 := by omega
      rw [ei]
      refine ⟨_, rfl, 1, _, rfl, ⟨by decide, by decide, by omega, by omega⟩, ?_⟩
      have ei2 : (((i : Int) + 1) - 1).toNat = i := by omega
      rw [ei2]
      refine for_range (lo := 1) (n := i) (fun j σ H' => ∃ (y5 y6 y7 : Option V) (as : List Addr), σ = [some (.ref t), some (.ref f), some (.ref r), some (.ref D), some (.int ((i : Int) + 1)), y5, y6, y7] ∧ Same H H' ∧ TriAt H' D as (allF ns ms i ++ rowF ns ms i j)) ⟨_, _, _, as, rfl, s2, by show TriAt H2 D as (allF ns ms i ++ []); rw [List.append_nil]; exact tr2⟩ ?_ ?_
      · rintro j σ H3 hj ⟨y5, y6, y7, as, rfl, s3, tr3⟩
        have ej : 1 + (j : Int) = (j : Int) + 1 := by omega
        rw [ej]
        have pr3 := pr.same s3
        have a1 : atI (ns.map V.int) ((i : Int) + 1 - 1) = some (.int (gt ns i)) := by
          have e : ((i : Int) + 1 - 1).toNat = i := by omega
          exact at_ints (by omega) (by rw [e]; exact gt_at hi)
        have a2 : atI (ms.map V.int) ((j : Int) + 1 - 1) = some (.int (gt ms j)) := by
          have e : ((j : Int) + 1 - 1).toNat = j := by omega
          exact at_ints (by omega) (by rw [e]; exact gt_at (by omega))
        refine ⟨_, rfl, _, rfl, _, _, rfl, rfl, f, _, _, _, rfl, rfl, .inl (.inl pr3.down), a1, _, rfl, rfl, .inr ⟨_, rfl, ?_⟩⟩
        refine ⟨_, rfl, _, rfl, _, _, rfl, rfl, r, _, _, _, rfl, rfl, .inl (.inl pr3.up), a2, _, rfl, rfl, .inr ⟨_, rfl, _, _, rfl, rfl, ?_⟩⟩
        -- the places between
        refine ⟨_, rfl, _, rfl, _, _, rfl, rfl, _, rfl, _, _, rfl, ⟨by omega, by omega, by omega, by omega⟩, fun R nR => ?_⟩
        have eb : (((i : Int) + 1) - ((j : Int) + 1 + 1)).toNat = i - j - 1 := by omega
        rw [eb]
        refine lc_range (lo := (j : Int) + 1 + 1) (n := i - j - 1) (fun m H' => Same H3 H' ∧ ∃ L : List V, H' R = some (.lst L) ∧ L.length ≤ m ∧ (L.length : Int) = sumTo m fun q => if gt ms (j + 1 + q) = (i : Int) + 1 ∧ gt ns (j + 1 + q) = (j : Int) + 1 then (1 : Int) else 0) ⟨same_new nR, [], upd_same, Nat.le_refl _, rfl⟩ ?_ ?_
        · rintro m H4 hm ⟨s4, L, eL, lL, cL⟩
          have pr4 := pr3.same s4
          have b1 : atI (ms.map V.int) ((j : Int) + 1 + 1 + (m : Int) - 1) = some (.int (gt ms (j + 1 + m))) := by
            have e : ((j : Int) + 1 + 1 + (m : Int) - 1).toNat = j + 1 + m := by omega
            exact at_ints (by omega) (by rw [e]; exact gt_at (by omega))
          have b2 : atI (ns.map V.int) ((j : Int) + 1 + 1 + (m : Int) - 1) = some (.int (gt ns (j + 1 + m))) := by
            have e : ((j : Int) + 1 + 1 + (m : Int) - 1).toNat = j + 1 + m := by omega
            exact at_ints (by omega) (by rw [e]; exact gt_at (by omega))
          refine ⟨rfl, _, rfl, _, rfl, _, _, rfl, rfl, r, _, _, _, rfl, rfl, .inl (.inl pr4.up), b1, _, rfl, rfl, _, rfl, ?_⟩
          by_cases c1 : gt ms (j + 1 + m) = (i : Int) + 1
          · refine ifT (decide_eq_true (by rw [c1])) ?_
            refine ⟨_, rfl, _, rfl, _, _, rfl, rfl, f, _, _, _, rfl, rfl, .inl (.inl pr4.down), b2, _, rfl, rfl, _, rfl, ?_⟩
            by_cases c2 : gt ns (j + 1 + m) = (j : Int) + 1
            · refine ifT (decide_eq_true (by rw [c2])) ?_
              refine ⟨_, rfl, L, eL, line_lt (k := 17) (by omega), same_upd_other s4 nR, _, upd_same, by rw [List.length_append]; exact Nat.succ_le_succ lL, ?_⟩
              rw [sumTo_succ, if_pos ⟨c1, c2⟩, ← cL, List.length_append]
              rfl
            · refine ifF (decide_eq_false (fun z => c2 (V.int.inj z))) ⟨s4, L, eL, Nat.le_succ_of_le lL, ?_⟩
              rw [sumTo_succ, if_neg (fun z => c2 z.2), ← cL, Int.add_zero]
          · refine ifF (decide_eq_false (fun z => c1 (V.int.inj z))) (ifF rfl ⟨s4, L, eL, Nat.le_succ_of_le lL, ?_⟩)
            rw [sumTo_succ, if_neg (fun z => c1 z.1), ← cL, Int.add_zero]
        · rintro H4 ⟨s4, L, eL, lL, cL⟩
          have S4 := s3.trans s4
          have tr4 := tr3.same s4
          refine ⟨R, L, rfl, .inl (.inl (.inl eL)), _, _, rfl, rfl, ?_⟩
          have num : ((if decide (V.int (gt ns i) = V.int ((j : Int) + 1)) = true then (1 : Int) else 0) + (if decide (V.int (gt ms j) = V.int ((i : Int) + 1)) = true then (1 : Int) else 0)) - (L.length : Int) = sdef ns ms i j := by
            unfold sdef
            rw [cL, between pr.isDown pr.isUp p3 hi hj]
            have x1 : (decide (V.int (gt ns i) = V.int ((j : Int) + 1)) = true) = (gt ns i = (j : Int) + 1) := propext ⟨fun z => V.int.inj (of_decide_eq_true z), fun z => decide_eq_true (by rw [z])⟩
            have x2 : (decide (V.int (gt ms j) = V.int ((i : Int) + 1)) = true) = (gt ms j = (i : Int) + 1) := propext ⟨fun z => V.int.inj (of_decide_eq_true z), fun z => decide_eq_true (by rw [z])⟩
            simp only [x1, x2]
          show gName 6 (V.int (((if decide (V.int (gt ns i) = V.int ((j : Int) + 1)) = true then (1 : Int) else 0) + (if decide (V.int (gt ms j) = V.int ((i : Int) + 1)) = true then (1 : Int) else 0)) - (L.length : Int))) _ _ _
          rw [num]
          refine ⟨_, rfl, rfl, _, rfl, ?_⟩
          have la : as.length ≤ 256 + 16 := by
            rw [tr4.len, List.length_append]
            have h1 := allF_len ns ms i (by omega)
            have h2 := rowF_len ns ms i j
            omega
          by_cases c : sdef ns ms i j = 0
          · refine ifF (by rw [c]; rfl) ⟨_, _, _, as, rfl, S4, ?_⟩
            have er : rowF ns ms i (j + 1) = rowF ns ms i j := by
              show rowF ns ms i j ++ (if sdef ns ms i j = 0 then [] else _) = _
              rw [if_pos c, List.append_nil]
            rw [er]
            exact tr4
          · refine ifT (by rw [decide_eq_false (fun z => c (V.int.inj z))]; rfl) ?_
            refine ⟨_, rfl, .inl ⟨rfl, _, .inl (.inl tr4.top)⟩, _, rfl, _, rfl, _, rfl, by show 3 ≤ sizeLine; decide, fun u nu => ?_⟩
            have su := same_new (o := .tup [V.int ((i : Int) + 1), V.int ((j : Int) + 1), V.int (sdef ns ms i j)]) nu
            refine ⟨D, _, _, rfl, rfl, su _ _ tr4.top, by rw [List.length_map]; exact line_lt (k := 300) (by omega), ?_⟩
            refine ⟨_, _, _, as ++ [u], rfl, same_upd_other (S4.trans su) nD, ?_⟩
            have er : allF ns ms i ++ rowF ns ms i (j + 1) = (allF ns ms i ++ rowF ns ms i j) ++ [(((i : Int) + 1, (j : Int) + 1), sdef ns ms i j)] := by
              show allF ns ms i ++ (rowF ns ms i j ++ (if sdef ns ms i j = 0 then [] else _)) = _
              rw [if_neg c, List.append_assoc]
            rw [er]
            exact tr4.snoc su (ne_of_none tr4.top nu).symm upd_same
      · rintro σ H3 ⟨y5, y6, y7, as, rfl, s3, tr3⟩
        exact ⟨_, _, _, _, as, rfl, s3, tr3⟩
    · rintro σ H2 ⟨y4, y5, y6, y7, as, rfl, s2, tr2⟩
      exact ⟨_, rfl, q H2 D as s2 nD tr2⟩

def sp__law_right (K : PySem.W.Frag) : Sp := fun vs H Q _ => ∃ (t f r : Addr) (ns ms : List Int), vs = [.ref t] ∧ PairAt H t f r ns ms ∧ ∀ H', Same H H' → Q (.bl true) H'
theorem ok__law_right (T : Txt K mg) : FnG P w K mg base 5 T.f__law_right T.fd__law_right ["_law_a_pair"] (sp__law_right K) := by
  refine okG T.F__law_right sc__law_right (fun vs H Q E h => ?_) (fun cdv A outer s H vs Q E gd hr h => ?_)
  · obtain ⟨t, f, r, ns, ms, rfl, _⟩ := h
    rfl
  · obtain ⟨t, f, r, ns, ms, rfl, pr, q⟩ := h
    refine ⟨_, (pss_cons (ps_set (i := 1) sc__law_right.nd rfl (Or.inl rfl) (pe_callB (call_show gd (room_self hr)) (by rfl) T.n_repr (by decide +kernel) (pa_cons (pv 0) pa_nil))) (pss_cons (ps_set (i := 2) sc__law_right.nd rfl (Or.inl rfl) (pe_call (ok__law_sums T) (hr.mono (by decide)) (by rfl) T.g__law_sums T.F__law_sums.kp (b__law_sums T) .nil pass0 (pa_cons (pv 0) pa_nil))) (pss_cons (ps_set (i := 3) sc__law_right.nd rfl (Or.inl rfl) (pe_lst (pa_cons (pe_call (ok_signed_sums T) (hr.mono (by decide)) (by rfl) T.g_signed_sums T.F_signed_sums.kp (b_signed_sums T) .nil pass0 (pa_cons (pv 0) pa_nil)) (pa_cons (pe_callW (ok_signed_sums T) (hr.mono (by decide)) (by rfl) T.g_signed_sums T.F_signed_sums.kp (kw_signed_sums T) (pk_cons (pv 0) pk_nil)) pa_nil)))) (pss_cons (ps_if (PW.pt (pw_or (pt_cmpR op_ne (pe_callB (call_show gd (room_self hr)) (by rfl) T.n_repr (by decide +kernel) (pa_cons (pv 3) pa_nil)) (pe_callB (call_show gd (room_self hr)) (by rfl) T.n_repr (by decide +kernel) (pa_cons (pe_lst (pa_cons (pv 2) (pa_cons (pv 2) pa_nil))) pa_nil)) (nomark _)) (pw_or1 (pt_cmpR op_ne (pe_callB (call_show gd (room_self hr)) (by rfl) T.n_repr (by decide +kernel) (pa_cons (pv 0) pa_nil)) (pv 1) (nomark _))))) (pss_one (ps_ret pe_bl)) pss_nil) (pss_cons (ps_expr (pe_bm PySem.F.plainAttrs_list PySem.F.slot_list_append PySem.F.type_list_append mt_append (pe_ix ix_list (pv 3) pe_int (fun _ _ => rfl)) (pa_cons pe_non pa_nil))) (pss_one (ps_ret (pe_and (pe_cmpR op_eq (pe_callB (call_show gd (room_self hr)) (by rfl) T.n_repr (by decide +kernel) (pa_cons (pe_call (ok_signed_sums T) (hr.mono (by decide)) (by rfl) T.g_signed_sums T.F_signed_sums.kp (b_signed_sums T) .nil pass0 (pa_cons (pv 0) pa_nil)) pa_nil)) (pe_callB (call_show gd (room_self hr)) (by rfl) T.n_repr (by decide +kernel) (pa_cons (pv 2) pa_nil)) (nomark _)) (pe_one (pe_cmpR op_eq (pe_callB (call_show gd (room_self hr)) (by rfl) T.n_repr (by decide +kernel) (pa_cons (pv 0) pa_nil)) (pv 1) (nomark _))))))))))), ?_⟩
    have p2 := pr.most
    have p3 := pr.len
    have isA := allF_sums pr.isDown pr.isUp p3
    have lA : (allF ns ms ns.length).length ≤ 256 := by
      have := allF_len ns ms ns.length p2
      omega
    have ni := sums_nice pr.isDown pr.isUp p3 p2 isA lA
    have ni2 := sums_nice2 pr.isDown pr.isUp p3 p2 isA lA
    refine ⟨_, rfl, rShow_of pr.dp pr.nice rfl ?_⟩
    refine ⟨_, rfl, t, f, r, ns, ms, rfl, pr, fun H1 q1 a1 s1 n1 t1 => ?_⟩
    have pr1 := pr.same s1
    refine ⟨_, rfl, t, f, r, ns, ms, rfl, pr1, fun H2 q2 a2 ts2 s2 n2 t2 i2 l2 => ?_⟩
    obtain rfl : ts2 = allF ns ms ns.length := i2.one isA
    have pr2 := pr1.same s2
    refine ⟨_, rfl, rfl, t, f, r, ns, ms, rfl, pr2, fun H3 q3 a3 ts3 s3 n3 t3 i3 l3 => ⟨by show 2 ≤ sizeLine; decide, fun L nL => ?_⟩⟩
    obtain rfl : ts3 = allF ns ms ns.length := i3.one isA
    have s4 := same_new (o := .lst [V.ref q2, V.ref q3]) nL
    have S14 := (s2.trans s3).trans s4
    have eL := upd_same (H := H3) (a := L) (o := .lst [V.ref q2, V.ref q3])
    have t24 := (t2.same s3).same s4
    have t34 := t3.same s4
    have t14 := t1.same S14
    have n2' : H q2 = none := none_of s1 n2
    have q12 : q1 ≠ q2 := ne_of_none t1.top n2
    have a1n : ∀ z ∈ a1, z ≠ q2 := fun z hz => by
      obtain ⟨i, hi, e⟩ := List.getElem_of_mem hz
      have h1 : a1[i]? = some z := by rw [List.getElem?_eq_getElem hi, e]
      have h2 := List.getElem?_eq_getElem (show i < (allF ns ms ns.length).length by rw [← t1.len]; exact hi)
      exact ne_of_none (t1.row i z _ h1 h2) n2
    generalize upd H3 L (.lst [V.ref q2, V.ref q3]) = H4 at S14 eL t24 t34 t14 ⊢
    have S4 := s1.trans S14
    refine ⟨_, rfl, rShow_of (.lst (.inl (.inl eL)) (.cons t24.dp (.cons t34.dp .nil))) ni2 rfl ?_⟩
    refine ⟨_, rfl, _, rfl, by show 2 ≤ sizeLine; decide, fun L2 nL2 => ?_⟩
    have s5 := same_new (o := .lst [V.ref q1, V.ref q1]) nL2
    refine rShow_of (.lst (.inl (.inl upd_same)) (.cons (t14.same s5).dp (.cons (t14.same s5).dp .nil))) ni2 rfl ⟨rfl, _, rfl, ifF (by rw [decide_eq_true rfl]; rfl) ?_⟩
    have S5 := S4.trans s5
    refine ⟨_, rfl, rShow_of (pr.same S5).dp pr.nice rfl ⟨_, rfl, rfl, _, rfl, ifF (by rw [decide_eq_true rfl]; rfl) ?_⟩⟩
    have t25 := t24.same s5
    have t15 := t14.same s5
    refine ⟨_, rfl, L, _, 0, _, rfl, rfl, .inl (.inl (s5 _ _ eL)), atI_nat (j := 0) rfl, .inl ⟨rfl, _, .inl (.inl t25.top)⟩, q2, _, _, rfl, rfl, t25.top, ?_, ?_⟩
    · rw [List.length_map, t2.len]
      exact line_lt (k := 257) (by omega)
    have S6 := same_upd_other (o := .lst (a2.map V.ref ++ [V.non])) S5 n2'
    have t16 : TriAt (upd (upd H4 L2 (.lst [V.ref q1, V.ref q1])) q2 (.lst (a2.map V.ref ++ [V.non]))) q1 a1 (allF ns ms ns.length) :=
      ⟨by rw [upd_ne q12]; exact t15.top, t15.len, fun i a x h1 h2 => by rw [upd_ne (a1n a (List.mem_of_getElem? h1))]; exact t15.row i a x h1 h2⟩
    generalize upd (upd H4 L2 (.lst [V.ref q1, V.ref q1])) q2 (.lst (a2.map V.ref ++ [V.non])) = H6 at S6 t16 ⊢
    refine ⟨_, rfl, t, f, r, ns, ms, rfl, pr.same S6, fun H7 q4 a4 ts4 s7 n4 t4 i4 l4 => ?_⟩
    obtain rfl : ts4 = allF ns ms ns.length := i4.one isA
    refine rShow_of t4.dp ni rfl ⟨_, rfl, rShow_of (t16.same s7).dp ni rfl ⟨rfl, _, rfl, ifT (decide_eq_true rfl) ?_⟩⟩
    have S7 := S6.trans s7
    refine ⟨_, rfl, rShow_of (pr.same S7).dp pr.nice rfl ⟨_, rfl, rfl, ?_⟩⟩
    rw [decide_eq_true rfl]
    exact q H7 S7

def sp_law (K : PySem.W.Frag) : Sp := fun vs H Q _ => ∃ (a : Addr) (ns : List Int), vs = [.ref a] ∧ SqL K H a (ns.map V.int) ∧ ns.length ≤ 63 ∧ ∀ H', Q (.bl true) H'
theorem ok_law (T : Txt K mg) : FnG P w K mg base 6 T.f_law T.fd_law ["_law_script"] (sp_law K) := by
  refine okG T.F_law sc_law (fun vs H Q E h => ?_) (fun cdv A outer s H vs Q E gd hr h => ?_)
  · obtain ⟨a, ns, rfl, _⟩ := h
    rfl
  · obtain ⟨a, ns, rfl, hS, hlen, q⟩ := h
    refine ⟨_, (pss_cons (ps_for PassesOwn.never rfl (pi_list (pe_lc (own := [("_law_cell", 3)]) (g := gName 3) (tt := tYes) rfl sc_law.nd (pi_list (pe_op op_cat (pe_slice sl_list (pv 0) po_none (po_some pe_int)) (pe_lst (pa_cons pe_int pa_nil)))) (blkOk_by (own := [("_law_cell", 3)]) (N := N_law) (sc := defScope s_law) (by decide +kernel)) (fun _ _ _ _ _ => pg_name (i := 3) sc_law.nd rfl (Or.inl rfl)) (fun _ _ _ _ _ => pts_nil) (fun _ _ _ _ _ => (pe_call (ok__law_draws T) (hr.mono (by decide)) (by rfl) T.g__law_draws T.F__law_draws.kp (b__law_draws T) .nil pass0 (pa_cons (pv 3) pa_nil))))) (pg_name (i := 1) sc_law.nd rfl (Or.inl rfl)) (pss_one (ps_for PassesOwn.never rfl (pi_range1 (by rfl) T.n_range (pa_cons pe_int pa_nil)) (pg_name (i := 2) sc_law.nd rfl (Or.inl rfl)) (pss_one (ps_if (pt_not (pt_val (pe_callG (ok__law_right T) gd (hr.mono (by decide)) (by rfl) T.g__law_right T.F__law_right.kp (b__law_right T) .nil (pa_cons (pe_call (ok__law_any T) (hr.mono (by decide)) (by rfl) T.g__law_any T.F__law_any.kp (b__law_any T) .nil pass0 (pa_cons (pv 1) (pa_cons pe_int pa_nil))) pa_nil)))) (pss_one (ps_ret pe_bl)) pss_nil))))) (pss_one (ps_ret (pe_and (pe_cmpR (op_eqD (room_self hr)) (pe_call (ok_signed_sums T) (hr.mono (by decide)) (by rfl) T.g_signed_sums T.F_signed_sums.kp (b_signed_sums T) .nil pass0 (pa_cons (pe_tup (pa_cons (pe_lst (pa_cons pe_int (pa_cons pe_int (pa_cons pe_int pa_nil)))) (pa_cons (pe_lst (pa_cons pe_int (pa_cons pe_int (pa_cons pe_int pa_nil)))) pa_nil))) pa_nil)) (pe_lst (pa_cons (pe_tup (pa_cons pe_int (pa_cons pe_int (pa_cons pe_int pa_nil)))) (pa_cons (pe_tup (pa_cons pe_int (pa_cons pe_int (pa_cons (pe_un un_neg pe_int) pa_nil)))) (pa_cons (pe_tup (pa_cons pe_int (pa_cons pe_int (pa_cons pe_int pa_nil)))) pa_nil)))) (nomark _)) (pe_one (pe_cmpR (op_eqD (room_self hr)) (pe_call (ok_signed_sums T) (hr.mono (by decide)) (by rfl) T.g_signed_sums T.F_signed_sums.kp (b_signed_sums T) .nil pass0 (pa_cons (pe_tup (pa_cons (pe_lst (pa_cons pe_int pa_nil)) (pa_cons (pe_lst (pa_cons pe_int pa_nil)) pa_nil))) pa_nil)) (pe_lst pa_nil) (nomark _))))))), ?_⟩
    -- script[:6] + [0]
    refine ⟨_, rfl, 6, rfl, a, _, rfl, hS, fun c nc => ⟨by show 1 ≤ sizeLine; decide, fun e ne => ?_⟩⟩
    obtain ⟨cs, ecs, lcs⟩ := cut_ints ns none (some 6)
    have c1 := (same_new (o := .lst [V.int 0]) ne) _ _ (upd_same (H := H) (a := c) (o := .lst (cutV (ns.map V.int) none (some 6))))
    refine ⟨c, e, _, _, rfl, rfl, c1, upd_same, ?_, fun g ng => ?_⟩
    · rw [ecs, List.length_map]
      exact small_line (k := 64) (by show cs.length + 1 ≤ 64; omega)
    rw [ecs, snoc_ints]
    -- the draws
    refine ⟨g, rfl, ⟨_, .inl (.inl upd_same)⟩, fun D nD => ?_⟩
    have eg := upd_same (H := upd (upd H c (.lst (cs.map V.int))) e (.lst [V.int 0])) (a := g) (o := .lst ((cs ++ [0]).map V.int))
    generalize upd (upd (upd H c (.lst (cs.map V.int))) e (.lst [V.int 0])) g (.lst ((cs ++ [0]).map V.int)) = H1 at nD eg ⊢
    refine lc_list (a := g) (xs := (cs ++ [0]).map V.int) (fun i H' => ∃ as : List Addr, Drs H' D as 0 ∧ as.length = i ∧ H' g = some (.lst ((cs ++ [0]).map V.int)))
      ⟨[], ⟨upd_same, fun a h => absurd h List.not_mem_nil⟩, rfl, by rw [upd_ne (ne_of_none eg nD)]; exact eg⟩ (fun i H' _ h => by obtain ⟨_, _, _, h⟩ := h; exact .inl (.inl h)) ?_ ?_
    · rintro i x H2 hx ⟨as, dr, la, hg⟩
      obtain ⟨n, hn, rfl⟩ := ints_at hx
      have il : i < 64 := by
        have h1 := (List.getElem?_eq_some_iff.mp hn).1
        rw [List.length_append] at h1
        have h2 : i < cs.length + 1 := h1
        omega
      refine ⟨rfl, yes (ifT rfl ?_)⟩
      refine ⟨_, rfl, n, rfl, fun z b nz d d0 => ⟨as.map V.ref, ?_, ?_, ?_⟩⟩
      · exact (same_new nz) _ _ dr.1
      · rw [List.length_map]
        exact line_lt (k := 65) (by omega)
      · have nzD : D ≠ z := ne_of_none dr.1 nz
        have nzg : g ≠ z := ne_of_none hg nz
        have ngD : g ≠ D := by
          intro y
          have e1 := dr.1
          rw [← y, hg] at e1
          have e2 : (cs ++ [0]).map V.int = as.map V.ref := by
            have := Option.some.inj e1
            injection this
          have e3 := congrArg List.length e2
          cases as with
          | nil => simp at e3
          | cons x r =>
            cases cs with
            | nil => cases e2
            | cons y s => cases e2
        refine ⟨as ++ [z], ⟨?_, fun a' ha => ?_⟩, by rw [List.length_append, la]; rfl, ?_⟩
        · rw [upd_same, List.map_append]
          rfl
        · rcases List.mem_append.mp ha with h | h
          · obtain ⟨b', x⟩ := dr.2 a' h
            exact ⟨b', (x.same (same_new nz)).upd (dr.ne h)⟩
          · have e2 := List.mem_singleton.mp h
            subst e2
            exact ⟨b, d, 0, by rw [upd_ne nzD.symm]; exact upd_same, d0, Int.le_refl _, Int.le_refl _⟩
        · rw [upd_ne ngD, upd_ne nzg]
          exact hg
    · rintro H2 ⟨as, dr, la, hg⟩
      rw [List.length_map, List.length_append] at la
      have la : as.length = cs.length + 1 := la
      refine ⟨D, rfl, ⟨_, .inl (.inl dr.1)⟩, ?_⟩
      refine for_list (xs := as.map V.ref) (fun i σ H' => ∃ y1 y2 y3 : Option V, σ = [some (.ref a), y1, y2, y3] ∧ Drs H' D as (200 * i)) ⟨_, _, _, rfl, dr.mono (by omega)⟩ ?_ ?_ ?_
      · rintro i σ H' _ ⟨_, _, _, _, h⟩
        exact .inl (.inl h.1)
      · rintro i x σ H3 hx ⟨y1, y2, y3, rfl, dr3⟩
        rw [List.getElem?_map] at hx
        obtain ⟨z, hz, rfl⟩ : ∃ z, as[i]? = some z ∧ x = V.ref z := by
          cases e : as[i]? with
          | none =>
            rw [e] at hx
            cases hx
          | some z =>
            rw [e] at hx
            exact ⟨z, rfl, (Option.some.inj hx).symm⟩
        have hmem : z ∈ as := List.mem_of_getElem? hz
        have il : i < 64 := by
          have := (List.getElem?_eq_some_iff.mp hz).1
          omega
        refine ⟨3, rfl, by decide, by decide, ?_⟩
        refine for_range (lo := 0) (n := 3) (fun j σ H' => ∃ y2 y3 : Option V, σ = [some (.ref a), some (.ref z), y2, y3] ∧ Drs H' D as (200 * i + 60 * j)) ⟨_, _, rfl, dr3.mono (by omega)⟩ ?_ ?_
        · rintro j σ H4 hj ⟨y2, y3, rfl, dr4⟩
          obtain ⟨b, dz⟩ := dr4.2 z hmem
          refine ⟨.ref z, rfl, z, b, _, 16, rfl, by decide, by decide, dz, by omega, fun H5 t f r ns ms pr nt nf nr nfr le D5 S5 => ?_⟩
          refine ⟨t, f, r, ns, ms, rfl, pr, fun H6 S6 => ⟨true, rfl, ifF rfl ?_⟩⟩
          exact ⟨_, _, rfl, ((dr4.drawn (k := 200 * (i : Int) + 60 * ((j : Int) + 1)) hmem S5 (D5.mono (by omega)) (by omega)).same S6).mono (by omega)⟩
        · rintro σ H4 ⟨y2, y3, rfl, dr4⟩
          exact ⟨_, _, _, rfl, dr4.mono (by omega)⟩
      · rintro σ H3 ⟨y1, y2, y3, rfl, dr3⟩
        refine ⟨by show 3 ≤ sizeLine; decide, fun f nf => ⟨by show 3 ≤ sizeLine; decide, fun r nr => ⟨by show 2 ≤ sizeLine; decide, fun t nt => ?_⟩⟩⟩
        have sr := same_new (o := .lst [V.int 2, V.int 3, V.int 4]) nr
        have st := same_new (o := .tup [V.ref f, V.ref r]) nt
        have pr : PairAt _ t f r [0, 1, 0] [2, 3, 4] := ⟨upd_same, st _ _ (sr _ _ upd_same), st _ _ upd_same, downT_by (by decide), upT_by (by decide), rfl, by decide, by decide⟩
        refine ⟨t, f, r, _, _, rfl, pr, fun H4 q1 a1 ts1 s4 n4 t4 i4 l4 => ?_⟩
        have e4 : ts1 = [((2, 1), 2), ((3, 1), -1), ((3, 2), 1)] := (i4.one (allF_sums pr.isDown pr.isUp rfl)).trans (by decide +kernel)
        subst e4
        refine ⟨by show 3 ≤ sizeLine; decide, fun u1 m1 => ⟨1, rfl, by show 3 ≤ sizeLine; decide, fun u2 m2 => ⟨by show 3 ≤ sizeLine; decide, fun u3 m3 => ⟨by show 3 ≤ sizeLine; decide, fun l1 m4 => ?_⟩⟩⟩⟩
        have w1 := same_new (o := .tup [V.int 2, V.int 1, V.int 2]) m1
        have w2 := same_new (o := .tup [V.int 3, V.int 1, V.int (-1)]) m2
        have w3 := same_new (o := .tup [V.int 3, V.int 2, V.int 1]) m3
        have w4 := same_new (o := .lst [V.ref u1, V.ref u2, V.ref u3]) m4
        have x1 := w4 _ _ (w3 _ _ (w2 _ _ (upd_same (H := H4) (a := u1) (o := .tup [V.int 2, V.int 1, V.int 2]))))
        have x2 := w4 _ _ (w3 _ _ (upd_same (H := upd H4 u1 (.tup [V.int 2, V.int 1, V.int 2])) (a := u2) (o := .tup [V.int 3, V.int 1, V.int (-1)])))
        have x3 := w4 _ _ (upd_same (H := upd (upd H4 u1 (.tup [V.int 2, V.int 1, V.int 2])) u2 (.tup [V.int 3, V.int 1, V.int (-1)])) (a := u3) (o := .tup [V.int 3, V.int 2, V.int 1]))
        have dl : Dp K _ (.ref l1) (.list (([((2, 1), 2), ((3, 1), -1), ((3, 2), 1)] : List Tri).map dTri)) := .lst (.inl (.inl upd_same))
          (.cons (.tup (.inl (.inl x1)) (.cons (.int _) (.cons (.int _) (.cons (.int _) .nil)))) (.cons (.tup (.inl (.inl x2)) (.cons (.int _) (.cons (.int _) (.cons (.int _) .nil))))
            (.cons (.tup (.inl (.inl x3)) (.cons (.int _) (.cons (.int _) (.cons (.int _) .nil)))) .nil)))
        refine ⟨_, _, (t4.same (w1.trans (w2.trans (w3.trans w4)))).dp, dl, by decide +kernel, by decide +kernel, true, by rw [show PyData.eqv _ _ = true by decide +kernel], ifT rfl ?_⟩
        refine ⟨by show 1 ≤ sizeLine; decide, fun f2 nf2 => ⟨by show 1 ≤ sizeLine; decide, fun r2 nr2 => ⟨by show 2 ≤ sizeLine; decide, fun t2 nt2 => ?_⟩⟩⟩
        have sr2 := same_new (o := .lst [V.int 2]) nr2
        have st2 := same_new (o := .tup [V.ref f2, V.ref r2]) nt2
        have pr2 : PairAt _ t2 f2 r2 [0] [2] := ⟨upd_same, st2 _ _ (sr2 _ _ upd_same), st2 _ _ upd_same, downT_by (by decide), upT_by (by decide), rfl, by decide, by decide⟩
        refine ⟨t2, f2, r2, _, _, rfl, pr2, fun H5 q2 a2 ts2 s5 n5 t5 i5 l5 => ?_⟩
        have e5 : ts2 = [] := (i5.one (allF_sums pr2.isDown pr2.isUp rfl)).trans (by decide +kernel)
        subst e5
        refine ⟨by decide, fun l2 m5 => ?_⟩
        have w5 := same_new (o := .lst []) m5
        have dn : Dp K (upd H5 l2 (.lst [])) (.ref l2) (.list (([] : List Tri).map dTri)) := .lst (.inl (.inl upd_same)) .nil
        refine ⟨_, _, (t5.same w5).dp, dn, by decide +kernel, by decide +kernel, ?_⟩
        rw [show PyData.eqv _ _ = true by decide +kernel]
        exact q _

end
/-! ### what the top has written -/
theorem all_mk {l : PySem.W.OpenLaw} {w : World} {K : PySem.W.Frag} {h : Heap} {mg : Str → Option Value} {fa : Addr} (X : K.In h) (G : h.Ns mainGlobals mg) (hfa : mg "law" = some (.ref fa))
    {f0 : Addr} {od0 an0 : Option Addr} {sl0 : Array (Option Value)} {oc0 kV0 dc0 pm0 cd0 ct0 : Value}
    {f1 : Addr} {od1 an1 : Option Addr} {sl1 : Array (Option Value)} {oc1 kV1 dc1 pm1 cd1 ct1 : Value}
    {f2 : Addr} {od2 an2 : Option Addr} {sl2 : Array (Option Value)} {oc2 kV2 dc2 pm2 cd2 ct2 : Value}
    {f3 : Addr} {od3 an3 : Option Addr} {sl3 : Array (Option Value)} {oc3 kV3 dc3 pm3 cd3 ct3 : Value}
    {f4 : Addr} {od4 an4 : Option Addr} {sl4 : Array (Option Value)} {oc4 kV4 dc4 pm4 cd4 ct4 : Value}
    {f5 : Addr} {od5 an5 : Option Addr} {sl5 : Array (Option Value)} {oc5 kV5 dc5 pm5 cd5 ct5 : Value}
    {f6 : Addr} {od6 an6 : Option Addr} {sl6 : Array (Option Value)} {oc6 kV6 dc6 pm6 cd6 ct6 : Value}
    {f7 : Addr} {od7 an7 : Option Addr} {sl7 : Array (Option Value)} {oc7 kV7 dc7 pm7 cd7 ct7 : Value}
    {f8 : Addr} {od8 an8 : Option Addr} {sl8 : Array (Option Value)} {oc8 kV8 dc8 pm8 cd8 ct8 : Value}
    {f9 : Addr} {od9 an9 : Option Addr} {sl9 : Array (Option Value)} {oc9 kV9 dc9 pm9 cd9 ct9 : Value}
    {f10 : Addr} {od10 an10 : Option Addr} {sl10 : Array (Option Value)} {oc10 kV10 dc10 pm10 cd10 ct10 : Value}
    {f11 : Addr} {od11 an11 : Option Addr} {sl11 : Array (Option Value)} {oc11 kV11 dc11 pm11 cd11 ct11 : Value}
    {f12 : Addr} {od12 an12 : Option Addr} {sl12 : Array (Option Value)} {oc12 kV12 dc12 pm12 cd12 ct12 : Value}
    {f13 : Addr} {od13 an13 : Option Addr} {sl13 : Array (Option Value)} {oc13 kV13 dc13 pm13 cd13 ct13 : Value}
    {f14 : Addr} {od14 an14 : Option Addr} {sl14 : Array (Option Value)} {oc14 kV14 dc14 pm14 cd14 ct14 : Value}
    {f15 : Addr} {od15 an15 : Option Addr} {sl15 : Array (Option Value)} {oc15 kV15 dc15 pm15 cd15 ct15 : Value}
    {f16 : Addr} {od16 an16 : Option Addr} {sl16 : Array (Option Value)} {oc16 kV16 dc16 pm16 cd16 ct16 : Value}
    {f17 : Addr} {od17 an17 : Option Addr} {sl17 : Array (Option Value)} {oc17 kV17 dc17 pm17 cd17 ct17 : Value}
    {t_MOST_PLACES : Tok}
    (a0 : PySem.W.nsIn K mainGlobals "is_whole" = some (some (.ref f0)))
    (l0 : K.lookup f0 = some ⟨oc0, od0, .func (PySem.W.fnOf "is_whole" "is_whole" (defArgs s_is_whole) (defBody s_is_whole) (defScope s_is_whole) .none kV0 dc0 pm0 an0 cd0 ct0), sl0⟩)
    (c0 : PySem.W.codeIn K cd0 "is_whole" = true) (k0 : PySem.W.keepIn K (.ref f0) = true)
    (a1 : PySem.W.nsIn K mainGlobals "check_pair" = some (some (.ref f1)))
    (l1 : K.lookup f1 = some ⟨oc1, od1, .func (PySem.W.fnOf "check_pair" "check_pair" (defArgs s_check_pair) (defBody s_check_pair) (defScope s_check_pair) .none kV1 dc1 pm1 an1 cd1 ct1), sl1⟩)
    (c1 : PySem.W.codeIn K cd1 "check_pair" = true) (k1 : PySem.W.keepIn K (.ref f1) = true)
    (a2 : PySem.W.nsIn K mainGlobals "_is_table" = some (some (.ref f2)))
    (l2 : K.lookup f2 = some ⟨oc2, od2, .func (PySem.W.fnOf "_is_table" "_is_table" (defArgs s__is_table) (defBody s__is_table) (defScope s__is_table) .none kV2 dc2 pm2 an2 cd2 ct2), sl2⟩)
    (c2 : PySem.W.codeIn K cd2 "_is_table" = true) (k2 : PySem.W.keepIn K (.ref f2) = true)
    (a3 : PySem.W.nsIn K mainGlobals "_is_two_tables" = some (some (.ref f3)))
    (l3 : K.lookup f3 = some ⟨oc3, od3, .func (PySem.W.fnOf "_is_two_tables" "_is_two_tables" (defArgs s__is_two_tables) (defBody s__is_two_tables) (defScope s__is_two_tables) .none kV3 dc3 pm3 an3 cd3 ct3), sl3⟩)
    (c3 : PySem.W.codeIn K cd3 "_is_two_tables" = true) (k3 : PySem.W.keepIn K (.ref f3) = true)
    (a4 : PySem.W.nsIn K mainGlobals "_check_down_links" = some (some (.ref f4)))
    (l4 : K.lookup f4 = some ⟨oc4, od4, .func (PySem.W.fnOf "_check_down_links" "_check_down_links" (defArgs s__check_down_links) (defBody s__check_down_links) (defScope s__check_down_links) .none kV4 dc4 pm4 an4 cd4 ct4), sl4⟩)
    (c4 : PySem.W.codeIn K cd4 "_check_down_links" = true) (k4 : PySem.W.keepIn K (.ref f4) = true)
    (a5 : PySem.W.nsIn K mainGlobals "_check_up_links" = some (some (.ref f5)))
    (l5 : K.lookup f5 = some ⟨oc5, od5, .func (PySem.W.fnOf "_check_up_links" "_check_up_links" (defArgs s__check_up_links) (defBody s__check_up_links) (defScope s__check_up_links) .none kV5 dc5 pm5 an5 cd5 ct5), sl5⟩)
    (c5 : PySem.W.codeIn K cd5 "_check_up_links" = true) (k5 : PySem.W.keepIn K (.ref f5) = true)
    (a6 : PySem.W.nsIn K mainGlobals "signed_sums" = some (some (.ref f6)))
    (l6 : K.lookup f6 = some ⟨oc6, od6, .func (PySem.W.fnOf "signed_sums" "signed_sums" (defArgs s_signed_sums) (defBody s_signed_sums) (defScope s_signed_sums) .none kV6 dc6 pm6 an6 cd6 ct6), sl6⟩)
    (c6 : PySem.W.codeIn K cd6 "signed_sums" = true) (k6 : PySem.W.keepIn K (.ref f6) = true)
    (a7 : PySem.W.nsIn K mainGlobals "_sums" = some (some (.ref f7)))
    (l7 : K.lookup f7 = some ⟨oc7, od7, .func (PySem.W.fnOf "_sums" "_sums" (defArgs s__sums) (defBody s__sums) (defScope s__sums) .none kV7 dc7 pm7 an7 cd7 ct7), sl7⟩)
    (c7 : PySem.W.codeIn K cd7 "_sums" = true) (k7 : PySem.W.keepIn K (.ref f7) = true)
    (a8 : PySem.W.nsIn K mainGlobals "_add" = some (some (.ref f8)))
    (l8 : K.lookup f8 = some ⟨oc8, od8, .func (PySem.W.fnOf "_add" "_add" (defArgs s__add) (defBody s__add) (defScope s__add) .none kV8 dc8 pm8 an8 cd8 ct8), sl8⟩)
    (c8 : PySem.W.codeIn K cd8 "_add" = true) (k8 : PySem.W.keepIn K (.ref f8) = true)
    (a9 : PySem.W.nsIn K mainGlobals "_law_draws" = some (some (.ref f9)))
    (l9 : K.lookup f9 = some ⟨oc9, od9, .func (PySem.W.fnOf "_law_draws" "_law_draws" (defArgs s__law_draws) (defBody s__law_draws) (defScope s__law_draws) .none kV9 dc9 pm9 an9 cd9 ct9), sl9⟩)
    (c9 : PySem.W.codeIn K cd9 "_law_draws" = true) (k9 : PySem.W.keepIn K (.ref f9) = true)
    (a10 : PySem.W.nsIn K mainGlobals "_law_next" = some (some (.ref f10)))
    (l10 : K.lookup f10 = some ⟨oc10, od10, .func (PySem.W.fnOf "_law_next" "_law_next" (defArgs s__law_next) (defBody s__law_next) (defScope s__law_next) .none kV10 dc10 pm10 an10 cd10 ct10), sl10⟩)
    (c10 : PySem.W.codeIn K cd10 "_law_next" = true) (k10 : PySem.W.keepIn K (.ref f10) = true)
    (a11 : PySem.W.nsIn K mainGlobals "_law_pair" = some (some (.ref f11)))
    (l11 : K.lookup f11 = some ⟨oc11, od11, .func (PySem.W.fnOf "_law_pair" "_law_pair" (defArgs s__law_pair) (defBody s__law_pair) (defScope s__law_pair) .none kV11 dc11 pm11 an11 cd11 ct11), sl11⟩)
    (c11 : PySem.W.codeIn K cd11 "_law_pair" = true) (k11 : PySem.W.keepIn K (.ref f11) = true)
    (a12 : PySem.W.nsIn K mainGlobals "_law_tree" = some (some (.ref f12)))
    (l12 : K.lookup f12 = some ⟨oc12, od12, .func (PySem.W.fnOf "_law_tree" "_law_tree" (defArgs s__law_tree) (defBody s__law_tree) (defScope s__law_tree) .none kV12 dc12 pm12 an12 cd12 ct12), sl12⟩)
    (c12 : PySem.W.codeIn K cd12 "_law_tree" = true) (k12 : PySem.W.keepIn K (.ref f12) = true)
    (a13 : PySem.W.nsIn K mainGlobals "_law_bent" = some (some (.ref f13)))
    (l13 : K.lookup f13 = some ⟨oc13, od13, .func (PySem.W.fnOf "_law_bent" "_law_bent" (defArgs s__law_bent) (defBody s__law_bent) (defScope s__law_bent) .none kV13 dc13 pm13 an13 cd13 ct13), sl13⟩)
    (c13 : PySem.W.codeIn K cd13 "_law_bent" = true) (k13 : PySem.W.keepIn K (.ref f13) = true)
    (a14 : PySem.W.nsIn K mainGlobals "_law_any" = some (some (.ref f14)))
    (l14 : K.lookup f14 = some ⟨oc14, od14, .func (PySem.W.fnOf "_law_any" "_law_any" (defArgs s__law_any) (defBody s__law_any) (defScope s__law_any) .none kV14 dc14 pm14 an14 cd14 ct14), sl14⟩)
    (c14 : PySem.W.codeIn K cd14 "_law_any" = true) (k14 : PySem.W.keepIn K (.ref f14) = true)
    (a15 : PySem.W.nsIn K mainGlobals "_law_sums" = some (some (.ref f15)))
    (l15 : K.lookup f15 = some ⟨oc15, od15, .func (PySem.W.fnOf "_law_sums" "_law_sums" (defArgs s__law_sums) (defBody s__law_sums) (defScope s__law_sums) .none kV15 dc15 pm15 an15 cd15 ct15), sl15⟩)
    (c15 : PySem.W.codeIn K cd15 "_law_sums" = true) (k15 : PySem.W.keepIn K (.ref f15) = true)
    (a16 : PySem.W.nsIn K mainGlobals "_law_right" = some (some (.ref f16)))
    (l16 : K.lookup f16 = some ⟨oc16, od16, .func (PySem.W.fnOf "_law_right" "_law_right" (defArgs s__law_right) (defBody s__law_right) (defScope s__law_right) .none kV16 dc16 pm16 an16 cd16 ct16), sl16⟩)
    (c16 : PySem.W.codeIn K cd16 "_law_right" = true) (k16 : PySem.W.keepIn K (.ref f16) = true)
    (a17 : PySem.W.nsIn K mainGlobals "law" = some (some (.ref f17)))
    (l17 : K.lookup f17 = some ⟨oc17, od17, .func (PySem.W.fnOf "law" "law" (defArgs s_law) (defBody s_law) (defScope s_law) .none kV17 dc17 pm17 an17 cd17 ct17), sl17⟩)
    (c17 : PySem.W.codeIn K cd17 "law" = true) (k17 : PySem.W.keepIn K (.ref f17) = true)
    (z_isinstance : PySem.W.nsIn K mainGlobals "isinstance" = some none)
    (z_int : PySem.W.nsIn K mainGlobals "int" = some none)
    (z_bool : PySem.W.nsIn K mainGlobals "bool" = some none)
    (z_list : PySem.W.nsIn K mainGlobals "list" = some none)
    (z_len : PySem.W.nsIn K mainGlobals "len" = some none)
    (z_tuple : PySem.W.nsIn K mainGlobals "tuple" = some none)
    (z_enumerate : PySem.W.nsIn K mainGlobals "enumerate" = some none)
    (z_range : PySem.W.nsIn K mainGlobals "range" = some none)
    (z_sorted : PySem.W.nsIn K mainGlobals "sorted" = some none)
    (z_repr : PySem.W.nsIn K mainGlobals "repr" = some none)
    (y_MOST_PLACES : PySem.W.nsIn K mainGlobals "MOST_PLACES" = some (some (.int 16 t_MOST_PLACES))) :
    ∃ fd : FuncData, (∀ (s : Shared) (v : Value), BindsTo s fd ⟨[v], []⟩ [("_law_script", v)]) ∧
      ∀ base : Heap, K.In base → base.Ns mainGlobals mg → FnG l.prog w K mg base 6 fa fd ["_law_script"] (sp_law K) := by
  have e := hfa.symm.trans (PySem.W.mg_of X G a17)
  cases e
  let T : Txt K mg := {
    f_is_whole := f0,
    fd_is_whole := _,
    F_is_whole := fun_mk (st := s_is_whole) l0 c0 k0,
    g_is_whole := PySem.W.mg_of X G a0,
    f_check_pair := f1,
    fd_check_pair := _,
    F_check_pair := fun_mk (st := s_check_pair) l1 c1 k1,
    g_check_pair := PySem.W.mg_of X G a1,
    f__is_table := f2,
    fd__is_table := _,
    F__is_table := fun_mk (st := s__is_table) l2 c2 k2,
    g__is_table := PySem.W.mg_of X G a2,
    f__is_two_tables := f3,
    fd__is_two_tables := _,
    F__is_two_tables := fun_mk (st := s__is_two_tables) l3 c3 k3,
    g__is_two_tables := PySem.W.mg_of X G a3,
    f__check_down_links := f4,
    fd__check_down_links := _,
    F__check_down_links := fun_mk (st := s__check_down_links) l4 c4 k4,
    g__check_down_links := PySem.W.mg_of X G a4,
    f__check_up_links := f5,
    fd__check_up_links := _,
    F__check_up_links := fun_mk (st := s__check_up_links) l5 c5 k5,
    g__check_up_links := PySem.W.mg_of X G a5,
    f_signed_sums := f6,
    fd_signed_sums := _,
    F_signed_sums := fun_mk (st := s_signed_sums) l6 c6 k6,
    g_signed_sums := PySem.W.mg_of X G a6,
    f__sums := f7,
    fd__sums := _,
    F__sums := fun_mk (st := s__sums) l7 c7 k7,
    g__sums := PySem.W.mg_of X G a7,
    f__add := f8,
    fd__add := _,
    F__add := fun_mk (st := s__add) l8 c8 k8,
    g__add := PySem.W.mg_of X G a8,
    f__law_draws := f9,
    fd__law_draws := _,
    F__law_draws := fun_mk (st := s__law_draws) l9 c9 k9,
    g__law_draws := PySem.W.mg_of X G a9,
    f__law_next := f10,
    fd__law_next := _,
    F__law_next := fun_mk (st := s__law_next) l10 c10 k10,
    g__law_next := PySem.W.mg_of X G a10,
    f__law_pair := f11,
    fd__law_pair := _,
    F__law_pair := fun_mk (st := s__law_pair) l11 c11 k11,
    g__law_pair := PySem.W.mg_of X G a11,
    f__law_tree := f12,
    fd__law_tree := _,
    F__law_tree := fun_mk (st := s__law_tree) l12 c12 k12,
    g__law_tree := PySem.W.mg_of X G a12,
    f__law_bent := f13,
    fd__law_bent := _,
    F__law_bent := fun_mk (st := s__law_bent) l13 c13 k13,
    g__law_bent := PySem.W.mg_of X G a13,
    f__law_any := f14,
    fd__law_any := _,
    F__law_any := fun_mk (st := s__law_any) l14 c14 k14,
    g__law_any := PySem.W.mg_of X G a14,
    f__law_sums := f15,
    fd__law_sums := _,
    F__law_sums := fun_mk (st := s__law_sums) l15 c15 k15,
    g__law_sums := PySem.W.mg_of X G a15,
    f__law_right := f16,
    fd__law_right := _,
    F__law_right := fun_mk (st := s__law_right) l16 c16 k16,
    g__law_right := PySem.W.mg_of X G a16,
    f_law := fa,
    fd_law := _,
    F_law := fun_mk (st := s_law) l17 c17 k17,
    g_law := PySem.W.mg_of X G a17,
    n_isinstance := PySem.W.mg_none_of X G z_isinstance,
    n_int := PySem.W.mg_none_of X G z_int,
    n_bool := PySem.W.mg_none_of X G z_bool,
    n_list := PySem.W.mg_none_of X G z_list,
    n_len := PySem.W.mg_none_of X G z_len,
    n_tuple := PySem.W.mg_none_of X G z_tuple,
    n_enumerate := PySem.W.mg_none_of X G z_enumerate,
    n_range := PySem.W.mg_none_of X G z_range,
    n_sorted := PySem.W.mg_none_of X G z_sorted,
    n_repr := PySem.W.mg_none_of X G z_repr,
    t_MOST_PLACES := t_MOST_PLACES,
    c_MOST_PLACES := PySem.W.mg_of X G y_MOST_PLACES
  }
  exact ⟨T.fd_law, fun s v => .of_eq rfl, fun base _ _ => ok_law T⟩
end K10
open PySem PySem.W PyProof.Rows
set_option maxHeartbeats 0 in
theorem PySem.Challenge.cw_linksums_k10_signed_sums_holds : PySem.Challenge.rw_linksums_k10_signed_sums.Holds := by
  w_on; o_law; k_head; (case hw => w_witness2)
  k_fill
  refine KX.walk_ofG (l := PySem.Challenge.rw_linksums_k10_signed_sums) (n := 63) (k := 6) (x := "_law_script") (sp := K10.sp_law) rfl (by decide) rfl ⟨rfl, by decide, by decide⟩ (fun w h Y => PySem.W.kIn_of Y) ?F (fun _ _ a ns hl _ hS => ⟨a, ns, rfl, hS, hl, fun _ => rfl⟩)
  case F =>
    intro w mg fa h KX G hmg
    refine' K10.all_mk KX G hmg ?a0 ?l0 ?c0 ?k0 ?a1 ?l1 ?c1 ?k1 ?a2 ?l2 ?c2 ?k2 ?a3 ?l3 ?c3 ?k3 ?a4 ?l4 ?c4 ?k4 ?a5 ?l5 ?c5 ?k5 ?a6 ?l6 ?c6 ?k6 ?a7 ?l7 ?c7 ?k7 ?a8 ?l8 ?c8 ?k8 ?a9 ?l9 ?c9 ?k9 ?a10 ?l10 ?c10 ?k10 ?a11 ?l11 ?c11 ?k11 ?a12 ?l12 ?c12 ?k12 ?a13 ?l13 ?c13 ?k13 ?a14 ?l14 ?c14 ?k14 ?a15 ?l15 ?c15 ?k15 ?a16 ?l16 ?c16 ?k16 ?a17 ?l17 ?c17 ?k17 ?z_isinstance ?z_int ?z_bool ?z_list ?z_len ?z_tuple ?z_enumerate ?z_range ?z_sorted ?z_repr ?y_MOST_PLACES
    (case a0 => k_is); (case l0 => k_is); (case c0 => k_is); (case k0 => k_is); (case a1 => k_is); (case l1 => k_is); (case c1 => k_is); (case k1 => k_is)
    (case a2 => k_is); (case l2 => k_is); (case c2 => k_is); (case k2 => k_is); (case a3 => k_is); (case l3 => k_is); (case c3 => k_is); (case k3 => k_is)
    (case a4 => k_is); (case l4 => k_is); (case c4 => k_is); (case k4 => k_is); (case a5 => k_is); (case l5 => k_is); (case c5 => k_is); (case k5 => k_is)
    (case a6 => k_is); (case l6 => k_is); (case c6 => k_is); (case k6 => k_is); (case a7 => k_is); (case l7 => k_is); (case c7 => k_is); (case k7 => k_is)
    (case a8 => k_is); (case l8 => k_is); (case c8 => k_is); (case k8 => k_is); (case a9 => k_is); (case l9 => k_is); (case c9 => k_is); (case k9 => k_is)
    (case a10 => k_is); (case l10 => k_is); (case c10 => k_is); (case k10 => k_is); (case a11 => k_is); (case l11 => k_is); (case c11 => k_is); (case k11 => k_is)
    (case a12 => k_is); (case l12 => k_is); (case c12 => k_is); (case k12 => k_is); (case a13 => k_is); (case l13 => k_is); (case c13 => k_is); (case k13 => k_is)
    (case a14 => k_is); (case l14 => k_is); (case c14 => k_is); (case k14 => k_is); (case a15 => k_is); (case l15 => k_is); (case c15 => k_is); (case k15 => k_is)
    (case a16 => k_is); (case l16 => k_is); (case c16 => k_is); (case k16 => k_is); (case a17 => k_is); (case l17 => k_is); (case c17 => k_is); (case k17 => k_is)
    (case z_isinstance => k_is); (case z_int => k_is); (case z_bool => k_is); (case z_list => k_is); (case z_len => k_is); (case z_tuple => k_is); (case z_enumerate => k_is); (case z_range => k_is)
    (case z_sorted => k_is); (case z_repr => k_is); (case y_MOST_PLACES => k_is)
