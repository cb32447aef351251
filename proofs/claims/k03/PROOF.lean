import PyProof.Rows.All
import Wide.All
import OpenK.AllK
import Wide.FinOn
import HandS.ForMost
import PyProof.ReprRoads
import PyProof.ReprBulk
import PyProof.Rows.RegStrFacts
import HandS.TupLe
import HandS.IsInst
import HandS.Defaults
import HandS.Codes
import PySem.Challenge.RW_wirenames_k03_ranks
set_option Elab.async false
set_option linter.all false
set_option maxRecDepth 100000
set_option maxHeartbeats 4000000
namespace Gd
open PySem PySem.Spec PyProof.Rows L2
/-! data read off the abstract heap -/
mutual
inductive Sh (H : Hp) : V → PyData → Prop
  | non : Sh H .non .none
  | bl (b : Bool) : Sh H (.bl b) (.bool b)
  | int (i : Int) : Sh H (.int i) (.int i)
  | str (x : Str) : Sh H (.str x) (.str x)
  | lst {a : Addr} {xs : List V} {ds : List PyData} : H a = some (.lst xs) → Shs H xs ds → Sh H (.ref a) (.list ds)
  | tup {a : Addr} {xs : List V} {ds : List PyData} : H a = some (.tup xs) → Shs H xs ds → Sh H (.ref a) (.tuple ds)
inductive Shs (H : Hp) : List V → List PyData → Prop
  | nil : Shs H [] []
  | cons {x : V} {d : PyData} {xs : List V} {ds : List PyData} : Sh H x d → Shs H xs ds → Shs H (x :: xs) (d :: ds)
end
section
variable {P : Program} {w : World} {H : Hp} {h : Heap}
mutual
theorem Sh.reads (ok : HOk P w H h) : ∀ {v : V} {d : PyData} {u : Value}, Sh H v d → RelV v u → ∃ as, Reads h u d as
  | _, _, _, .non, r => by
    cases (show _ = Value.none from r)
    exact ⟨_, .none⟩
  | _, _, _, .bl b, r => by
    cases (show _ = Value.bool b from r)
    exact ⟨_, .bool b⟩
  | _, _, _, .int i, r => by
    obtain ⟨t, e⟩ := (show ∃ t, _ = Value.int i t from r)
    cases e
    exact ⟨_, .int i t⟩
  | _, _, _, .str x, r => by
    obtain ⟨t, e⟩ := (show ∃ t, _ = Value.str x t from r)
    cases e
    exact ⟨_, .str x t⟩
  | _, _, _, .lst (a := a) e hs, r => by
    cases (show _ = Value.ref a from r)
    obtain ⟨_, its, n, vs, g⟩ := ok a _ e
    obtain ⟨as, q⟩ := Shs.reads ok hs vs
    exact ⟨_, .list g rfl rfl q⟩
  | _, _, _, .tup (a := a) e hs, r => by
    cases (show _ = Value.ref a from r)
    obtain ⟨_, its, vs, o, g1, g2, n, g3⟩ := ok a _ e
    obtain ⟨as, q⟩ := Shs.reads ok hs vs
    exact ⟨_, .tuple g1 g2 g3 q⟩
theorem Shs.reads (ok : HOk P w H h) : ∀ {xs : List V} {ds : List PyData} {us : List Value}, Shs H xs ds → Vals xs us → ∃ as, ReadsAll h us ds as
  | _, _, _, .nil, r => by
    cases r
    exact ⟨_, .nil⟩
  | _, _, _, .cons h1 h2, r => by
    cases r with
    | cons r1 r2 =>
      obtain ⟨as, q⟩ := Sh.reads ok h1 r1
      obtain ⟨bs, q2⟩ := Shs.reads ok h2 r2
      exact ⟨_, .cons q q2⟩
end
mutual
theorem Sh.plain : ∀ {v : V} {d : PyData}, Sh H v d → d.hasDict = false
  | _, _, .non => rfl
  | _, _, .bl _ => rfl
  | _, _, .int _ => rfl
  | _, _, .str _ => rfl
  | _, _, .lst _ hs => by
    simp only [PyData.hasDict]
    exact Shs.plain hs
  | _, _, .tup _ hs => by
    simp only [PyData.hasDict]
    exact Shs.plain hs
theorem Shs.plain : ∀ {xs : List V} {ds : List PyData}, Shs H xs ds → PyData.hasDictAll ds = false
  | _, _, .nil => rfl
  | _, _, .cons h1 h2 => by
    simp only [PyData.hasDictAll, Sh.plain h1, Shs.plain h2, Bool.or_false]
end
end
mutual
/-- data whose repr is told here: ints of less than 1920 bits, texts of plain signs -/
def fine : PyData → Bool
  | .none => true
  | .bool _ => true
  | .int i => decide (i.natAbs.log2 < 1920)
  | .str x => x.cps.toList.all fun c => decide (c < 16 ^ 8)
  | .list xs => fineAll xs
  | .tuple xs => fineAll xs
  | .dict _ => false
def fineAll : List PyData → Bool
  | [] => true
  | x :: xs => fine x && fineAll xs
end
mutual
theorem fine_shows : ∀ d : PyData, fine d = true → d.showable = true ∧ d.leavesShort 1921 = true
  | .none, _ => ⟨rfl, rfl⟩
  | .bool _, _ => ⟨rfl, rfl⟩
  | .int i, h => by
    have h1 : i.natAbs.log2 < 1920 := by simpa only [fine, decide_eq_true_eq] using h
    exact ⟨by simpa only [PyData.showable, decide_eq_true_eq] using h1, by
      simp only [PyData.leavesShort, PyData.shown]
      exact decide_eq_true (int_text_len_1921 h1)⟩
  | .str x, h => ⟨rfl, by simpa only [PyData.leavesShort, fine] using h⟩
  | .list xs, h => by
    have q := fineAll_shows xs (by simpa only [fine] using h)
    exact ⟨by simpa only [PyData.showable] using q.1, by simpa only [PyData.leavesShort] using q.2⟩
  | .tuple xs, h => by
    have q := fineAll_shows xs (by simpa only [fine] using h)
    exact ⟨by simpa only [PyData.showable] using q.1, by simpa only [PyData.leavesShort] using q.2⟩
  | .dict _, h => by simp only [fine, Bool.false_eq_true] at h
theorem fineAll_shows : ∀ ds : List PyData, fineAll ds = true → PyData.showableAll ds = true ∧ PyData.leavesShortAll 1921 ds = true
  | [], _ => ⟨rfl, rfl⟩
  | d :: ds, h => by
    simp only [fineAll, Bool.and_eq_true] at h
    have q1 := fine_shows d h.1
    have q2 := fineAll_shows ds h.2
    exact ⟨by simp only [PyData.showableAll, q1.1, q2.1, Bool.and_self], by simp only [PyData.leavesShortAll, q1.2, q2.2, Bool.and_self]⟩
end
theorem shown_fits {d : PyData} (h : fine d = true) (hb : d.bulk ≤ 8000) : d.shown.length ≤ sizeLine := by
  have q := PyData.shown_le_bulk 1921 (by decide) d (fine_shows d h).2
  rw [sizeLine_eq]
  omega
section
variable {X : Cx}
/-- repr of data -/
def rRepr : List V → Hp → VK → Prop := fun xs H Q => ∃ v d, xs = [v] ∧ Sh H v d ∧ fine d = true ∧ d.depth ≤ 60 ∧ d.bulk ≤ 8000 ∧ Q (.str d.shown) H
theorem call_repr (hg : X.A.guards = some []) (hu : X.A.units + 64 < cLine) : CallR X (.builtin "repr") rRepr := by
  intro pins s σ H xs us Q I r ⟨v, d, ex, hd, hf, dp, bk, q⟩
  have hs := (fine_shows d hf).1
  have sz := shown_fits hf bk
  subst ex
  cases r with
  | cons r1 r2 =>
  cases r2
  rename_i u
  cases hd with
  | non =>
    cases (show u = Value.none from r1)
    exact PySem.P.repr_of_none ⟨.str _, H, I.tok _, ⟨_, rfl⟩, q⟩
  | bl b =>
    cases (show u = Value.bool b from r1)
    exact PySem.P.repr_of_bool ⟨.str _, H, I.tok _, ⟨_, rfl⟩, q⟩
  | int i =>
    obtain ⟨t, e⟩ := (show ∃ t, u = Value.int i t from r1)
    cases e
    exact PySem.P.repr_of_int (by simpa [PyData.showable] using hs) ⟨.str _, H, I.tok _, ⟨_, rfl⟩, q⟩
  | str x =>
    obtain ⟨t, e⟩ := (show ∃ t, u = Value.str x t from r1)
    cases e
    exact PySem.P.repr_of_str ⟨.str _, H, I.tok _, ⟨_, rfl⟩, q⟩ sz
  | lst e1 h1 =>
    rename_i a xs ds
    have hd : Sh H (.ref a) (.list ds) := .lst e1 h1
    obtain ⟨as, rd⟩ := hd.reads I.hok r1
    cases (show u = Value.ref a from r1)
    exact repr_of_reads' rd hs (PyData.noDict_hsm hd.plain) hg (by omega) (fun _ _ e => e) (fun h' t tk k => ⟨.str _, H, I.kept k, ⟨t, rfl⟩, q⟩) sz
  | tup e1 h1 =>
    rename_i a xs ds
    have hd : Sh H (.ref a) (.tuple ds) := .tup e1 h1
    obtain ⟨as, rd⟩ := hd.reads I.hok r1
    cases (show u = Value.ref a from r1)
    exact repr_of_reads' rd hs (PyData.noDict_hsm hd.plain) hg (by omega) (fun _ _ e => e) (fun h' t tk k => ⟨.str _, H, I.kept k, ⟨t, rfl⟩, q⟩) sz
end
/-! defs that may only be called where no repr is under way -/
structure FnG (P : Program) (w : World) (K : PySem.W.Frag) (mg : Str → Option Value) (base : Heap) (CX : CXT) (k : Nat) (f : Addr) (fd : FuncData) (ps : List Str) (sp : Sp) : Prop where
  len : ∀ {vs : List V} {H : Hp} {Q : VK} {E : XK}, sp vs H Q E → vs.length = ps.length
  go : ∀ {A : Around} {outer : List Env} {s : Shared} {H : Hp} {args : Args} {us : List Value} {vs : List V} {Q : VK} {E : XK}, A.guards = some [] → Room k A →
    Env0 P w K mg base A outer s H → BindsTo s fd args (ps.zip us) → Vals vs us → sp vs H Q E → codeAny (model P w) A (.call (.ref f) args) (CR CX outer P w H s Q E) s
theorem FnG.mono {P : Program} {w : World} {K : PySem.W.Frag} {mg : Str → Option Value} {base : Heap} {CX : CXT} {j k : Nat} {f : Addr} {fd : FuncData} {ps : List Str} {sp : Sp}
    (F : FnG P w K mg base CX j f fd ps sp) (h : j ≤ k) : FnG P w K mg base CX k f fd ps sp := ⟨F.len, fun g r => F.go g (r.mono h)⟩
section
variable {P : Program} {w : World} {K : PySem.W.Frag} {mg : Str → Option Value} {base : Heap} {CX : CXT}
theorem fnG_of {k : Nat} {f : Addr} {x qual : Str} {st : Stmt} {fd : FuncData} {N ps : List Str} {sp : Sp} (F : Fun K x qual st f fd) (S : FnScope N ps (defScope st)) (len : ∀ vs H Q E, sp vs H Q E → vs.length = ps.length)
    (body : ∀ (cdv : Value) (A : Around) (outer : List Env) (s : Shared) (H : Hp) (vs : List V) (Q : VK) (E : XK), A.guards = some [] → Room k (A.deeper (envOfC qual (defScope st) s.heap.objs.size f cdv)) → sp vs H Q E →
      ∃ t, PSs (cxOf CX P w K mg base N qual (defScope st) f cdv A outer s H E) (defBody st) t ∧ t { nx := fun _ H' => Q .non H', rt := Q } (start N vs) H) :
    FnG P w K mg base CX (k + 1) f fd ps sp := by
  obtain ⟨oc, od, kV, doc, pm, an, cdv, ct, osl, rfl, look, code⟩ := F.ex
  constructor
  · intro vs H Q E q
    exact len vs H Q E q
  · intro A outer s H args us vs Q E gd room env bind vals want
    have same : ∀ b o, base.get? b = some o → s.heap.get? b = some o := fun b o e => (env.bs b o e).1
    have kin : K.In s.heap := env.mod.kin.keeps same
    have slots : ∀ y ∈ ps.zip us, (defScope st).names.lookup y.1 = some .local ∨ ((defScope st).names.lookup y.1 = some .cell ∧ ((cellsFrom (s.heap.objs.size + 1) (defScope st).names []).lookup y.1).isSome = true) := by
      rintro ⟨y, v⟩ hy
      cases S.par y (List.of_mem_zip hy).1 with
      | inl q => exact .inl q
      | inr q => exact .inr ⟨q, PySem.W.cellsFrom_some _ _ _ (.inl q)⟩
    apply codeAny_call_function room.depth (kin _ _ look) rfl S.co S.gen rfl (PySem.W.codeRec_of kin code)
    apply bind
    apply wpAny_newFunctionEnv_cells S.kind slots
    rintro env' rfl s1 X1
    constructor
    · exact (env.mod.nolimit.keeps same).keeps X1.toInCall.keep
    apply codeAny_func
    obtain ⟨t, ht, hq⟩ := body cdv A outer s H vs Q E gd (room.deeper _) want
    have I := inv_start (CX := CX) (E := E) S room.hd env (len _ _ _ _ want) vals X1
    apply wpAny_mono (ht.run [] s1 _ H _ I hq)
    · intro flow s' hs
      cases flow with
      | ret u =>
        obtain ⟨v, _, H', J, rv, q⟩ := hs
        exact ⟨v, H', J.os, J.bare, J.base, J.hok, rv, q⟩
      | next =>
        obtain ⟨_, H', J, q⟩ := hs
        exact ⟨.non, H', J.os, J.bare, J.base, J.hok, rfl, q⟩
      | brk => exact hs.elim fun _ q => q.elim fun _ q => q.2.elim
      | cont => exact hs.elim fun _ q => q.elim fun _ q => q.2.elim
    · intro e s' hs
      exact hs
theorem fnG0 {k : Nat} {f : Addr} {x qual : Str} {st : Stmt} {fd : FuncData} {N ps : List Str} {sp : Sp} (F : Fun K x qual st f fd) (S : FnScope N ps (defScope st)) (len : ∀ vs H Q E, sp vs H Q E → vs.length = ps.length)
    (body : ∀ (cdv : Value) (A : Around) (outer : List Env) (s : Shared) (H : Hp) (vs : List V) (Q : VK) (E : XK), A.guards = some [] → Room k (A.deeper (envOfC qual (defScope st) s.heap.objs.size f cdv)) → sp vs H Q E →
      ∃ t, PSs (cxOf CX0 P w K mg base N qual (defScope st) f cdv A outer s H E).nox (defBody st) t ∧ t { nx := fun _ H' => Q .non H', rt := Q } (start N vs) H) :
    FnG P w K mg base CX0 (k + 1) f fd ps sp :=
  fnG_of F S len fun cdv A outer s H vs Q E g r q => (body cdv A outer s H vs Q E g r q).elim fun t h => ⟨t, h.1.nox, h.2⟩
end
section
variable {X : Cx} {CX : CXT} {k : Nat} {f : Addr} {fd : FuncData} {ps : List Str} {sp : Sp} {dvs : List V} {ds : List Value} {E : XK} {x : Str} {p pos : Pos} {e : Expr} {es : List Expr} {t : TA}
theorem goG {pins : List (Addr × Obj)} {σ : L2.St} {H : Hp} {s : Shared} {Q : VK} {us : List Value} {vs : List V} (F : FnG X.prog X.w X.K X.mg X.base CX k f fd ps sp) (gd : X.A.guards = some []) (hr : Room k X.A)
    (hb : Binds X.K fd ps ds) (hd : Vals dvs ds) (hx : Passes CX X E) (I : Inv X pins σ H s) (r : Vals vs us) (h : sp (vs ++ dvs) H Q E) : wpAny (model X.prog X.w) X.A (call (.ref f) us) (EP X pins σ Q) X.xe s := by
  have both := r.append hd
  have many : (us ++ ds).length = ps.length := both.length.symm.trans (F.len h)
  apply wpAny_call
  apply codeAny_mono (F.go gd hr I.env0 (hb s us I.kIn many) both h)
  intro res s' hq
  cases res with
  | error e => exact hx pins σ H s e s' I hq
  | ok flow =>
    cases flow with
    | ret u => exact I.after hq
    | next => exact hq.elim
    | brk => exact hq.elim
    | cont => exact hq.elim
/-- f(e, ..) of such a def -/
theorem pe_callG (F : FnG X.prog X.w X.K X.mg X.base CX k f fd ps sp) (gd : X.A.guards = some []) (hr : Room k X.A) (hg : Gl X x) (hm : X.mg x = some (.ref f)) (hk : PySem.W.keepIn X.K (.ref f) = true) (hb : Binds X.K fd ps ds) (hd : Vals dvs ds)
    (hx : Passes CX X E) (ha : PA X (e :: es) t) (hdb : (x == ("__debug__" : Str)) = false := by decide)
    (he : starEach (e :: es) X.env = (false, eval e X.env) :: starEach es X.env := by rfl) (hpl : (backTo pos (starEach es X.env)).any (·.1) = false := by rfl) :
    PE X (.Call (.Name x p) (e :: es) [] pos) (tCall sp dvs E t) := by
  constructor
  intro pins s σ H Q I h
  apply wpAny_Call_Name_kw
  apply ld_glob I hg hm _ hdb
  apply PySem.W.callWith_K (h₀ := X.base) I.ok.mod.kin hk _ he hpl
  apply thn (ha.run pos pins s σ H _ I h)
  rintro us s1 ⟨vs, H1, I1, r, q⟩
  exact ⟨I1.kIn, goG F gd hr hb hd hx I1 r q⟩
end
/-! the law's end, where the law's def calls repr -/
section
variable {P : Program} {w : World} {K : PySem.W.Frag} {mg mb : Str → Option Value} {CX : CXT} {k : Nat} {fa a : Addr} {fd : FuncData} {x : Str} {sp : Sp} {s : Shared} {vs : List Value} {ns : List Int}
abbrev Done (s : Shared) (r : Result) (s' : Shared) : Prop := r = .ok (.ret (.bool true)) ∧ OldK s.heap s'.heap ∧ s'.os = s.os ∧ AllBare s'.gens
theorem from_heap (kin : K.In s.heap) (gl : s.heap.Ns mainGlobals mg) (bn : s.heap.Ns builtinsNs mb) (bb : ∀ x : Str, x ≠ "__name__" → mb x = bootBuiltins x) (lim : s.heap.NoLimit) (gens : s.gens = #[])
    (ha : s.heap.get? a = some { cls := .type "list", data := .seq vs.toArray }) (hr : Room k callerA)
    (F : ∀ base : Heap, K.In base → base.Ns mainGlobals mg → FnG P w K mg base CX k fa fd [x] sp) (hbind : ∀ (s : Shared) (u : Value), BindsTo s fd ⟨[u], []⟩ [(x, u)])
    (hCX : ∀ H e s', CX [] H s (fun _ _ _ => False) e s' → False)
    (H : Hp) (only : Only H) (want : sp [.ref a] H (fun v _ => v = .bl true) fun _ _ _ => False) (ok : HOk P w H s.heap) (one : ∀ b, H b ≠ none → b = a) (out : H a ≠ none → K.lookup a = none) :
    codeAny (model P w) callerA (.call (.ref fa) ⟨[.ref a], []⟩) (Done s) s := by
  have dicts : ∀ {b : Addr} {m : Str → Option Value}, s.heap.Ns b m → (hidT s.heap H).Ns b m := by
    rintro b m ⟨o, es, ep, g, d, rest⟩
    refine ⟨o, es, ep, hidT_get g ?_, d, rest⟩
    apply Classical.byContradiction
    intro q
    cases one b q
    rw [ha] at g
    cases g
    cases (show Data.seq vs.toArray _ = Data.dict es ep from d)
  have kin' : K.In (hidT s.heap H) := by
    intro b o g
    refine hidT_get (kin b o g) ?_
    apply Classical.byContradiction
    intro q
    cases one b q
    rw [out q] at g
    cases g
  have env : Env0 P w K mg (hidT s.heap H) callerA [] s H :=
    { frames := rfl
      mod := ⟨kin', dicts gl, ⟨mb, dicts bn, bb⟩, lim.elim fun mc q => ⟨mc, dicts q.1, q.2⟩⟩
      bs := fun b o g => of_hidT g
      bsz := Nat.le_of_eq (hidT_size _ _)
      funs := trivial
      frf := fun b z => absurd (show b ∈ ([] : List Addr) from z) (by simp)
      hok := ok
      bare := .of_eq gens }
  apply codeAny_mono ((F _ kin' (dicts gl)).go rfl hr env (hbind s (.ref a)) (.cons rfl .nil : Vals [.ref a] [.ref a]) want)
  intro res s' got
  cases res with
  | error e => exact (hCX H e s' got).elim
  | ok flow =>
    cases flow with
    | next => exact got.elim
    | brk => exact got.elim
    | cont => exact got.elim
    | ret u =>
      obtain ⟨v, H', os, bare, un, ok', rv, q⟩ := got
      cases (show v = V.bl true from q)
      cases (show u = Value.bool true from rv)
      refine ⟨rfl, OldK.of_keep ?_, os, bare⟩
      intro b o g
      cases q : H b with
      | none => exact un.keep b o g q (fun z => absurd (show b ∈ ([] : List Addr) from z) (by simp)) (by simp)
      | some z =>
        cases only b with
        | inl n =>
          rw [n] at q
          cases q
        | inr n =>
          obtain ⟨ob, xs, n⟩ := n
          have g1 := (ok b _ n).1
          rw [g] at g1
          cases g1
          exact (ok' b _ (un.frzs b o _ n)).1
theorem lawG (kin : K.In s.heap) (gl : s.heap.Ns mainGlobals mg) (bn : s.heap.Ns builtinsNs mb) (bb : ∀ x : Str, x ≠ "__name__" → mb x = bootBuiltins x) (lim : s.heap.NoLimit) (gens : s.gens = #[])
    (ha : s.heap.get? a = some { cls := .type "list", data := .seq vs.toArray }) (hi : IntsAre vs ns) (hl : ns.length ≤ sizeLine) (hr : Room k callerA)
    (F : ∀ base : Heap, K.In base → base.Ns mainGlobals mg → FnG P w K mg base CX k fa fd [x] sp) (hbind : ∀ (s : Shared) (u : Value), BindsTo s fd ⟨[u], []⟩ [(x, u)])
    (hsp : ∀ H : Hp, SqL K H a (ns.map V.int) → sp [.ref a] H (fun v _ => v = .bl true) fun _ _ _ => False)
    (hCX : ∀ H e s', CX [] H s (fun _ _ _ => False) e s' → False) :
    codeAny (model P w) callerA (.call (.ref fa) ⟨[.ref a], []⟩) (Done s) s := by
  have rel := vals_ints hi
  cases look : K.lookup a with
  | some o =>
    have g := kin a o look
    rw [ha] at g
    cases g
    refine from_heap kin gl bn bb lim gens ha hr F hbind hCX (fun _ => none) (fun _ => .inl rfl) (hsp _ (.inr ⟨_, vs.toArray, _, look, rfl, rfl, rfl, ?_, by simpa using rel⟩)) (fun b u z => ?_) (fun b z => absurd rfl z) (fun z => absurd rfl z)
    · rw [List.size_toArray, hi.length]
      exact hl
    · cases (show (none : Option HO) = some u from z)
  | none =>
    let O : Obj := { cls := .type "list", data := .seq vs.toArray }
    have at_a : upd (fun _ => none) a (HO.frz O (.lst (ns.map V.int))) a = some (.frz O (.lst (ns.map V.int))) := upd_same
    refine from_heap kin gl bn bb lim gens ha hr F hbind hCX (upd (fun _ => none) a (.frz O (.lst (ns.map V.int)))) (fun b => ?_) (hsp _ (.inl (.inr ⟨O, at_a⟩))) (fun b u z => ?_) (fun b z => ?_) fun _ => look
    · by_cases e : b = a
      · subst e
        exact .inr ⟨_, _, at_a⟩
      · exact .inl (upd_ne e)
    · by_cases e : b = a
      · subst e
        cases Option.some.inj (at_a.symm.trans z)
        exact ⟨ha, by rw [List.length_map]; exact hl, vs, _, rel, ha⟩
      · rw [upd_ne e] at z
        cases z
    · by_cases e : b = a
      · exact e
      · exact absurd (upd_ne e) z
end
theorem walkG {l : PySem.W.OpenLaw} {n k : Nat} {q : Program} {loose : List Str} {XP : (Str → Option Value) → Heap → Prop} {YP : World → Heap → Prop} {d : DefRec} {K : Params → PySem.W.Frag} {sp : PySem.W.Frag → Sp} {x : Str}
    (hn : l.most = some n) (hn2 : n ≤ sizeLine) (hdf : d.params.defaults = []) (hr : Room k callerA) (hY : ∀ (w : World) (h : Heap), YP w h → (K w.params).In h)
    (F : ∀ (w : World) (mg : Str → Option Value) (fa : Addr) (h : Heap), (K w.params).In h → h.Ns mainGlobals mg → mg d.name = some (.ref fa) → ∃ fd : FuncData, (∀ (s : Shared) (u : Value), BindsTo s fd ⟨[u], []⟩ [(x, u)]) ∧
      ∀ base : Heap, (K w.params).In base → base.Ns mainGlobals mg → FnG l.prog w (K w.params) mg base CX0 k fa fd [x] (sp (K w.params)))
    (hsp : ∀ (K : PySem.W.Frag) (H : Hp) (a : Addr) (ns : List Int), ns.length ≤ n → SqL K H a (ns.map V.int) → sp K [.ref a] H (fun v _ => v = .bl true) fun _ _ _ => False) :
    PySem.W.WalkO q loose XP YP l.row.toRowW d [] (fun f vs => PySem.call f vs) := by
  apply Att.attach_call hn hdf
  intro w s₀ s₁ mg mb fa o pm cd doc a vs ns G Y ho hd hcd hmg hobj hints hlen hg
  obtain ⟨fd, hb, hF⟩ := F w mg fa _ (hY w _ Y) G.T.g hmg
  exact lawG (hY w _ Y) G.T.g G.T.b G.T.builtins G.T.nolimit hg hobj hints (Nat.le_trans hlen hn2) hr hF hb (fun H hS => hsp _ H a ns hlen hS) fun _ _ _ z => z
end Gd
namespace Gd
open PySem PySem.Spec PyProof.Rows L2
/-- what a law draws from: a list of two ints -/
def Bag (H : Hp) (a : Addr) : Prop := ∃ g m : Int, H a = some (.lst [.int g, .int m]) ∧ 0 ≤ m ∧ m < 2147483647
/-- all but what stands at a stays -/
def Kp (a : Addr) (H H' : Hp) : Prop := ∀ b o, b ≠ a → H b = some o → H' b = some o
theorem Kp.refl (a : Addr) (H : Hp) : Kp a H H := fun _ _ _ e => e
theorem Kp.trans {a : Addr} {H H1 H2 : Hp} (k : Kp a H H1) (l : Kp a H1 H2) : Kp a H H2 := fun b o n e => l b o n (k b o n e)
theorem Kp.at_bag {a : Addr} {H : Hp} {o : HO} : Kp a H (upd H a o) := fun b u n e => by
  rw [upd_ne n]
  exact e
theorem Kp.new {a p : Addr} {H : Hp} {o : HO} (h : H p = none) : Kp a H (upd H p o) := fun b u _ e => by
  rw [upd_ne (ne_of_none e h)]
  exact e
theorem Kp.put {a p : Addr} {H H' : Hp} {o : HO} (k : Kp a H H') (h : H p = none) : Kp a H (upd H' p o) := fun b u n e => by
  rw [upd_ne (ne_of_none e h)]
  exact k b u n e
theorem Same.kp {a : Addr} {H H' : Hp} (s : Same H H') : Kp a H H' := fun b o _ e => s b o e
theorem Bag.new {a p : Addr} {H : Hp} {o : HO} (b : Bag H a) (h : H p = none) : Bag (upd H p o) a := by
  obtain ⟨g, m, e, q⟩ := b
  exact ⟨g, m, by rw [upd_ne (ne_of_none e h)]; exact e, q⟩
theorem Bag.upd {a p : Addr} {H : Hp} {o : HO} (b : Bag H a) (h : p ≠ a) : Bag (L2.upd H p o) a := by
  obtain ⟨g, m, e, q⟩ := b
  exact ⟨g, m, by rw [upd_ne h.symm]; exact e, q⟩
theorem Bag.some {a : Addr} {H : Hp} (b : Bag H a) : ∃ o, H a = some o := ⟨_, b.choose_spec.choose_spec.1⟩
theorem Bag.ne {a p : Addr} {H : Hp} (b : Bag H a) (h : H p = none) : p ≠ a := by
  obtain ⟨g, m, e, q⟩ := b
  exact (ne_of_none e h).symm
/-- what is free behind was free ahead -/
theorem Kp.free {a p : Addr} {H H' : Hp} (k : Kp a H H') (b : Bag H' a) (h : H' p = none) : H p = none := by
  cases q : H p with
  | none => rfl
  | some o =>
    rw [k p o (b.ne h) q] at h
    cases h
theorem Kp.sq {K : PySem.W.Frag} {a b : Addr} {H H' : Hp} {xs : List V} (k : Kp a H H') (n : b ≠ a) (h : SqL K H b xs) : SqL K H' b xs := by
  rcases h with (h | ⟨o, h⟩) | h
  · exact .inl (.inl (k _ _ n h))
  · exact .inl (.inr ⟨o, k _ _ n h⟩)
  · exact .inr h
/-- a list of the module's or of the heap stays while the bag, new behind it, is drawn from -/
theorem Kp.sqn {K : PySem.W.Frag} {a b : Addr} {H H' : Hp} {xs : List V} (k : Kp a H H') (n : H a = none) (h : SqL K H b xs) : SqL K H' b xs := by
  rcases h with (h | ⟨o, h⟩) | h
  · exact .inl (.inl (k _ _ (ne_of_none h n) h))
  · exact .inl (.inr ⟨o, k _ _ (ne_of_none h n) h⟩)
  · exact .inr h
/-- tuples stay -/
def Tk (H H' : Hp) : Prop := ∀ p xs, H p = some (.tup xs) → H' p = some (.tup xs)
theorem Same.tk {H H' : Hp} (s : Same H H') : Tk H H' := fun p xs e => s p _ e
theorem Tk.trans {H H1 H2 : Hp} (k : Tk H H1) (l : Tk H1 H2) : Tk H H2 := fun p xs e => l p xs (k p xs e)
theorem Kp.tk {a : Addr} {H H' : Hp} (k : Kp a H H') (b : Bag H a) : Tk H H' := fun p xs e => by
  obtain ⟨g, m, h, _⟩ := b
  exact k p _ (ne_of e h (fun z => nomatch z)) e
theorem Tk.lst {p : Addr} {H : Hp} {xs ys : List V} (h : H p = some (.lst xs)) : Tk H (upd H p (.lst ys)) := fun b zs e => by
  rw [upd_ne (ne_of e h (fun z => nomatch z))]
  exact e
def spTake : Sp := fun vs H Q _ => ∃ (a : Addr) (n : Int), vs = [.ref a, .int n] ∧ Bag H a ∧ (0 < n ∧ n < 1073741824) ∧ ∀ (d : Int) (H' : Hp), 0 ≤ d → d < n → Bag H' a → Kp a H H' → Q (.int d) H'
def spBag (K : PySem.W.Frag) : Sp := fun vs H Q _ => ∃ (a : Addr) (ns : List Int) (i : Nat), vs = [.ref a, .int (i : Int)] ∧ SqL K H a (ns.map V.int) ∧ i ≤ 1000 ∧
  ∀ (H' : Hp) (p : Addr), Same H H' → H p = none → Bag H' p → Q (.ref p) H'
theorem turns {L : Nat} {m : Int} (hm : 1 ≤ m) : 1 ≤ (if (if (L : Int) < m then (L : Int) else m) > 1 then (if (L : Int) < m then (L : Int) else m) else 1) ∧ (if (if (L : Int) < m then (L : Int) else m) > 1 then (if (L : Int) < m then (L : Int) else m) else 1) ≤ m := by
  constructor <;> (repeat' split) <;> omega
theorem same_upd {H : Hp} {p : Addr} {o : HO} (h : H p = none) : Same H (upd H p o) := by
  intro b x e
  rw [upd_ne (ne_of_none e h)]
  exact e
section
variable {X : Cx}
/-- (i, j) > (k, l) -/
def gt2 (i j k l : Int) : Bool := decide (k < i ∨ (i = k ∧ l < j))
def rGt2 (K : PySem.W.Frag) : R2 := fun x y H Q => ∃ (a b : Addr) (i j k l : Int), x = .ref a ∧ y = .ref b ∧ SqT K H a [.int i, .int j] ∧ SqT K H b [.int k, .int l] ∧ Q (.bl (gt2 i j k l)) H
theorem eq_two {A : Around} {s : Shared} {i k : Int} {t u : Tok} : SeqAt.EqAt A s (.int i t) (.int k u) (decide (i = k)) := by
  have e : (i == k) = decide (i = k) := by
    by_cases q : i = k
    · rw [decide_eq_true q, q, beq_self_eq_true]
    · rw [decide_eq_false q, beq_eq_false_iff_ne.mpr q]
  rw [← e]
  exact SeqAt.EqAt.int_int _ _ _ _
theorem op_gt2 (hu : X.A.units < cLine) : OpR X (compareOp .Gt) (rGt2 X.K) := by
  rintro pins s σ H x y v u Q I rx ry ⟨a, b, i, j, k, l, rfl, rfl, ha, hb, q⟩
  cases rx
  cases ry
  obtain ⟨its, r1, p1, _⟩ := I.tuple ha
  obtain ⟨jts, r2, p2, _⟩ := I.tuple hb
  cases r1 with
  | cons a1 r1 =>
  cases r1 with
  | cons a2 r1 =>
  cases r1
  cases r2 with
  | cons b1 r2 =>
  cases r2 with
  | cons b2 r2 =>
  cases r2
  obtain ⟨t1, rfl⟩ := a1
  obtain ⟨t2, rfl⟩ := a2
  obtain ⟨t3, rfl⟩ := b1
  obtain ⟨t4, rfl⟩ := b2
  have R := Ob.RcOp.tuples_gt (A := X.A) (s := s) (e := fun n => if n = 0 then decide (i = k) else decide (j = l)) (r := fun n => if n = 0 then decide (k < i) else decide (l < j)) p1 p2 hu
    (fun n h1 h2 => match n, h1, h2 with
      | 0, _, _ => eq_two
      | 1, _, _ => eq_two
      | n + 2, h1, _ => absurd h1 (by simp))
    (fun n h1 h2 _ => match n, h1, h2 with
      | 0, _, _ => Ob.RcOp.gt_int _ _ _ _
      | 1, _, _ => Ob.RcOp.gt_int _ _ _ _
      | n + 2, h1, _ => absurd h1 (by simp))
  refine R _ _ _ _ ⟨.bl (gt2 i j k l), H, I, ?_, q⟩
  show Value.bool _ = Value.bool _
  congr 1
  show (if decide (i = k) = true then (if decide (j = l) = true then decide (2 > 2) else decide (l < j)) else decide (k < i)) = _
  unfold gt2
  by_cases e1 : i = k
  · rw [decide_eq_true e1, if_pos rfl]
    by_cases e2 : j = l
    · rw [decide_eq_true e2, if_pos rfl]
      rw [decide_eq_false (by omega), decide_eq_false (by omega)]
    · rw [decide_eq_false e2, if_neg Bool.false_ne_true]
      by_cases e3 : l < j
      · rw [decide_eq_true e3, decide_eq_true (by omega)]
      · rw [decide_eq_false e3, decide_eq_false (by omega)]
  · rw [decide_eq_false e1, if_neg Bool.false_ne_true]
    by_cases e3 : k < i
    · rw [decide_eq_true e3, decide_eq_true (.inl e3)]
    · rw [decide_eq_false e3, decide_eq_false (by omega)]
end
section
variable {X : Cx} {CX : CXT} {k : Nat} {f : Addr} {fd : FuncData} {ps ks : List Str} {sp : Sp} {E : XK} {x : Str} {p pos : Pos} {kws : List Keyword} {tk : TA} {g : List Value → List Value → List Value} {gV : List V → List V → List V}
def tCallK0 (n : Nat) (sp : Sp) (gV : List V → List V → List V) (E : XK) (tk : TA) : TE := fun σ H Q => tk σ H fun zs H2 => zs.length = n ∧ sp (gV [] zs) H2 Q E
/-- f(k = v, ..), keywords alone -/
theorem pe_callK0 (F : FnOk X.prog X.w X.K X.mg X.base CX k f fd ps sp) (hr : Room k X.A) (hg : Gl X x) (hm : X.mg x = some (.ref f)) (hk : PySem.W.keepIn X.K (.ref f) = true) (hb : KBn X.K fd ps 0 ks g gV) (hx : Passes CX X E) (hkw : PK X kws tk)
    (hall : (backToKw pos (keywordEach kws X.env)).all (·.1.isSome) = true := by rfl) (hks : (backToKw pos (keywordEach kws X.env)).filterMap (·.1) = ks := by rfl)
    (hdb : (x == ("__debug__" : Str)) = false := by decide) (hpl : ((backTo pos (starEach [] X.env)).any (·.1) || (backToKw pos (keywordEach kws X.env)).any (·.1.isNone)) = false := by rfl) :
    PE X (.Call (.Name x p) [] kws pos) (tCallK0 ks.length sp gV E tk) := by
  constructor
  intro pins s σ H Q I h
  apply wpAny_Call_Name_kw
  apply ld_glob I hg hm _ hdb
  apply PySem.W.callWith_KW0 (h₀ := X.base) I.ok.mod.kin hk hall _ hpl
  apply thn (hkw.run pos pins s σ H _ I h)
  rintro ws s2 ⟨zs, H2, I2, rz, l2, q2⟩
  refine ⟨I2.kIn, ?_⟩
  rw [hks]
  exact run_fnN F hr hb hx I2 .nil rz rfl l2 q2
end
end Gd
namespace K03
open PySem PySem.Spec PyProof.Rows L2 Gd
def topS (i : Nat) : Stmt := PySem.Challenge.pw_wirenames_k03_ranks.main.body.getD i (.Pass ⟨0, 0, 0, 0⟩)
abbrev sGr : Stmt := topS 1
abbrev sBag : Stmt := topS 3
abbrev sTake : Stmt := topS 4
abbrev sLaw : Stmt := topS 5
theorem scG : FnScope ["rank", "other"] ["rank", "other"] (defScope sGr) := ⟨rfl, rfl, rfl, by decide +kernel, rfl, by decide +kernel, by decide +kernel⟩
theorem scB : FnScope ["_law_script", "_law_at", "_law_cell", "_law_great", "_law_primes", "_law_mixed"] ["_law_script", "_law_at"] (defScope sBag) := ⟨rfl, rfl, rfl, by decide +kernel, rfl, by decide +kernel, by decide +kernel⟩
theorem scT : FnScope ["_law_bag_here", "_law_many", "_law_digit"] ["_law_bag_here", "_law_many"] (defScope sTake) := ⟨rfl, rfl, rfl, by decide +kernel, rfl, by decide +kernel, by decide +kernel⟩
theorem scL : FnScope ["_law_script", "_law_at", "_law_bag_here", "_law_ranks", "_law_turn", "_law_mark", "_law_shown", "_law_one", "_law_two", "_law_due", "_law_told"] ["_law_script"] (defScope sLaw) := ⟨rfl, rfl, rfl, by decide +kernel, rfl, by decide +kernel, by decide +kernel⟩
section
variable {P : Program} {w : World} {K : PySem.W.Frag} {mg : Str → Option Value} {base : Heap}
/-! is_greater -/
def spGr (K : PySem.W.Frag) : Sp := fun vs H Q _ => ∃ (a b : Addr) (i j k l : Int), vs = [.ref a, .ref b] ∧ SqT K H a [.int i, .int j] ∧ SqT K H b [.int k, .int l] ∧ ∀ H', Same H H' → Q (.bl (gt2 i j k l)) H'
theorem seqT {K : PySem.W.Frag} {H H' : Hp} {a : Addr} {xs : List V} (e : Same H H') (h : SqT K H a xs) : SqT K H' a xs := by
  rcases h with (h | ⟨o, h⟩) | h
  · exact .inl (.inl (e _ _ h))
  · exact .inl (.inr ⟨o, e _ _ h⟩)
  · exact .inr h
theorem ok_gr {f : Addr} {fd : FuncData} {k : Nat} (F : Fun K "is_greater" "is_greater" sGr f fd) : FnOk P w K mg base CX0 (k + 1) f fd ["rank", "other"] (spGr K) := by
  refine F.ok scG (fun vs H Q E h => ?_) (fun cdv A outer s H vs Q E hr h => ?_)
  · obtain ⟨a, b, i, j, k, l, rfl, _⟩ := h
    rfl
  · obtain ⟨a, b, i, j, k, l, rfl, ha, hb, q⟩ := h
    refine ⟨_, pss_one (ps_ret (pe_cmpR (op_gt2 hr.units0) (pe_tup (pa_cons (pe_ix ix_tup (pv 0) pe_int (fun _ _ => rfl)) (pa_cons (pe_ix ix_tup (pv 0) pe_int (fun _ _ => rfl)) pa_nil)))
      (pe_tup (pa_cons (pe_ix ix_tup (pv 1) pe_int (fun _ _ => rfl)) (pa_cons (pe_ix ix_tup (pv 1) pe_int (fun _ _ => rfl)) pa_nil))) (nomark _))), ?_⟩
    refine ⟨_, rfl, a, _, 0, .int i, rfl, rfl, ha, rfl, _, rfl, a, _, 1, .int j, rfl, rfl, ha, rfl, by show 2 ≤ sizeLine; decide, fun p np => ?_⟩
    have s1 := same_upd (o := .tup [.int i, .int j]) np
    refine ⟨_, rfl, b, _, 0, .int k, rfl, rfl, seqT s1 hb, rfl, _, rfl, b, _, 1, .int l, rfl, rfl, seqT s1 hb, rfl, by show 2 ≤ sizeLine; decide, fun p2 np2 => ?_⟩
    have s2 := same_upd (o := .tup [.int k, .int l]) np2
    exact ⟨p, p2, i, j, k, l, rfl, rfl, SqT.of (s2 _ _ upd_same), SqT.of upd_same, q _ (s1.trans s2)⟩
/-! _law_take -/
theorem ok_take {f : Addr} {fd : FuncData} {k : Nat} (F : Fun K "_law_take" "_law_take" sTake f fd) : FnOk P w K mg base CX0 (k + 1) f fd ["_law_bag_here", "_law_many"] spTake := by
  refine F.ok scT (fun vs H Q E h => ?_) (fun cdv A outer s H vs Q E hr h => ?_)
  · obtain ⟨a, n, rfl, _⟩ := h
    rfl
  · obtain ⟨a, n, rfl, ⟨g, m, ha, hm⟩, hn, q⟩ := h
    refine ⟨_, pss_cons (ps_if (pt_cmpR op_gt (pe_ix ix_list (pv 0) pe_int (fun _ _ => rfl)) pe_int (nomark _))
        (pss_cons (ps_set (i := 2) scT.nd rfl (.inl rfl) (pe_op op_mod (pe_ix ix_list (pv 0) pe_int (fun _ _ => rfl)) (pv 1)))
        (pss_cons (ps_asg (pe_op op_fdiv (pe_ix ix_list (pv 0) pe_int (fun _ _ => rfl)) (pv 1)) (pg_sub (pv 0) pe_int set_list))
        (pss_one (ps_ret (pv 2))))) pss_nil)
      (pss_cons (ps_asg (pe_op op_mod (pe_op op_add (pe_op op_mul (pe_ix ix_list (pv 0) pe_int (fun _ _ => rfl)) pe_int) pe_int) pe_int) (pg_sub (pv 0) pe_int set_list))
      (pss_one (ps_ret (pe_op op_mod (pe_op op_fdiv (pe_op op_mod (pe_op op_pow (pe_ix ix_list (pv 0) pe_int (fun _ _ => rfl)) pe_int) pe_int) pe_int) (pv 1))))), ?_⟩
    refine ⟨_, rfl, a, _, 0, .int g, rfl, rfl, SqL.of ha, rfl, g, 0, rfl, rfl, _, rfl, ite2 (fun e => ?_) (fun e => ?_)⟩
    · refine ⟨_, rfl, a, _, 0, .int g, rfl, rfl, SqL.of ha, rfl, _, rfl, g, n, rfl, rfl, hn.1, ?_⟩
      refine ⟨_, rfl, a, _, 0, .int g, rfl, rfl, SqL.of ha, rfl, _, rfl, g, n, rfl, rfl, hn, _, rfl, a, _, 0, 0, rfl, rfl, ha, rfl, ?_⟩
      exact ⟨_, rfl, q _ _ (Int.emod_nonneg _ (by omega)) (Int.emod_lt_of_pos _ hn.1) ⟨_, _, upd_same, hm⟩ Kp.at_bag⟩
    · have h0 : 0 ≤ (m * 69069 + 1327217) % 2147483647 := Int.emod_nonneg _ (by omega)
      have h1 : (m * 69069 + 1327217) % 2147483647 < 2147483647 := Int.emod_lt_of_pos _ (by omega)
      refine ⟨_, rfl, a, _, 1, .int m, rfl, rfl, SqL.of ha, rfl, m, 69069, rfl, rfl, .inl ⟨by omega, by omega⟩, _, 1327217, rfl, rfl, _, 2147483647, rfl, rfl, by show (0 : Int) < 2147483647; decide,
        _, rfl, a, _, 1, 1, rfl, rfl, ha, rfl, ?_⟩
      refine ⟨_, rfl, a, _, 1, _, rfl, rfl, SqL.of upd_same, rfl, _, 3, rfl, rfl, ⟨by decide, by decide, by omega⟩, _, 2147483629, rfl, rfl, by show (0 : Int) < 2147483629; decide,
        _, 16, rfl, rfl, ⟨by decide, by decide⟩, _, rfl, _, n, rfl, rfl, hn.1, ?_⟩
      exact q _ _ (Int.emod_nonneg _ (by omega)) (Int.emod_lt_of_pos _ hn.1) ⟨_, _, upd_same, h0, h1⟩ Kp.at_bag
/-! _law_bag -/
def primes : List V := [.int 2147483647, .int 2147483629, .int 2147483587, .int 2147483579, .int 2147483563, .int 2147483549, .int 2147483543, .int 2147483497]
theorem prime_at (i : Nat) : ∃ q : Int, primes[i % 8]? = some (.int q) ∧ 0 < q ∧ q ≤ 2147483647 := by
  have h : i % 8 < 8 := Nat.mod_lt _ (by decide)
  generalize i % 8 = j at h
  match j, h with
  | 0, _ => exact ⟨_, rfl, by decide, by decide⟩
  | 1, _ => exact ⟨_, rfl, by decide, by decide⟩
  | 2, _ => exact ⟨_, rfl, by decide, by decide⟩
  | 3, _ => exact ⟨_, rfl, by decide, by decide⟩
  | 4, _ => exact ⟨_, rfl, by decide, by decide⟩
  | 5, _ => exact ⟨_, rfl, by decide, by decide⟩
  | 6, _ => exact ⟨_, rfl, by decide, by decide⟩
  | 7, _ => exact ⟨_, rfl, by decide, by decide⟩
  | n + 8, h => exact absurd h (by omega)
theorem ok_bag {f : Addr} {fd : FuncData} {k : Nat} (F : Fun K "_law_bag" "_law_bag" sBag f fd) (ml : mg "len" = none) (ma : mg "abs" = none) : FnOk P w K mg base CX0 (k + 1) f fd ["_law_script", "_law_at"] (spBag K) := by
  refine F.ok scB (fun vs H Q E h => ?_) (fun cdv A outer s H vs Q E hr h => ?_)
  · obtain ⟨a, ns, i, rfl, _⟩ := h
    rfl
  · obtain ⟨a, ns, i, rfl, ha, hi, q⟩ := h
    refine ⟨_, pss_cons (ps_set (i := 2) scB.nd rfl (.inl rfl) pe_int)
      (C8.pss_cut (ps_if (pt_cmpR op_lt (pv 1) (pe_callB call_len_seq (by rfl) ml PySem.boot_len (pa_cons (pv 0) pa_nil)) (nomark _)) (pss_one (ps_set (i := 2) scB.nd rfl (.inl rfl) (pe_ix ix_list (pv 0) (pv 1) (fun _ _ => rfl)))) pss_nil)
      (pss_cons (ps_set (i := 3) scB.nd rfl (.inl rfl) pe_int)
      (C8.pss_cut (ps_if (pt_cmpR op_ge (pe_callB call_abs (by rfl) ma (by decide +kernel) (pa_cons (pv 2) pa_nil)) (pe_op op_pow pe_int pe_int) (nomark _)) (pss_one (ps_set (i := 3) scB.nd rfl (.inl rfl) (pe_callB call_abs (by rfl) ma (by decide +kernel) (pa_cons (pv 2) pa_nil)))) pss_nil)
      (pss_cons (ps_set (i := 4) scB.nd rfl (.inl rfl) (pe_lst (pa_cons pe_int (pa_cons pe_int (pa_cons pe_int (pa_cons pe_int (pa_cons pe_int (pa_cons pe_int (pa_cons pe_int (pa_cons pe_int pa_nil))))))))))
      (pss_cons (ps_set (i := 5) scB.nd rfl (.inl rfl) (pe_op op_add (pe_op op_add (pe_op op_add (pe_op op_mul (pe_op op_mod (pv 2) pe_int) pe_int) (pe_op op_mul (pe_op op_mul pe_int (pv 1)) (pv 1))) (pe_op op_mul pe_int (pv 1))) pe_int))
      (pss_one (ps_ret (pe_lst (pa_cons (pv 3) (pa_cons (pe_op op_mod (pv 5) (pe_ix ix_list (pv 4) (pe_op op_mod (pv 1) pe_int) (fun _ _ => rfl))) pa_nil)))))))))), ?_⟩
    refine ⟨fun σ' H' => ∃ c : Int, σ' = [some (.ref a), some (.int (i : Int)), some (.int c), none, none, none] ∧ H = H', ?_, ?_⟩
    · refine ⟨_, rfl, _, rfl, a, _, rfl, .inl ha, _, _, rfl, rfl, _, rfl, ite2 (fun e => ?_) (fun e => ⟨_, rfl, rfl⟩)⟩
      have h1 : i < ns.length := by
        have z := of_decide_eq_true e
        rw [List.length_map] at z
        omega
      refine ⟨_, rfl, _, rfl, a, _, _, .int ns[i], rfl, rfl, ha, atI_nat ?_, ⟨_, rfl, rfl⟩⟩
      rw [List.getElem?_map, List.getElem?_eq_getElem h1]
      rfl
    · rintro σ' H' ⟨c, rfl, rfl⟩
      refine ⟨fun σ' H' => ∃ g : Int, σ' = [some (.ref a), some (.int (i : Int)), some (.int c), some (.int g), none, none] ∧ H = H', ?_, ?_⟩
      · exact ⟨_, rfl, c, rfl, _, 18, rfl, rfl, ⟨by decide, by decide, by decide⟩, _, _, rfl, rfl, _, rfl, ite2 (fun e => ⟨_, rfl, c, rfl, ⟨_, rfl, rfl⟩⟩) (fun e => ⟨_, rfl, rfl⟩)⟩
      · rintro σ' H' ⟨g, rfl, rfl⟩
        refine ⟨by show 8 ≤ sizeLine; decide, fun p np => ?_⟩
        have s1 := same_upd (o := .lst primes) np
        obtain ⟨z, hz, z1, z2⟩ := prime_at i
        refine ⟨_, rfl, c, 2147483647, rfl, rfl, by show (0 : Int) < 2147483647; decide, _, 50021, rfl, rfl, .inr ⟨by decide, by decide⟩, _, rfl, 70001, (i : Int), rfl, rfl, .inl ⟨by decide, by decide⟩,
          _, rfl, _, (i : Int), rfl, rfl, .inr ⟨by omega, by omega⟩, _, _, rfl, rfl, _, rfl, 9001, (i : Int), rfl, rfl, .inl ⟨by decide, by decide⟩, _, _, rfl, rfl, _, 7717, rfl, rfl, ?_⟩
        refine ⟨_, rfl, _, rfl, _, rfl, _, rfl, (i : Int), 8, rfl, rfl, by show (0 : Int) < 8; decide, p, primes, ((i % 8 : Nat) : Int), .int z, rfl, ?_, SqL.of upd_same, atI_nat hz, _, z, rfl, rfl, z1, by show 2 ≤ sizeLine; decide, fun p2 np2 => ?_⟩
        · show V.int ((i : Int) % 8) = _
          rw [Int.natCast_emod]
          rfl
        exact q _ p2 (s1.trans (same_upd np2)) (s1.free np2) ⟨_, _, upd_same, Int.emod_nonneg _ (by omega), Int.lt_of_lt_of_le (Int.emod_lt_of_pos _ z1) z2⟩
def swapW : List Value → List Value → List Value
  | _, [b, a] => [a, b]
  | _, _ => []
def swapV : List V → List V → List V
  | _, [b, a] => [a, b]
  | _, _ => []
theorem swap_rel {vs : List V} {us : List Value} : ∀ {zs : List V} {ws : List Value}, Vals vs us → Vals zs ws → Vals (swapV vs zs) (swapW us ws)
  | _, _, _, .nil => .nil
  | _, _, _, .cons _ .nil => .nil
  | _, _, _, .cons a (.cons b .nil) => .cons b (.cons a .nil)
  | _, _, _, .cons _ (.cons _ (.cons _ _)) => .nil
/-! the law -/
inductive Prs (H : Hp) : List (Int × Int) → List Addr → Prop
  | nil : Prs H [] []
  | cons {r : Int × Int} {p : Addr} {rs : List (Int × Int)} {ps : List Addr} : H p = some (.tup [.int r.1, .int r.2]) → Prs H rs ps → Prs H (r :: rs) (p :: ps)
theorem Prs.tk {H H' : Hp} (k : Tk H H') : ∀ {rs : List (Int × Int)} {ps : List Addr}, Prs H rs ps → Prs H' rs ps
  | _, _, .nil => .nil
  | _, _, .cons h t => .cons (k _ _ h) (Prs.tk k t)
theorem Prs.snoc {H : Hp} {r : Int × Int} {p : Addr} (h : H p = some (.tup [.int r.1, .int r.2])) : ∀ {rs : List (Int × Int)} {ps : List Addr}, Prs H rs ps → Prs H (rs ++ [r]) (ps ++ [p])
  | _, _, .nil => .cons h .nil
  | _, _, .cons q t => .cons q (Prs.snoc h t)
theorem Prs.length {H : Hp} : ∀ {rs : List (Int × Int)} {ps : List Addr}, Prs H rs ps → rs.length = ps.length
  | _, _, .nil => rfl
  | _, _, .cons _ t => congrArg Nat.succ (Prs.length t)
theorem Prs.get {H : Hp} : ∀ {rs : List (Int × Int)} {ps : List Addr} {n : Nat} {x : V}, Prs H rs ps → (ps.map V.ref)[n]? = some x → ∃ (p : Addr) (r : Int × Int), x = .ref p ∧ H p = some (.tup [.int r.1, .int r.2])
  | _, _, _, _, .nil, e => by simp at e
  | _, _, 0, _, .cons (r := r) (p := p) h _, e => ⟨p, r, (Option.some.inj e).symm, h⟩
  | _, _, n + 1, x, .cons _ t, e => Prs.get (n := n) (x := x) t e
def tupD (r : Int × Int) : PyData := .tuple [.int r.1, .int r.2]
theorem Prs.shs {H : Hp} : ∀ {rs : List (Int × Int)} {ps : List Addr}, Prs H rs ps → Shs H (ps.map V.ref) (rs.map tupD)
  | _, _, .nil => .nil
  | _, _, .cons h t => .cons (.tup h (.cons (.int _) (.cons (.int _) .nil))) (Prs.shs t)
def small (r : Int × Int) : Prop := (0 ≤ r.1 ∧ r.1 ≤ 999) ∧ 0 ≤ r.2 ∧ r.2 ≤ 7
theorem log_small {i : Int} (h0 : 0 ≤ i) (h1 : i ≤ 999) : i.natAbs.log2 < 1920 := by
  have h2 : i.natAbs < 2 ^ 10 := by
    have : i.natAbs ≤ 999 := by omega
    exact Nat.lt_of_le_of_lt this (by decide)
  by_cases e : i.natAbs = 0
  · rw [e]
    decide
  · have := (Nat.log2_lt e).mpr h2
    omega
theorem fine_all : ∀ rs : List (Int × Int), (∀ r ∈ rs, small r) → fineAll (rs.map tupD) = true
  | [], _ => rfl
  | r :: rs, h => by
    have h1 := h r (List.mem_cons_self ..)
    have h2 := fine_all rs fun q hq => h q (List.mem_cons_of_mem _ hq)
    simp only [List.map_cons, fineAll, tupD, fine, Bool.and_true, Bool.and_eq_true, decide_eq_true_eq]
    exact ⟨⟨log_small h1.1.1 h1.1.2, log_small h1.2.1 (by have := h1.2.2; omega)⟩, h2⟩
theorem bulk_all : ∀ rs : List (Int × Int), PyData.bulkAll (rs.map tupD) = 3 * rs.length
  | [] => rfl
  | r :: rs => by
    simp only [List.map_cons, PyData.bulkAll, tupD, PyData.bulk, bulk_all rs, List.length_cons]
    omega
theorem depth_all : ∀ rs : List (Int × Int), PyData.depthAll (rs.map tupD) ≤ 2
  | [] => by decide
  | r :: rs => by
    have := depth_all rs
    simp only [List.map_cons, PyData.depthAll, tupD, PyData.depth]
    omega
theorem gt2_not {r s : Int × Int} (h : gt2 r.1 r.2 s.1 s.2 = true) : gt2 s.1 s.2 r.1 r.2 = false := by
  unfold gt2 at h ⊢
  have := of_decide_eq_true h
  exact decide_eq_false (by omega)
def spLaw (K : PySem.W.Frag) : Sp := fun vs H Q _ => ∃ (a : Addr) (ns : List Int), vs = [.ref a] ∧ SqL K H a (ns.map V.int) ∧ ns.length ≤ 63 ∧ ∀ H', Q (.bl true) H'
theorem ok_law {f fG fB fT : Addr} {fd fdG fdB fdT : FuncData} (F : Fun K "law" "law" sLaw f fd) (FG : Fun K "is_greater" "is_greater" sGr fG fdG) (FB : Fun K "_law_bag" "_law_bag" sBag fB fdB) (FT : Fun K "_law_take" "_law_take" sTake fT fdT)
    (bG : Binds K fdG ["rank", "other"] []) (kG : KBn K fdG ["rank", "other"] 0 ["other", "rank"] swapW swapV) (bB : Binds K fdB ["_law_script", "_law_at"] []) (bT : Binds K fdT ["_law_bag_here", "_law_many"] [])
    (gG : mg "is_greater" = some (.ref fG)) (gB : mg "_law_bag" = some (.ref fB)) (gT : mg "_law_take" = some (.ref fT))
    (ml : mg "len" = none) (ma : mg "abs" = none) (mr : mg "range" = none) (mx : mg "max" = none) (mn : mg "min" = none) (mp : mg "repr" = none) (mi : mg "isinstance" = none) (mb : mg "bool" = none) : FnG P w K mg base CX0 2 f fd ["_law_script"] (spLaw K) := by
  have GG : FnOk P w K mg base CX0 1 fG fdG ["rank", "other"] (spGr K) := ok_gr FG
  have GB : FnOk P w K mg base CX0 1 fB fdB ["_law_script", "_law_at"] (spBag K) := ok_bag FB ml ma
  have GT : FnOk P w K mg base CX0 1 fT fdT ["_law_bag_here", "_law_many"] spTake := ok_take FT
  refine fnG0 F scL (fun vs H Q E h => ?_) (fun cdv A outer s H vs Q E gd hr h => ?_)
  · obtain ⟨a, ns, rfl, _⟩ := h
    rfl
  · obtain ⟨a, ns, rfl, hS, hlen, q⟩ := h
    refine ⟨_, pss_cons (ps_for PassesOwn.never rfl (pi_range1 rfl mr (pa_cons (pe_callB (call_max2 rfl) (by rfl) mx (by decide +kernel) (pa_cons pe_int (pa_cons (pe_callB (call_min2 rfl) (by rfl) mn (by decide +kernel) (pa_cons pe_int (pa_cons (pe_callB call_len_seq (by rfl) ml PySem.boot_len (pa_cons (pv 0) pa_nil)) pa_nil))) pa_nil))) pa_nil)) (pg_name (i := 1) scL.nd rfl (.inl rfl))
        (pss_cons (ps_set (i := 2) scL.nd rfl (.inl rfl) (pe_call GB hr (by rfl) gB FB.kp bB .nil pass0 (pa_cons (pv 0) (pa_cons (pv 1) pa_nil))))
        (pss_cons (ps_set (i := 3) scL.nd rfl (.inl rfl) (pe_lst pa_nil))
        (pss_cons (ps_for PassesOwn.never rfl (pi_range1 rfl mr (pa_cons (pe_op op_add pe_int (pe_call GT hr (by rfl) gT FT.kp bT .nil pass0 (pa_cons (pv 2) (pa_cons pe_int pa_nil)))) pa_nil)) (pg_name (i := 4) scL.nd rfl (.inl rfl))
          (pss_cons (ps_set (i := 5) scL.nd rfl (.inl rfl) (pe_ix ix_list (pe_lst (pa_cons pe_int (pa_cons pe_int (pa_cons (pe_call GT hr (by rfl) gT FT.kp bT .nil pass0 (pa_cons (pv 2) (pa_cons pe_int pa_nil))) (pa_cons (pe_call GT hr (by rfl) gT FT.kp bT .nil pass0 (pa_cons (pv 2) (pa_cons pe_int pa_nil))) pa_nil))))) (pe_call GT hr (by rfl) gT FT.kp bT .nil pass0 (pa_cons (pv 2) (pa_cons pe_int pa_nil))) (fun _ _ => rfl)))
          (pss_one (ps_expr (pe_bm PySem.F.plainAttrs_list PySem.F.slot_list_append PySem.F.type_list_append mt_append (pv 3) (pa_cons (pe_tup (pa_cons (pv 5) (pa_cons (pe_ix ix_list (pe_lst (pa_cons pe_int (pa_cons pe_int (pa_cons (pe_call GT hr (by rfl) gT FT.kp bT .nil pass0 (pa_cons (pv 2) (pa_cons pe_int pa_nil))) pa_nil)))) (pe_call GT hr (by rfl) gT FT.kp bT .nil pass0 (pa_cons (pv 2) (pa_cons pe_int pa_nil))) (fun _ _ => rfl)) pa_nil))) pa_nil))))))
        (pss_cons (ps_expr (pe_bm PySem.F.plainAttrs_list PySem.F.slot_list_append PySem.F.type_list_append mt_append (pv 3) (pa_cons (pe_ix ix_list (pv 3) pe_int (fun _ _ => rfl)) pa_nil)))
        (pss_cons (ps_set (i := 6) scL.nd rfl (.inl rfl) (pe_callB (call_repr gd hr.units) (by rfl) mp (by decide +kernel) (pa_cons (pv 3) pa_nil)))
        (pss_cons (ps_for PassesOwn.never rfl (pi_list (pv 3)) (pg_name (i := 7) scL.nd rfl (.inl rfl))
          (pss_one (ps_for PassesOwn.never rfl (pi_list (pv 3)) (pg_name (i := 8) scL.nd rfl (.inl rfl))
            (C8.pss_cut (ps_set (i := 9) scL.nd rfl (.inl rfl) (pe_or (pe_cmpR op_gt (pe_ix ix_tup (pv 7) pe_int (fun _ _ => rfl)) (pe_ix ix_tup (pv 8) pe_int (fun _ _ => rfl)) (nomark _))
              (pe_one (pe_and (pe_cmpR op_eq (pe_ix ix_tup (pv 7) pe_int (fun _ _ => rfl)) (pe_ix ix_tup (pv 8) pe_int (fun _ _ => rfl)) (nomark _)) (pe_one (pe_cmpR op_gt (pe_ix ix_tup (pv 7) pe_int (fun _ _ => rfl)) (pe_ix ix_tup (pv 8) pe_int (fun _ _ => rfl)) (nomark _)))))))
            (pss_cons (ps_set (i := 10) scL.nd rfl (.inl rfl) (pe_call GG hr (by rfl) gG FG.kp bG .nil pass0 (pa_cons (pv 7) (pa_cons (pv 8) pa_nil))))
            (pss_cons (ps_if (PW.pt (pw_or (pt_not (pt_val (pe_callB call_isi (by rfl) mi (by decide +kernel) (pa_cons (pv 10) (pa_cons (pe_bltn (v := .ty "bool") (by rfl) mb (by decide +kernel) rfl) pa_nil)))))
                (pw_or (pt_cmpR op_ne (pv 10) (pv 9) (nomark _)) (pw_or1 (pt_cmpR op_ne (pe_callK0 GG hr (by rfl) gG FG.kp kG pass0 (pk_cons (pv 8) (pk_cons (pv 7) pk_nil))) (pv 9) (nomark _))))))
              (pss_one (ps_ret pe_bl)) pss_nil)
            (pss_one (ps_if (PW.pt (pw_and (pt_val (pv 10)) (pw_and1 (pt_val (pe_call GG hr (by rfl) gG FG.kp bG .nil pass0 (pa_cons (pv 8) (pa_cons (pv 7) pa_nil))))))) (pss_one (ps_ret pe_bl)) pss_nil))))))))
        (pss_one (ps_if (pt_cmpR op_ne (pe_callB (call_repr gd hr.units) (by rfl) mp (by decide +kernel) (pa_cons (pv 3) pa_nil)) (pv 6) (nomark _)) (pss_one (ps_ret pe_bl)) pss_nil)))))))))
      (pss_one (ps_ret pe_bl)), ?_⟩
    -- the turns of the outer loop
    have tn := turns (L := (ns.map V.int).length) (m := 4) (by decide)
    refine ⟨_, rfl, a, _, rfl, .inl hS, 4, _, rfl, 1, _, rfl, _, rfl, by omega, by omega, for_range (n := _) (fun _ σ H3 => ∃ y1 y2 y3 y4 y5 y6 y7 y8 y9 y10, σ = [some (.ref a), y1, y2, y3, y4, y5, y6, y7, y8, y9, y10] ∧ SqL K H3 a (ns.map V.int)) ⟨_, _, _, _, _, _, _, _, _, _, rfl, hS⟩ (fun i σ H1 hi hW => ?_) (fun σ H1 _ => q _)⟩
    obtain ⟨y1, y2, y3, y4, y5, y6, y7, y8, y9, y10, rfl, hS1⟩ := hW
    rw [Int.zero_add]
    refine ⟨_, rfl, _, rfl, a, ns, i, rfl, hS1, by omega, fun H2 bg sm nb hb => ?_⟩
    refine ⟨Nat.zero_le _, fun rk nr => ?_⟩
    have nrb : rk ≠ bg := hb.ne nr
    have k1 : Kp bg H1 (upd H2 rk (.lst [])) := (Same.kp sm).trans (Kp.new nr)
    -- range(2 + take 8)
    refine ⟨_, rfl, bg, 8, rfl, hb.new nr, ⟨by decide, by decide⟩, fun d H3 d0 d1 hb3 k3 => ?_⟩
    refine ⟨2, d, rfl, rfl, _, rfl, by omega, by omega, for_range (n := _) (fun n σ H4 => ∃ (rs : List (Int × Int)) (ps : List Addr) (y4 y5 y6 y7 y8 y9 y10 : Option V),
      σ = [some (.ref a), some (.int (i : Int)), some (.ref bg), some (.ref rk), y4, y5, y6, y7, y8, y9, y10] ∧ Kp bg H1 H4 ∧ Bag H4 bg ∧ H4 rk = some (.lst (ps.map V.ref)) ∧ Prs H4 rs ps ∧ rs.length = n ∧ ∀ r ∈ rs, small r)
      ⟨[], [], _, _, _, _, _, _, _, rfl, k1.trans k3, hb3, k3 _ _ nrb upd_same, .nil, rfl, fun _ h => nomatch h⟩ (fun n σ H4 hn hW => ?_) (fun σ H4 hW => ?_)⟩
    · obtain ⟨rs, ps, y4, y5, y6, y7, y8, y9, y10, rfl, k4, hb4, hk4, hp4, hl4, hs4⟩ := hW
      -- the mark
      refine ⟨_, rfl, bg, 3, rfl, hb4, ⟨by decide, by decide⟩, fun d1 H5 d10 d11 hb5 k5 => ?_⟩
      refine ⟨_, rfl, bg, 1000, rfl, hb5, ⟨by decide, by decide⟩, fun d2 H6 d20 d21 hb6 k6 => ?_⟩
      refine ⟨by show 4 ≤ sizeLine; decide, fun l1 nl1 => ?_⟩
      refine ⟨_, rfl, bg, 4, rfl, hb6.new nl1, ⟨by decide, by decide⟩, fun d3 H7 d30 d31 hb7 k7 => ?_⟩
      have pick : ∃ v : Int, atI [V.int 0, V.int 999, V.int d1, V.int d2] d3 = some (.int v) ∧ 0 ≤ v ∧ v ≤ 999 := by
        obtain rfl | rfl | rfl | rfl : d3 = 0 ∨ d3 = 1 ∨ d3 = 2 ∨ d3 = 3 := by omega
        · exact ⟨0, rfl, by decide, by decide⟩
        · exact ⟨999, rfl, by decide, by decide⟩
        · exact ⟨d1, rfl, by omega, by omega⟩
        · exact ⟨d2, rfl, by omega, by omega⟩
      obtain ⟨v, hv, v0, v1⟩ := pick
      have nl1b : l1 ≠ bg := hb6.ne nl1
      refine ⟨l1, _, d3, .int v, rfl, rfl, SqL.of (k7 _ _ nl1b upd_same), hv, ?_⟩
      have k47 : Kp bg H4 H7 := ((k5.trans k6).trans (Kp.new nl1)).trans k7
      have hk7 := k47 _ _ nrb hk4
      -- ranks.append((mark, ..))
      refine ⟨.ref rk, rfl, .inl ⟨rfl, _, SqL.of hk7⟩, ?_⟩
      refine ⟨_, rfl, _, rfl, bg, 8, rfl, hb7, ⟨by decide, by decide⟩, fun e1 H8 e10 e11 hb8 k8 => ?_⟩
      refine ⟨by show 3 ≤ sizeLine; decide, fun l2 nl2 => ?_⟩
      refine ⟨_, rfl, bg, 3, rfl, hb8.new nl2, ⟨by decide, by decide⟩, fun e2 H9 e20 e21 hb9 k9 => ?_⟩
      have pick2 : ∃ u : Int, atI [V.int 0, V.int 7, V.int e1] e2 = some (.int u) ∧ 0 ≤ u ∧ u ≤ 7 := by
        obtain rfl | rfl | rfl : e2 = 0 ∨ e2 = 1 ∨ e2 = 2 := by omega
        · exact ⟨0, rfl, by decide, by decide⟩
        · exact ⟨7, rfl, by decide, by decide⟩
        · exact ⟨e1, rfl, by omega, by omega⟩
      obtain ⟨u, hu, u0, u1⟩ := pick2
      have nl2b : l2 ≠ bg := hb8.ne nl2
      refine ⟨l2, _, e2, .int u, rfl, rfl, SqL.of (k9 _ _ nl2b upd_same), hu, ?_⟩
      refine ⟨by show 2 ≤ sizeLine; decide, fun tp ntp => ?_⟩
      have k49 : Kp bg H4 H9 := ((k47.trans k8).trans (Kp.new nl2)).trans k9
      have hk9 := k49 _ _ nrb hk4
      have ntk : rk ≠ tp := ne_of_none hk9 ntp
      have hkA : (upd H9 tp (.tup [.int v, .int u])) rk = some (.lst (ps.map V.ref)) := by
        rw [upd_ne ntk]
        exact hk9
      refine ⟨rk, _, _, rfl, rfl, hkA, ?_, ?_⟩
      · rw [List.length_map, ← hp4.length, hl4]
        exact small1000 (by omega)
      · refine ⟨rs ++ [(v, u)], ps ++ [tp], _, _, _, _, _, _, _, rfl, ?_, ?_, ?_, ?_, ?_, ?_⟩
        · refine ((k4.trans k49).trans (Kp.new ntp)).put ?_
          exact sm.free nr
        · exact (hb9.new ntp).upd nrb
        · rw [upd_same, List.map_append]
          rfl
        · refine Prs.snoc (r := (v, u)) ?_ (hp4.tk ?_)
          · rw [upd_ne ntk.symm]
            exact upd_same
          · exact (k49.tk hb4).trans ((Same.tk (same_upd ntp)).trans (Tk.lst hkA))
        · rw [List.length_append, hl4]
          rfl
        · intro r hr
          rcases List.mem_append.mp hr with h | h
          · exact hs4 r h
          · obtain rfl := List.mem_singleton.mp h
            exact ⟨⟨v0, v1⟩, u0, u1⟩
    · obtain ⟨rs, ps, y4, y5, y6, y7, y8, y9, y10, rfl, k4, hb4, hk4, hp4, hl4, hs4⟩ := hW
      obtain ⟨r0, rs, rfl⟩ : ∃ r t, rs = r :: t := by
        cases rs with
        | nil =>
          rw [List.length_nil] at hl4
          omega
        | cons r t => exact ⟨r, t, rfl⟩
      cases hp4 with
      | cons h0 hp4 =>
      rename_i p0 ps
      -- ranks.append(ranks[0])
      have len0 := hp4.length
      rw [List.length_cons] at hl4
      refine ⟨.ref rk, rfl, .inl ⟨rfl, _, SqL.of hk4⟩, _, rfl, rk, _, 0, .ref p0, rfl, rfl, SqL.of hk4, atI_nat (j := 0) rfl, rk, _, _, rfl, rfl, hk4, ?_, ?_⟩
      · rw [List.length_map, List.length_cons]
        exact small1000 (by omega)
      generalize hHc : upd H4 rk (.lst ((p0 :: ps).map V.ref ++ [.ref p0])) = Hc
      have hkc : Hc rk = some (.lst (((p0 :: ps) ++ [p0]).map V.ref)) := by
        rw [← hHc, List.map_append]
        exact upd_same
      have hpc : Prs Hc ((r0 :: rs) ++ [r0]) ((p0 :: ps) ++ [p0]) := by
        have tk : Tk H4 Hc := by
          rw [← hHc]
          exact Tk.lst hk4
        exact Prs.snoc (tk _ _ h0) (.cons (tk _ _ h0) (hp4.tk tk))
      have hsc : ∀ r ∈ (r0 :: rs) ++ [r0], small r := by
        intro r hr
        rcases List.mem_append.mp hr with h | h
        · exact hs4 r h
        · obtain rfl := List.mem_singleton.mp h
          exact hs4 r (List.mem_cons_self ..)
      have kc : Kp bg H1 Hc := by
        rw [← hHc]
        exact k4.put (sm.free nr)
      have lenc : ((r0 :: rs) ++ [r0]).length ≤ 20 := by
        rw [List.length_append, List.length_cons, List.length_cons, List.length_nil]
        omega
      generalize hR : (r0 :: rs) ++ [r0] = R at hpc hsc lenc
      generalize hP : (p0 :: ps) ++ [p0] = T at hpc hkc
      have shown : ∀ H5 : Hp, Same Hc H5 → Sh H5 (.ref rk) (.list (R.map tupD)) := fun H5 sH => .lst (sH _ _ hkc) (hpc.tk (Same.tk sH)).shs
      have fineR : fine (.list (R.map tupD)) = true := by
        simp only [fine]
        exact fine_all R hsc
      have depR : (PyData.list (R.map tupD)).depth ≤ 60 := by
        have := depth_all R
        simp only [PyData.depth]
        omega
      have bulR : (PyData.list (R.map tupD)).bulk ≤ 8000 := by
        simp only [PyData.bulk, bulk_all]
        omega
      -- shown = repr(ranks)
      refine ⟨.ref rk, rfl, _, _, rfl, shown _ (Same.refl _), fineR, depR, bulR, ?_⟩
      -- for one in ranks
      refine ⟨.ref rk, rfl, rk, rfl, ⟨_, SqL.of hkc⟩, for_list (xs := T.map V.ref) (fun _ σ H5 => ∃ y4 y5 y7 y8 y9 y10 : Option V,
        σ = [some (.ref a), some (.int (i : Int)), some (.ref bg), some (.ref rk), y4, y5, some (.str (PyData.list (R.map tupD)).shown), y7, y8, y9, y10] ∧ Same Hc H5) ⟨_, _, _, _, _, _, rfl, Same.refl _⟩ (fun n σ H5 _ hW => ?_) (fun n x σ H5 hx hW => ?_) (fun σ H5 hW => ?_)⟩
      · obtain ⟨_, _, _, _, _, _, _, s5⟩ := hW
        exact SqL.of (s5 _ _ hkc)
      · obtain ⟨z4, z5, z7, z8, z9, z10, rfl, s5⟩ := hW
        obtain ⟨p1, r1, rfl, h1⟩ := hpc.get hx
        refine ⟨.ref rk, rfl, rk, rfl, ⟨_, SqL.of (s5 _ _ hkc)⟩, for_list (xs := T.map V.ref) (fun _ σ H6 => ∃ y4 y5 y8 y9 y10 : Option V,
          σ = [some (.ref a), some (.int (i : Int)), some (.ref bg), some (.ref rk), y4, y5, some (.str (PyData.list (R.map tupD)).shown), some (.ref p1), y8, y9, y10] ∧ Same Hc H6) ⟨_, _, _, _, _, rfl, s5⟩ (fun n σ H6 _ hW => ?_) (fun n x σ H6 hx hW => ?_) (fun σ H6 hW => ?_)⟩
        · obtain ⟨_, _, _, _, _, _, s6⟩ := hW
          exact SqL.of (s6 _ _ hkc)
        · obtain ⟨w4, w5, w8, w9, w10, rfl, s6⟩ := hW
          obtain ⟨p2, r2, rfl, h2⟩ := hpc.get hx
          have e1 : SqT K H6 p1 [.int r1.1, .int r1.2] := SqT.of (s6 _ _ h1)
          have e2 : SqT K H6 p2 [.int r2.1, .int r2.2] := SqT.of (s6 _ _ h2)
          -- due
          refine ⟨fun σ' H' => σ' = [some (.ref a), some (.int (i : Int)), some (.ref bg), some (.ref rk), w4, w5, some (.str (PyData.list (R.map tupD)).shown), some (.ref p1), some (.ref p2), some (.bl (gt2 r1.1 r1.2 r2.1 r2.2)), w10] ∧ H6 = H', ?_, ?_⟩
          · refine ⟨_, rfl, p1, _, 0, .int r1.1, rfl, rfl, e1, rfl, _, rfl, p2, _, 0, .int r2.1, rfl, rfl, e2, rfl, _, _, rfl, rfl, _, rfl, ite2 (fun e => ?_) (fun e => ?_)⟩
            · refine ⟨?_, rfl⟩
              have z : gt2 r1.1 r1.2 r2.1 r2.2 = true := decide_eq_true (.inl (of_decide_eq_true e))
              rw [z]
              rfl
            · have e' : ¬ r2.1 < r1.1 := fun z => e (decide_eq_true z)
              refine ⟨_, rfl, p1, _, 0, .int r1.1, rfl, rfl, e1, rfl, _, rfl, p2, _, 0, .int r2.1, rfl, rfl, e2, rfl, rfl, _, rfl, ite2 (fun e3 => ?_) (fun e3 => ?_)⟩
              · have e4 : r1.1 = r2.1 := V.int.inj (of_decide_eq_true e3)
                refine ⟨_, rfl, p1, _, 1, .int r1.2, rfl, rfl, e1, rfl, _, rfl, p2, _, 1, .int r2.2, rfl, rfl, e2, rfl, _, _, rfl, rfl, ?_, rfl⟩
                have z : gt2 r1.1 r1.2 r2.1 r2.2 = decide (r2.2 < r1.2) := by
                  unfold gt2
                  by_cases q5 : r2.2 < r1.2
                  · rw [decide_eq_true q5, decide_eq_true (.inr ⟨e4, q5⟩)]
                  · rw [decide_eq_false q5, decide_eq_false (by omega)]
                rw [z]
                rfl
              · have e4 : ¬ r1.1 = r2.1 := fun z => e3 (decide_eq_true (congrArg V.int z))
                refine ⟨?_, rfl⟩
                have z : gt2 r1.1 r1.2 r2.1 r2.2 = false := decide_eq_false (by omega)
                rw [z]
                rfl
          · rintro σ' H' ⟨rfl, rfl⟩
            -- told
            refine ⟨_, rfl, _, rfl, p1, p2, _, _, _, _, rfl, e1, e2, fun H7 s7 => ?_⟩
            have e17 := seqT s7 e1
            have e27 := seqT s7 e2
            -- the first test
            refine ⟨_, rfl, _, _, _, _, true, rfl, .ty _, .base (.bl _), kit_ty (by decide +kernel), true, rfl, iteF ?_⟩
            refine ⟨_, rfl, _, rfl, rfl, _, rfl, iteNS rfl ?_⟩
            refine ⟨_, rfl, _, rfl, rfl, p1, p2, _, _, _, _, rfl, e17, e27, fun H8 s8 => ?_⟩
            refine ⟨_, rfl, rfl, _, rfl, iteNS rfl ?_⟩
            have s68 := s7.trans s8
            -- the second test
            refine ⟨_, rfl, _, rfl, ite2 (fun e => ?_) (fun e => iteF ?_)⟩
            · refine ⟨_, rfl, _, rfl, p2, p1, _, _, _, _, rfl, seqT s8 e27, seqT s8 e17, fun H9 s9 => ?_⟩
              refine ⟨_, rfl, ?_⟩
              rw [gt2_not e]
              exact iteF ⟨_, _, _, _, _, rfl, s6.trans (s68.trans s9)⟩
            · exact ⟨_, _, _, _, _, rfl, s6.trans s68⟩
        · obtain ⟨w4, w5, w8, w9, w10, rfl, s6⟩ := hW
          exact ⟨_, _, _, _, _, _, rfl, s6⟩
      · obtain ⟨z4, z5, z7, z8, z9, z10, rfl, s5⟩ := hW
        refine ⟨.ref rk, rfl, _, _, rfl, shown _ s5, fineR, depR, bulR, _, rfl, rfl, _, rfl, iteNS rfl ?_⟩
        exact ⟨_, _, _, _, _, _, _, _, _, _, rfl, (kc.trans (Same.kp s5)).sqn nb hS1⟩
end
theorem all_mk {l : PySem.W.OpenLaw} {w : World} {K : PySem.W.Frag} {h : Heap} {mg : Str → Option Value} {fa f1 f2 f3 f4 : Addr} (X : K.In h) (G : h.Ns mainGlobals mg) (hfa : mg "law" = some (.ref fa))
    {od1 an1 od2 an2 od3 an3 od4 an4 : Option Addr} {sl1 sl2 sl3 sl4 : Array (Option Value)} {oc1 kV1 dc1 pm1 cd1 ct1 oc2 kV2 dc2 pm2 cd2 ct2 oc3 kV3 dc3 pm3 cd3 ct3 oc4 kV4 dc4 pm4 cd4 ct4 : Value}
    (a1 : PySem.W.nsIn K mainGlobals "is_greater" = some (some (.ref f1))) (l1 : K.lookup f1 = some ⟨oc1, od1, .func (PySem.W.fnOf "is_greater" "is_greater" (defArgs sGr) (defBody sGr) (defScope sGr) .none kV1 dc1 pm1 an1 cd1 ct1), sl1⟩) (c1 : PySem.W.codeIn K cd1 "is_greater" = true) (k1 : PySem.W.keepIn K (.ref f1) = true)
    (a2 : PySem.W.nsIn K mainGlobals "_law_bag" = some (some (.ref f2))) (l2 : K.lookup f2 = some ⟨oc2, od2, .func (PySem.W.fnOf "_law_bag" "_law_bag" (defArgs sBag) (defBody sBag) (defScope sBag) .none kV2 dc2 pm2 an2 cd2 ct2), sl2⟩) (c2 : PySem.W.codeIn K cd2 "_law_bag" = true) (k2 : PySem.W.keepIn K (.ref f2) = true)
    (a3 : PySem.W.nsIn K mainGlobals "_law_take" = some (some (.ref f3))) (l3 : K.lookup f3 = some ⟨oc3, od3, .func (PySem.W.fnOf "_law_take" "_law_take" (defArgs sTake) (defBody sTake) (defScope sTake) .none kV3 dc3 pm3 an3 cd3 ct3), sl3⟩) (c3 : PySem.W.codeIn K cd3 "_law_take" = true) (k3 : PySem.W.keepIn K (.ref f3) = true)
    (a4 : PySem.W.nsIn K mainGlobals "law" = some (some (.ref f4))) (l4 : K.lookup f4 = some ⟨oc4, od4, .func (PySem.W.fnOf "law" "law" (defArgs sLaw) (defBody sLaw) (defScope sLaw) .none kV4 dc4 pm4 an4 cd4 ct4), sl4⟩) (c4 : PySem.W.codeIn K cd4 "law" = true) (k4 : PySem.W.keepIn K (.ref f4) = true)
    (z1 : PySem.W.nsIn K mainGlobals "len" = some none) (z2 : PySem.W.nsIn K mainGlobals "abs" = some none) (z3 : PySem.W.nsIn K mainGlobals "range" = some none) (z4 : PySem.W.nsIn K mainGlobals "max" = some none) (z5 : PySem.W.nsIn K mainGlobals "min" = some none) (z6 : PySem.W.nsIn K mainGlobals "repr" = some none) (z7 : PySem.W.nsIn K mainGlobals "isinstance" = some none) (z8 : PySem.W.nsIn K mainGlobals "bool" = some none) :
    ∃ fd : FuncData, (∀ (s : Shared) (v : Value), BindsTo s fd ⟨[v], []⟩ [("_law_script", v)]) ∧ ∀ base : Heap, K.In base → base.Ns mainGlobals mg → FnG l.prog w K mg base CX0 2 fa fd ["_law_script"] (spLaw K) := by
  have e := hfa.symm.trans (PySem.W.mg_of X G a4)
  cases e
  have F1 := fun_mk (st := sGr) l1 c1 k1
  have F2 := fun_mk (st := sBag) l2 c2 k2
  have F3 := fun_mk (st := sTake) l3 c3 k3
  have F4 := fun_mk (st := sLaw) l4 c4 k4
  have b1 := F1.binds (ps := ["rank", "other"]) fun _ _ _ _ _ _ us hl => match us, hl with | [_, _], _ => rfl
  have b2 := F2.binds (ps := ["_law_script", "_law_at"]) fun _ _ _ _ _ _ us hl => match us, hl with | [_, _], _ => rfl
  have b3 := F3.binds (ps := ["_law_bag_here", "_law_many"]) fun _ _ _ _ _ _ us hl => match us, hl with | [_, _], _ => rfl
  have q1 : KBn K (PySem.W.fnOf "is_greater" "is_greater" (defArgs sGr) (defBody sGr) (defScope sGr) .none kV1 dc1 pm1 an1 cd1 ct1) ["rank", "other"] 0 ["other", "rank"] swapW swapV :=
    ⟨fun s us ws _ h1 h2 => match us, h1, ws, h2 with | [], _, [_, _], _ => .of_eq rfl, swap_rel⟩
  exact ⟨PySem.W.fnOf "law" "law" (defArgs sLaw) (defBody sLaw) (defScope sLaw) .none kV4 dc4 pm4 an4 cd4 ct4, fun s v => .of_eq rfl, fun base _ _ => ok_law F4 F1 F2 F3 b1 q1 b2 b3 (PySem.W.mg_of X G a1) (PySem.W.mg_of X G a2) (PySem.W.mg_of X G a3)
    (PySem.W.mg_none_of X G z1) (PySem.W.mg_none_of X G z2) (PySem.W.mg_none_of X G z3) (PySem.W.mg_none_of X G z4) (PySem.W.mg_none_of X G z5) (PySem.W.mg_none_of X G z6) (PySem.W.mg_none_of X G z7) (PySem.W.mg_none_of X G z8)⟩
end K03
open PySem PySem.W PyProof.Rows
set_option maxHeartbeats 0 in
theorem PySem.Challenge.cw_wirenames_k03_ranks_holds : PySem.Challenge.rw_wirenames_k03_ranks.Holds := by
  w_on; o_law; k_head; (case hw => w_witness2)
  k_fill
  refine Gd.walkG (l := PySem.Challenge.rw_wirenames_k03_ranks) (n := 63) (k := 2) (x := "_law_script") (sp := K03.spLaw) rfl (by decide) rfl ⟨rfl, by decide, by decide⟩ (fun w h Y => PySem.W.kIn_of Y) ?F (fun _ _ a ns hl hS => ⟨a, ns, rfl, hS, hl, fun _ => rfl⟩)
  case F =>
    intro w mg fa h KX G hmg
    refine' K03.all_mk KX G hmg ?a1 ?l1 ?c1 ?k1 ?a2 ?l2 ?c2 ?k2 ?a3 ?l3 ?c3 ?k3 ?a4 ?l4 ?c4 ?k4 ?z1 ?z2 ?z3 ?z4 ?z5 ?z6 ?z7 ?z8
    (case a1 => k_is); (case l1 => k_is); (case c1 => k_is); (case k1 => k_is); (case a2 => k_is); (case l2 => k_is); (case c2 => k_is); (case k2 => k_is); (case a3 => k_is); (case l3 => k_is); (case c3 => k_is); (case k3 => k_is); (case a4 => k_is); (case l4 => k_is); (case c4 => k_is); (case k4 => k_is); (case z1 => k_is); (case z2 => k_is); (case z3 => k_is); (case z4 => k_is); (case z5 => k_is); (case z6 => k_is); (case z7 => k_is); (case z8 => k_is)
