import PyProof.Rows.All
import Wide.All
import OpenK.AllK
import Wide.FinOn
import HandS.ForMost
import PyProof.ReprRoads
import PyProof.ReprBulk
import PyProof.Rows.RegStrFacts
import HandS.TupLe
import HandS.IsInst
import HandS.Defaults
import HandS.Codes
import HandS.Walk
import HandS.MakeKwOnly
import HandS.Zip
import PySem.Challenge.RW_wirenames_k09_whole_enough_by_the_least
set_option Elab.async false
set_option linter.all false
set_option maxRecDepth 100000
set_option maxHeartbeats 4000000
namespace Gd
open PySem PySem.Spec PyProof.Rows L2
/-! data read off the abstract heap -/
mutual
inductive Sh (H : Hp) : V → PyData → Prop
  | non : Sh H .non .none
  | bl (b : Bool) : Sh H (.bl b) (.bool b)
  | int (i : Int) : Sh H (.int i) (.int i)
  | str (x : Str) : Sh H (.str x) (.str x)
  | lst {a : Addr} {xs : List V} {ds : List PyData} : H a = some (.lst xs) → Shs H xs ds → Sh H (.ref a) (.list ds)
  | tup {a : Addr} {xs : List V} {ds : List PyData} : H a = some (.tup xs) → Shs H xs ds → Sh H (.ref a) (.tuple ds)
inductive Shs (H : Hp) : List V → List PyData → Prop
  | nil : Shs H [] []
  | cons {x : V} {d : PyData} {xs : List V} {ds : List PyData} : Sh H x d → Shs H xs ds → Shs H (x :: xs) (d :: ds)
end
section
variable {P : Program} {w : World} {H : Hp} {h : Heap}
mutual
theorem Sh.reads (ok : HOk P w H h) : ∀ {v : V} {d : PyData} {u : Value}, Sh H v d → RelV v u → ∃ as, Reads h u d as
  | _, _, _, .non, r => by
    cases (show _ = Value.none from r)
    exact ⟨_, .none⟩
  | _, _, _, .bl b, r => by
    cases (show _ = Value.bool b from r)
    exact ⟨_, .bool b⟩
  | _, _, _, .int i, r => by
    obtain ⟨t, e⟩ := (show ∃ t, _ = Value.int i t from r)
    cases e
    exact ⟨_, .int i t⟩
  | _, _, _, .str x, r => by
    obtain ⟨t, e⟩ := (show ∃ t, _ = Value.str x t from r)
    cases e
    exact ⟨_, .str x t⟩
  | _, _, _, .lst (a := a) e hs, r => by
    cases (show _ = Value.ref a from r)
    obtain ⟨_, its, n, vs, g⟩ := ok a _ e
    obtain ⟨as, q⟩ := Shs.reads ok hs vs
    exact ⟨_, .list g rfl rfl q⟩
  | _, _, _, .tup (a := a) e hs, r => by
    cases (show _ = Value.ref a from r)
    obtain ⟨_, its, vs, o, g1, g2, n, g3⟩ := ok a _ e
    obtain ⟨as, q⟩ := Shs.reads ok hs vs
    exact ⟨_, .tuple g1 g2 g3 q⟩
theorem Shs.reads (ok : HOk P w H h) : ∀ {xs : List V} {ds : List PyData} {us : List Value}, Shs H xs ds → Vals xs us → ∃ as, ReadsAll h us ds as
  | _, _, _, .nil, r => by
    cases r
    exact ⟨_, .nil⟩
  | _, _, _, .cons h1 h2, r => by
    cases r with
    | cons r1 r2 =>
      obtain ⟨as, q⟩ := Sh.reads ok h1 r1
      obtain ⟨bs, q2⟩ := Shs.reads ok h2 r2
      exact ⟨_, .cons q q2⟩
end
mutual
theorem Sh.plain : ∀ {v : V} {d : PyData}, Sh H v d → d.hasDict = false
  | _, _, .non => rfl
  | _, _, .bl _ => rfl
  | _, _, .int _ => rfl
  | _, _, .str _ => rfl
  | _, _, .lst _ hs => by
    simp only [PyData.hasDict]
    exact Shs.plain hs
  | _, _, .tup _ hs => by
    simp only [PyData.hasDict]
    exact Shs.plain hs
theorem Shs.plain : ∀ {xs : List V} {ds : List PyData}, Shs H xs ds → PyData.hasDictAll ds = false
  | _, _, .nil => rfl
  | _, _, .cons h1 h2 => by
    simp only [PyData.hasDictAll, Sh.plain h1, Shs.plain h2, Bool.or_false]
end
end
mutual
theorem Sh.same {H H' : Hp} (s : Same H H') : ∀ {v : V} {d : PyData}, Sh H v d → Sh H' v d
  | _, _, .non => .non
  | _, _, .bl b => .bl b
  | _, _, .int i => .int i
  | _, _, .str x => .str x
  | _, _, .lst e h => .lst (s _ _ e) (Shs.same s h)
  | _, _, .tup e h => .tup (s _ _ e) (Shs.same s h)
theorem Shs.same {H H' : Hp} (s : Same H H') : ∀ {xs : List V} {ds : List PyData}, Shs H xs ds → Shs H' xs ds
  | _, _, .nil => .nil
  | _, _, .cons h t => .cons (Sh.same s h) (Shs.same s t)
end
mutual
/-- data whose repr is told here: ints of less than 1920 bits, texts of plain signs -/
def fine : PyData → Bool
  | .none => true
  | .bool _ => true
  | .int i => decide (i.natAbs.log2 < 1920)
  | .str x => x.cps.toList.all fun c => decide (c < 16 ^ 8)
  | .list xs => fineAll xs
  | .tuple xs => fineAll xs
  | .dict _ => false
def fineAll : List PyData → Bool
  | [] => true
  | x :: xs => fine x && fineAll xs
end
mutual
theorem fine_shows : ∀ d : PyData, fine d = true → d.showable = true ∧ d.leavesShort 1921 = true
  | .none, _ => ⟨rfl, rfl⟩
  | .bool _, _ => ⟨rfl, rfl⟩
  | .int i, h => by
    have h1 : i.natAbs.log2 < 1920 := by simpa only [fine, decide_eq_true_eq] using h
    exact ⟨by simpa only [PyData.showable, decide_eq_true_eq] using h1, by
      simp only [PyData.leavesShort, PyData.shown]
      exact decide_eq_true (int_text_len_1921 h1)⟩
  | .str x, h => ⟨rfl, by simpa only [PyData.leavesShort, fine] using h⟩
  | .list xs, h => by
    have q := fineAll_shows xs (by simpa only [fine] using h)
    exact ⟨by simpa only [PyData.showable] using q.1, by simpa only [PyData.leavesShort] using q.2⟩
  | .tuple xs, h => by
    have q := fineAll_shows xs (by simpa only [fine] using h)
    exact ⟨by simpa only [PyData.showable] using q.1, by simpa only [PyData.leavesShort] using q.2⟩
  | .dict _, h => by simp only [fine, Bool.false_eq_true] at h
theorem fineAll_shows : ∀ ds : List PyData, fineAll ds = true → PyData.showableAll ds = true ∧ PyData.leavesShortAll 1921 ds = true
  | [], _ => ⟨rfl, rfl⟩
  | d :: ds, h => by
    simp only [fineAll, Bool.and_eq_true] at h
    have q1 := fine_shows d h.1
    have q2 := fineAll_shows ds h.2
    exact ⟨by simp only [PyData.showableAll, q1.1, q2.1, Bool.and_self], by simp only [PyData.leavesShortAll, q1.2, q2.2, Bool.and_self]⟩
end
theorem shown_fits {d : PyData} (h : fine d = true) (hb : d.bulk ≤ 8000) : d.shown.length ≤ sizeLine := by
  have q := PyData.shown_le_bulk 1921 (by decide) d (fine_shows d h).2
  rw [sizeLine_eq]
  omega
section
variable {X : Cx}
/-- repr of data -/
def rRepr : List V → Hp → VK → Prop := fun xs H Q => ∃ v d, xs = [v] ∧ Sh H v d ∧ fine d = true ∧ d.depth ≤ 60 ∧ d.bulk ≤ 8000 ∧ Q (.str d.shown) H
theorem call_repr (hg : X.A.guards = some []) (hu : X.A.units + 64 < cLine) : CallR X (.builtin "repr") rRepr := by
  intro pins s σ H xs us Q I r ⟨v, d, ex, hd, hf, dp, bk, q⟩
  have hs := (fine_shows d hf).1
  have sz := shown_fits hf bk
  subst ex
  cases r with
  | cons r1 r2 =>
  cases r2
  rename_i u
  cases hd with
  | non =>
    cases (show u = Value.none from r1)
    exact PySem.P.repr_of_none ⟨.str _, H, I.tok _, ⟨_, rfl⟩, q⟩
  | bl b =>
    cases (show u = Value.bool b from r1)
    exact PySem.P.repr_of_bool ⟨.str _, H, I.tok _, ⟨_, rfl⟩, q⟩
  | int i =>
    obtain ⟨t, e⟩ := (show ∃ t, u = Value.int i t from r1)
    cases e
    exact PySem.P.repr_of_int (by simpa [PyData.showable] using hs) ⟨.str _, H, I.tok _, ⟨_, rfl⟩, q⟩
  | str x =>
    obtain ⟨t, e⟩ := (show ∃ t, u = Value.str x t from r1)
    cases e
    exact PySem.P.repr_of_str ⟨.str _, H, I.tok _, ⟨_, rfl⟩, q⟩ sz
  | lst e1 h1 =>
    rename_i a xs ds
    have hd : Sh H (.ref a) (.list ds) := .lst e1 h1
    obtain ⟨as, rd⟩ := hd.reads I.hok r1
    cases (show u = Value.ref a from r1)
    exact repr_of_reads' rd hs (PyData.noDict_hsm hd.plain) hg (by omega) (fun _ _ e => e) (fun h' t tk k => ⟨.str _, H, I.kept k, ⟨t, rfl⟩, q⟩) sz
  | tup e1 h1 =>
    rename_i a xs ds
    have hd : Sh H (.ref a) (.tuple ds) := .tup e1 h1
    obtain ⟨as, rd⟩ := hd.reads I.hok r1
    cases (show u = Value.ref a from r1)
    exact repr_of_reads' rd hs (PyData.noDict_hsm hd.plain) hg (by omega) (fun _ _ e => e) (fun h' t tk k => ⟨.str _, H, I.kept k, ⟨t, rfl⟩, q⟩) sz
end
/-! defs that may only be called where no repr is under way -/
structure FnG (P : Program) (w : World) (K : PySem.W.Frag) (mg : Str → Option Value) (base : Heap) (CX : CXT) (k : Nat) (f : Addr) (fd : FuncData) (ps : List Str) (sp : Sp) : Prop where
  len : ∀ {vs : List V} {H : Hp} {Q : VK} {E : XK}, sp vs H Q E → vs.length = ps.length
  go : ∀ {A : Around} {outer : List Env} {s : Shared} {H : Hp} {args : Args} {us : List Value} {vs : List V} {Q : VK} {E : XK}, A.guards = some [] → Room k A →
    Env0 P w K mg base A outer s H → BindsTo s fd args (ps.zip us) → Vals vs us → sp vs H Q E → codeAny (model P w) A (.call (.ref f) args) (CR CX outer P w H s Q E) s
theorem FnG.mono {P : Program} {w : World} {K : PySem.W.Frag} {mg : Str → Option Value} {base : Heap} {CX : CXT} {j k : Nat} {f : Addr} {fd : FuncData} {ps : List Str} {sp : Sp}
    (F : FnG P w K mg base CX j f fd ps sp) (h : j ≤ k) : FnG P w K mg base CX k f fd ps sp := ⟨F.len, fun g r => F.go g (r.mono h)⟩
section
variable {P : Program} {w : World} {K : PySem.W.Frag} {mg : Str → Option Value} {base : Heap} {CX : CXT}
theorem fnG_of {k : Nat} {f : Addr} {x qual : Str} {st : Stmt} {fd : FuncData} {N ps : List Str} {sp : Sp} (F : Fun K x qual st f fd) (S : FnScope N ps (defScope st)) (len : ∀ vs H Q E, sp vs H Q E → vs.length = ps.length)
    (body : ∀ (cdv : Value) (A : Around) (outer : List Env) (s : Shared) (H : Hp) (vs : List V) (Q : VK) (E : XK), A.guards = some [] → Room k (A.deeper (envOfC qual (defScope st) s.heap.objs.size f cdv)) → sp vs H Q E →
      ∃ t, PSs (cxOf CX P w K mg base N qual (defScope st) f cdv A outer s H E) (defBody st) t ∧ t { nx := fun _ H' => Q .non H', rt := Q } (start N vs) H) :
    FnG P w K mg base CX (k + 1) f fd ps sp := by
  obtain ⟨oc, od, kV, doc, pm, an, cdv, ct, osl, rfl, look, code⟩ := F.ex
  constructor
  · intro vs H Q E q
    exact len vs H Q E q
  · intro A outer s H args us vs Q E gd room env bind vals want
    have same : ∀ b o, base.get? b = some o → s.heap.get? b = some o := fun b o e => (env.bs b o e).1
    have kin : K.In s.heap := env.mod.kin.keeps same
    have slots : ∀ y ∈ ps.zip us, (defScope st).names.lookup y.1 = some .local ∨ ((defScope st).names.lookup y.1 = some .cell ∧ ((cellsFrom (s.heap.objs.size + 1) (defScope st).names []).lookup y.1).isSome = true) := by
      rintro ⟨y, v⟩ hy
      cases S.par y (List.of_mem_zip hy).1 with
      | inl q => exact .inl q
      | inr q => exact .inr ⟨q, PySem.W.cellsFrom_some _ _ _ (.inl q)⟩
    apply codeAny_call_function room.depth (kin _ _ look) rfl S.co S.gen rfl (PySem.W.codeRec_of kin code)
    apply bind
    apply wpAny_newFunctionEnv_cells S.kind slots
    rintro env' rfl s1 X1
    constructor
    · exact (env.mod.nolimit.keeps same).keeps X1.toInCall.keep
    apply codeAny_func
    obtain ⟨t, ht, hq⟩ := body cdv A outer s H vs Q E gd (room.deeper _) want
    have I := inv_start (CX := CX) (E := E) S room.hd env (len _ _ _ _ want) vals X1
    apply wpAny_mono (ht.run [] s1 _ H _ I hq)
    · intro flow s' hs
      cases flow with
      | ret u =>
        obtain ⟨v, _, H', J, rv, q⟩ := hs
        exact ⟨v, H', J.os, J.bare, J.base, J.hok, rv, q⟩
      | next =>
        obtain ⟨_, H', J, q⟩ := hs
        exact ⟨.non, H', J.os, J.bare, J.base, J.hok, rfl, q⟩
      | brk => exact hs.elim fun _ q => q.elim fun _ q => q.2.elim
      | cont => exact hs.elim fun _ q => q.elim fun _ q => q.2.elim
    · intro e s' hs
      exact hs
theorem fnG0 {k : Nat} {f : Addr} {x qual : Str} {st : Stmt} {fd : FuncData} {N ps : List Str} {sp : Sp} (F : Fun K x qual st f fd) (S : FnScope N ps (defScope st)) (len : ∀ vs H Q E, sp vs H Q E → vs.length = ps.length)
    (body : ∀ (cdv : Value) (A : Around) (outer : List Env) (s : Shared) (H : Hp) (vs : List V) (Q : VK) (E : XK), A.guards = some [] → Room k (A.deeper (envOfC qual (defScope st) s.heap.objs.size f cdv)) → sp vs H Q E →
      ∃ t, PSs (cxOf CX0 P w K mg base N qual (defScope st) f cdv A outer s H E).nox (defBody st) t ∧ t { nx := fun _ H' => Q .non H', rt := Q } (start N vs) H) :
    FnG P w K mg base CX0 (k + 1) f fd ps sp :=
  fnG_of F S len fun cdv A outer s H vs Q E g r q => (body cdv A outer s H vs Q E g r q).elim fun t h => ⟨t, h.1.nox, h.2⟩
end
section
variable {X : Cx} {CX : CXT} {k : Nat} {f : Addr} {fd : FuncData} {ps : List Str} {sp : Sp} {dvs : List V} {ds : List Value} {E : XK} {x : Str} {p pos : Pos} {e : Expr} {es : List Expr} {t : TA}
theorem goG {pins : List (Addr × Obj)} {σ : L2.St} {H : Hp} {s : Shared} {Q : VK} {us : List Value} {vs : List V} (F : FnG X.prog X.w X.K X.mg X.base CX k f fd ps sp) (gd : X.A.guards = some []) (hr : Room k X.A)
    (hb : Binds X.K fd ps ds) (hd : Vals dvs ds) (hx : Passes CX X E) (I : Inv X pins σ H s) (r : Vals vs us) (h : sp (vs ++ dvs) H Q E) : wpAny (model X.prog X.w) X.A (call (.ref f) us) (EP X pins σ Q) X.xe s := by
  have both := r.append hd
  have many : (us ++ ds).length = ps.length := both.length.symm.trans (F.len h)
  apply wpAny_call
  apply codeAny_mono (F.go gd hr I.env0 (hb s us I.kIn many) both h)
  intro res s' hq
  cases res with
  | error e => exact hx pins σ H s e s' I hq
  | ok flow =>
    cases flow with
    | ret u => exact I.after hq
    | next => exact hq.elim
    | brk => exact hq.elim
    | cont => exact hq.elim
/-- f(e, ..) of such a def -/
theorem pe_callG (F : FnG X.prog X.w X.K X.mg X.base CX k f fd ps sp) (gd : X.A.guards = some []) (hr : Room k X.A) (hg : Gl X x) (hm : X.mg x = some (.ref f)) (hk : PySem.W.keepIn X.K (.ref f) = true) (hb : Binds X.K fd ps ds) (hd : Vals dvs ds)
    (hx : Passes CX X E) (ha : PA X (e :: es) t) (hdb : (x == ("__debug__" : Str)) = false := by decide)
    (he : starEach (e :: es) X.env = (false, eval e X.env) :: starEach es X.env := by rfl) (hpl : (backTo pos (starEach es X.env)).any (·.1) = false := by rfl) :
    PE X (.Call (.Name x p) (e :: es) [] pos) (tCall sp dvs E t) := by
  constructor
  intro pins s σ H Q I h
  apply wpAny_Call_Name_kw
  apply ld_glob I hg hm _ hdb
  apply PySem.W.callWith_K (h₀ := X.base) I.ok.mod.kin hk _ he hpl
  apply thn (ha.run pos pins s σ H _ I h)
  rintro us s1 ⟨vs, H1, I1, r, q⟩
  exact ⟨I1.kIn, goG F gd hr hb hd hx I1 r q⟩
end
/-! the law's end, where the law's def calls repr -/
section
variable {P : Program} {w : World} {K : PySem.W.Frag} {mg mb : Str → Option Value} {CX : CXT} {k : Nat} {fa a : Addr} {fd : FuncData} {x : Str} {sp : Sp} {s : Shared} {vs : List Value} {ns : List Int}
abbrev Done (s : Shared) (r : Result) (s' : Shared) : Prop := r = .ok (.ret (.bool true)) ∧ OldK s.heap s'.heap ∧ s'.os = s.os ∧ AllBare s'.gens
theorem from_heap (kin : K.In s.heap) (gl : s.heap.Ns mainGlobals mg) (bn : s.heap.Ns builtinsNs mb) (bb : ∀ x : Str, x ≠ "__name__" → mb x = bootBuiltins x) (lim : s.heap.NoLimit) (gens : s.gens = #[])
    (ha : s.heap.get? a = some { cls := .type "list", data := .seq vs.toArray }) (hr : Room k callerA)
    (F : ∀ base : Heap, K.In base → base.Ns mainGlobals mg → FnG P w K mg base CX k fa fd [x] sp) (hbind : ∀ (s : Shared) (u : Value), BindsTo s fd ⟨[u], []⟩ [(x, u)])
    (hCX : ∀ H e s', CX [] H s (fun _ _ _ => False) e s' → False)
    (H : Hp) (only : Only H) (want : sp [.ref a] H (fun v _ => v = .bl true) fun _ _ _ => False) (ok : HOk P w H s.heap) (one : ∀ b, H b ≠ none → b = a) (out : H a ≠ none → K.lookup a = none) :
    codeAny (model P w) callerA (.call (.ref fa) ⟨[.ref a], []⟩) (Done s) s := by
  have dicts : ∀ {b : Addr} {m : Str → Option Value}, s.heap.Ns b m → (hidT s.heap H).Ns b m := by
    rintro b m ⟨o, es, ep, g, d, rest⟩
    refine ⟨o, es, ep, hidT_get g ?_, d, rest⟩
    apply Classical.byContradiction
    intro q
    cases one b q
    rw [ha] at g
    cases g
    cases (show Data.seq vs.toArray _ = Data.dict es ep from d)
  have kin' : K.In (hidT s.heap H) := by
    intro b o g
    refine hidT_get (kin b o g) ?_
    apply Classical.byContradiction
    intro q
    cases one b q
    rw [out q] at g
    cases g
  have env : Env0 P w K mg (hidT s.heap H) callerA [] s H :=
    { frames := rfl
      mod := ⟨kin', dicts gl, ⟨mb, dicts bn, bb⟩, lim.elim fun mc q => ⟨mc, dicts q.1, q.2⟩⟩
      bs := fun b o g => of_hidT g
      bsz := Nat.le_of_eq (hidT_size _ _)
      funs := trivial
      frf := fun b z => absurd (show b ∈ ([] : List Addr) from z) (by simp)
      hok := ok
      bare := .of_eq gens }
  apply codeAny_mono ((F _ kin' (dicts gl)).go rfl hr env (hbind s (.ref a)) (.cons rfl .nil : Vals [.ref a] [.ref a]) want)
  intro res s' got
  cases res with
  | error e => exact (hCX H e s' got).elim
  | ok flow =>
    cases flow with
    | next => exact got.elim
    | brk => exact got.elim
    | cont => exact got.elim
    | ret u =>
      obtain ⟨v, H', os, bare, un, ok', rv, q⟩ := got
      cases (show v = V.bl true from q)
      cases (show u = Value.bool true from rv)
      refine ⟨rfl, OldK.of_keep ?_, os, bare⟩
      intro b o g
      cases q : H b with
      | none => exact un.keep b o g q (fun z => absurd (show b ∈ ([] : List Addr) from z) (by simp)) (by simp)
      | some z =>
        cases only b with
        | inl n =>
          rw [n] at q
          cases q
        | inr n =>
          obtain ⟨ob, xs, n⟩ := n
          have g1 := (ok b _ n).1
          rw [g] at g1
          cases g1
          exact (ok' b _ (un.frzs b o _ n)).1
theorem lawG (kin : K.In s.heap) (gl : s.heap.Ns mainGlobals mg) (bn : s.heap.Ns builtinsNs mb) (bb : ∀ x : Str, x ≠ "__name__" → mb x = bootBuiltins x) (lim : s.heap.NoLimit) (gens : s.gens = #[])
    (ha : s.heap.get? a = some { cls := .type "list", data := .seq vs.toArray }) (hi : IntsAre vs ns) (hl : ns.length ≤ sizeLine) (hr : Room k callerA)
    (F : ∀ base : Heap, K.In base → base.Ns mainGlobals mg → FnG P w K mg base CX k fa fd [x] sp) (hbind : ∀ (s : Shared) (u : Value), BindsTo s fd ⟨[u], []⟩ [(x, u)])
    (hsp : ∀ H : Hp, SqL K H a (ns.map V.int) → sp [.ref a] H (fun v _ => v = .bl true) fun _ _ _ => False)
    (hCX : ∀ H e s', CX [] H s (fun _ _ _ => False) e s' → False) :
    codeAny (model P w) callerA (.call (.ref fa) ⟨[.ref a], []⟩) (Done s) s := by
  have rel := vals_ints hi
  cases look : K.lookup a with
  | some o =>
    have g := kin a o look
    rw [ha] at g
    cases g
    refine from_heap kin gl bn bb lim gens ha hr F hbind hCX (fun _ => none) (fun _ => .inl rfl) (hsp _ (.inr ⟨_, vs.toArray, _, look, rfl, rfl, rfl, ?_, by simpa using rel⟩)) (fun b u z => ?_) (fun b z => absurd rfl z) (fun z => absurd rfl z)
    · rw [List.size_toArray, hi.length]
      exact hl
    · cases (show (none : Option HO) = some u from z)
  | none =>
    let O : Obj := { cls := .type "list", data := .seq vs.toArray }
    have at_a : upd (fun _ => none) a (HO.frz O (.lst (ns.map V.int))) a = some (.frz O (.lst (ns.map V.int))) := upd_same
    refine from_heap kin gl bn bb lim gens ha hr F hbind hCX (upd (fun _ => none) a (.frz O (.lst (ns.map V.int)))) (fun b => ?_) (hsp _ (.inl (.inr ⟨O, at_a⟩))) (fun b u z => ?_) (fun b z => ?_) fun _ => look
    · by_cases e : b = a
      · subst e
        exact .inr ⟨_, _, at_a⟩
      · exact .inl (upd_ne e)
    · by_cases e : b = a
      · subst e
        cases Option.some.inj (at_a.symm.trans z)
        exact ⟨ha, by rw [List.length_map]; exact hl, vs, _, rel, ha⟩
      · rw [upd_ne e] at z
        cases z
    · by_cases e : b = a
      · exact e
      · exact absurd (upd_ne e) z
end
theorem walkG {l : PySem.W.OpenLaw} {n k : Nat} {q : Program} {loose : List Str} {XP : (Str → Option Value) → Heap → Prop} {YP : World → Heap → Prop} {d : DefRec} {K : Params → PySem.W.Frag} {sp : PySem.W.Frag → Sp} {x : Str}
    (hn : l.most = some n) (hn2 : n ≤ sizeLine) (hdf : d.params.defaults = []) (hr : Room k callerA) (hY : ∀ (w : World) (h : Heap), YP w h → (K w.params).In h)
    (F : ∀ (w : World) (mg : Str → Option Value) (fa : Addr) (h : Heap), (K w.params).In h → h.Ns mainGlobals mg → mg d.name = some (.ref fa) → ∃ fd : FuncData, (∀ (s : Shared) (u : Value), BindsTo s fd ⟨[u], []⟩ [(x, u)]) ∧
      ∀ base : Heap, (K w.params).In base → base.Ns mainGlobals mg → FnG l.prog w (K w.params) mg base CX0 k fa fd [x] (sp (K w.params)))
    (hsp : ∀ (K : PySem.W.Frag) (H : Hp) (a : Addr) (ns : List Int), ns.length ≤ n → SqL K H a (ns.map V.int) → sp K [.ref a] H (fun v _ => v = .bl true) fun _ _ _ => False) :
    PySem.W.WalkO q loose XP YP l.row.toRowW d [] (fun f vs => PySem.call f vs) := by
  apply Att.attach_call hn hdf
  intro w s₀ s₁ mg mb fa o pm cd doc a vs ns G Y ho hd hcd hmg hobj hints hlen hg
  obtain ⟨fd, hb, hF⟩ := F w mg fa _ (hY w _ Y) G.T.g hmg
  exact lawG (hY w _ Y) G.T.g G.T.b G.T.builtins G.T.nolimit hg hobj hints (Nat.le_trans hlen hn2) hr hF hb (fun H hS => hsp _ H a ns hlen hS) fun _ _ _ z => z
end Gd
namespace Gd
open PySem PySem.Spec PyProof.Rows L2
/-- what a law draws from: a list of two ints -/
def Bag (H : Hp) (a : Addr) : Prop := ∃ g m : Int, H a = some (.lst [.int g, .int m]) ∧ 0 ≤ m ∧ m < 2147483647
/-- all but what stands at a stays -/
def Kp (a : Addr) (H H' : Hp) : Prop := ∀ b o, b ≠ a → H b = some o → H' b = some o
theorem Kp.refl (a : Addr) (H : Hp) : Kp a H H := fun _ _ _ e => e
theorem Kp.trans {a : Addr} {H H1 H2 : Hp} (k : Kp a H H1) (l : Kp a H1 H2) : Kp a H H2 := fun b o n e => l b o n (k b o n e)
theorem Kp.at_bag {a : Addr} {H : Hp} {o : HO} : Kp a H (upd H a o) := fun b u n e => by
  rw [upd_ne n]
  exact e
theorem Kp.new {a p : Addr} {H : Hp} {o : HO} (h : H p = none) : Kp a H (upd H p o) := fun b u _ e => by
  rw [upd_ne (ne_of_none e h)]
  exact e
theorem Kp.put {a p : Addr} {H H' : Hp} {o : HO} (k : Kp a H H') (h : H p = none) : Kp a H (upd H' p o) := fun b u n e => by
  rw [upd_ne (ne_of_none e h)]
  exact k b u n e
theorem Same.kp {a : Addr} {H H' : Hp} (s : Same H H') : Kp a H H' := fun b o _ e => s b o e
theorem Bag.new {a p : Addr} {H : Hp} {o : HO} (b : Bag H a) (h : H p = none) : Bag (upd H p o) a := by
  obtain ⟨g, m, e, q⟩ := b
  exact ⟨g, m, by rw [upd_ne (ne_of_none e h)]; exact e, q⟩
theorem Bag.upd {a p : Addr} {H : Hp} {o : HO} (b : Bag H a) (h : p ≠ a) : Bag (L2.upd H p o) a := by
  obtain ⟨g, m, e, q⟩ := b
  exact ⟨g, m, by rw [upd_ne h.symm]; exact e, q⟩
theorem Bag.some {a : Addr} {H : Hp} (b : Bag H a) : ∃ o, H a = some o := ⟨_, b.choose_spec.choose_spec.1⟩
theorem Bag.ne {a p : Addr} {H : Hp} (b : Bag H a) (h : H p = none) : p ≠ a := by
  obtain ⟨g, m, e, q⟩ := b
  exact (ne_of_none e h).symm
/-- what is free behind was free ahead -/
theorem Kp.free {a p : Addr} {H H' : Hp} (k : Kp a H H') (b : Bag H' a) (h : H' p = none) : H p = none := by
  cases q : H p with
  | none => rfl
  | some o =>
    rw [k p o (b.ne h) q] at h
    cases h
theorem Kp.sq {K : PySem.W.Frag} {a b : Addr} {H H' : Hp} {xs : List V} (k : Kp a H H') (n : b ≠ a) (h : SqL K H b xs) : SqL K H' b xs := by
  rcases h with (h | ⟨o, h⟩) | h
  · exact .inl (.inl (k _ _ n h))
  · exact .inl (.inr ⟨o, k _ _ n h⟩)
  · exact .inr h
/-- a list of the module's or of the heap stays while the bag, new behind it, is drawn from -/
theorem Kp.sqn {K : PySem.W.Frag} {a b : Addr} {H H' : Hp} {xs : List V} (k : Kp a H H') (n : H a = none) (h : SqL K H b xs) : SqL K H' b xs := by
  rcases h with (h | ⟨o, h⟩) | h
  · exact .inl (.inl (k _ _ (ne_of_none h n) h))
  · exact .inl (.inr ⟨o, k _ _ (ne_of_none h n) h⟩)
  · exact .inr h
/-- tuples stay -/
def Tk (H H' : Hp) : Prop := ∀ p xs, H p = some (.tup xs) → H' p = some (.tup xs)
theorem Same.tk {H H' : Hp} (s : Same H H') : Tk H H' := fun p xs e => s p _ e
theorem Tk.trans {H H1 H2 : Hp} (k : Tk H H1) (l : Tk H1 H2) : Tk H H2 := fun p xs e => l p xs (k p xs e)
theorem Kp.tk {a : Addr} {H H' : Hp} (k : Kp a H H') (b : Bag H a) : Tk H H' := fun p xs e => by
  obtain ⟨g, m, h, _⟩ := b
  exact k p _ (ne_of e h (fun z => nomatch z)) e
theorem Tk.lst {p : Addr} {H : Hp} {xs ys : List V} (h : H p = some (.lst xs)) : Tk H (upd H p (.lst ys)) := fun b zs e => by
  rw [upd_ne (ne_of e h (fun z => nomatch z))]
  exact e
def spTake : Sp := fun vs H Q _ => ∃ (a : Addr) (n : Int), vs = [.ref a, .int n] ∧ Bag H a ∧ (0 < n ∧ n < 1073741824) ∧ ∀ (d : Int) (H' : Hp), 0 ≤ d → d < n → Bag H' a → Kp a H H' → Q (.int d) H'
def spBag (K : PySem.W.Frag) : Sp := fun vs H Q _ => ∃ (a : Addr) (ns : List Int) (i : Nat), vs = [.ref a, .int (i : Int)] ∧ SqL K H a (ns.map V.int) ∧ i ≤ 1000 ∧
  ∀ (H' : Hp) (p : Addr), Same H H' → H p = none → Bag H' p → Q (.ref p) H'
theorem turns {L : Nat} {m : Int} (hm : 1 ≤ m) : 1 ≤ (if (if (L : Int) < m then (L : Int) else m) > 1 then (if (L : Int) < m then (L : Int) else m) else 1) ∧ (if (if (L : Int) < m then (L : Int) else m) > 1 then (if (L : Int) < m then (L : Int) else m) else 1) ≤ m := by
  constructor <;> (repeat' split) <;> omega
theorem same_upd {H : Hp} {p : Addr} {o : HO} (h : H p = none) : Same H (upd H p o) := by
  intro b x e
  rw [upd_ne (ne_of_none e h)]
  exact e
theorem fresh {H H' : Hp} {p : Addr} {o : HO} (n : H p = none) (e : upd H p o = H') : Same H H' ∧ H' p = some o := by
  subst e
  exact ⟨same_upd n, upd_same⟩
section
variable {X : Cx}
/-- (i, j) > (k, l) -/
def gt2 (i j k l : Int) : Bool := decide (k < i ∨ (i = k ∧ l < j))
def rGt2 (K : PySem.W.Frag) : R2 := fun x y H Q => ∃ (a b : Addr) (i j k l : Int), x = .ref a ∧ y = .ref b ∧ SqT K H a [.int i, .int j] ∧ SqT K H b [.int k, .int l] ∧ Q (.bl (gt2 i j k l)) H
theorem eq_two {A : Around} {s : Shared} {i k : Int} {t u : Tok} : SeqAt.EqAt A s (.int i t) (.int k u) (decide (i = k)) := by
  have e : (i == k) = decide (i = k) := by
    by_cases q : i = k
    · rw [decide_eq_true q, q, beq_self_eq_true]
    · rw [decide_eq_false q, beq_eq_false_iff_ne.mpr q]
  rw [← e]
  exact SeqAt.EqAt.int_int _ _ _ _
theorem op_gt2 (hu : X.A.units < cLine) : OpR X (compareOp .Gt) (rGt2 X.K) := by
  rintro pins s σ H x y v u Q I rx ry ⟨a, b, i, j, k, l, rfl, rfl, ha, hb, q⟩
  cases rx
  cases ry
  obtain ⟨its, r1, p1, _⟩ := I.tuple ha
  obtain ⟨jts, r2, p2, _⟩ := I.tuple hb
  cases r1 with
  | cons a1 r1 =>
  cases r1 with
  | cons a2 r1 =>
  cases r1
  cases r2 with
  | cons b1 r2 =>
  cases r2 with
  | cons b2 r2 =>
  cases r2
  obtain ⟨t1, rfl⟩ := a1
  obtain ⟨t2, rfl⟩ := a2
  obtain ⟨t3, rfl⟩ := b1
  obtain ⟨t4, rfl⟩ := b2
  have R := Ob.RcOp.tuples_gt (A := X.A) (s := s) (e := fun n => if n = 0 then decide (i = k) else decide (j = l)) (r := fun n => if n = 0 then decide (k < i) else decide (l < j)) p1 p2 hu
    (fun n h1 h2 => match n, h1, h2 with
      | 0, _, _ => eq_two
      | 1, _, _ => eq_two
      | n + 2, h1, _ => absurd h1 (by simp))
    (fun n h1 h2 _ => match n, h1, h2 with
      | 0, _, _ => Ob.RcOp.gt_int _ _ _ _
      | 1, _, _ => Ob.RcOp.gt_int _ _ _ _
      | n + 2, h1, _ => absurd h1 (by simp))
  refine R _ _ _ _ ⟨.bl (gt2 i j k l), H, I, ?_, q⟩
  show Value.bool _ = Value.bool _
  congr 1
  show (if decide (i = k) = true then (if decide (j = l) = true then decide (2 > 2) else decide (l < j)) else decide (k < i)) = _
  unfold gt2
  by_cases e1 : i = k
  · rw [decide_eq_true e1, if_pos rfl]
    by_cases e2 : j = l
    · rw [decide_eq_true e2, if_pos rfl]
      rw [decide_eq_false (by omega), decide_eq_false (by omega)]
    · rw [decide_eq_false e2, if_neg Bool.false_ne_true]
      by_cases e3 : l < j
      · rw [decide_eq_true e3, decide_eq_true (by omega)]
      · rw [decide_eq_false e3, decide_eq_false (by omega)]
  · rw [decide_eq_false e1, if_neg Bool.false_ne_true]
    by_cases e3 : k < i
    · rw [decide_eq_true e3, decide_eq_true (.inl e3)]
    · rw [decide_eq_false e3, decide_eq_false (by omega)]
end
theorem kit_self {K : PySem.W.Frag} {C : Addr} : PySem.W.kitOne K (.ref C) (.ref C) = some true := by
  unfold PySem.W.kitOne
  rw [if_pos (by simp)]
/-- the values in the parameters' order -/
def pick (is : List Nat) {α : Type} (us ws : List α) : List α := is.filterMap fun i => (us ++ ws)[i]?
theorem pick_rel {is : List Nat} {vs : List V} {us : List Value} {zs : List V} {ws : List Value} (r : Vals vs us) (q : Vals zs ws) : Vals (pick is vs zs) (pick is us ws) := by
  have both := r.append q
  unfold pick
  induction is with
  | nil => exact .nil
  | cons i is ih =>
    cases e : (vs ++ zs)[i]? with
    | none => rw [List.filterMap_cons, List.filterMap_cons, e, both.none_of e]; exact ih
    | some x =>
      obtain ⟨u, h1, h2⟩ := both.get e
      rw [List.filterMap_cons, List.filterMap_cons, e, h1]
      exact .cons h2 ih
section
variable {X : Cx} {CX : CXT} {k : Nat} {f : Addr} {fd : FuncData} {ps ks : List Str} {sp : Sp} {E : XK} {x : Str} {p pos : Pos} {kws : List Keyword} {tk : TA} {g : List Value → List Value → List Value} {gV : List V → List V → List V}
def tCallK0 (n : Nat) (sp : Sp) (gV : List V → List V → List V) (E : XK) (tk : TA) : TE := fun σ H Q => tk σ H fun zs H2 => zs.length = n ∧ sp (gV [] zs) H2 Q E
/-- f(k = v, ..), keywords alone -/
theorem pe_callK0 (F : FnOk X.prog X.w X.K X.mg X.base CX k f fd ps sp) (hr : Room k X.A) (hg : Gl X x) (hm : X.mg x = some (.ref f)) (hk : PySem.W.keepIn X.K (.ref f) = true) (hb : KBn X.K fd ps 0 ks g gV) (hx : Passes CX X E) (hkw : PK X kws tk)
    (hall : (backToKw pos (keywordEach kws X.env)).all (·.1.isSome) = true := by rfl) (hks : (backToKw pos (keywordEach kws X.env)).filterMap (·.1) = ks := by rfl)
    (hdb : (x == ("__debug__" : Str)) = false := by decide) (hpl : ((backTo pos (starEach [] X.env)).any (·.1) || (backToKw pos (keywordEach kws X.env)).any (·.1.isNone)) = false := by rfl) :
    PE X (.Call (.Name x p) [] kws pos) (tCallK0 ks.length sp gV E tk) := by
  constructor
  intro pins s σ H Q I h
  apply wpAny_Call_Name_kw
  apply ld_glob I hg hm _ hdb
  apply PySem.W.callWith_KW0 (h₀ := X.base) I.ok.mod.kin hk hall _ hpl
  apply thn (hkw.run pos pins s σ H _ I h)
  rintro ws s2 ⟨zs, H2, I2, rz, l2, q2⟩
  refine ⟨I2.kIn, ?_⟩
  rw [hks]
  exact run_fnN F hr hb hx I2 .nil rz rfl l2 q2
end
end Gd
namespace K09
open PySem PySem.Spec PyProof.Rows L2 Gd
def topS (i : Nat) : Stmt := PySem.Challenge.pw_wirenames_k09_whole_enough_by_the_least.main.body.getD i (.Pass ⟨0, 0, 0, 0⟩)
abbrev sWhole : Stmt := topS 1
abbrev sWithin : Stmt := topS 2
abbrev sGap : Stmt := topS 3
abbrev sClaim : Stmt := topS 9
abbrev sPeriod : Stmt := topS 10
abbrev sAsk : Stmt := topS 11
abbrev sChB : Stmt := topS 14
abbrev sChR : Stmt := topS 15
abbrev sCh2 : Stmt := topS 16
abbrev sCt : Stmt := topS 17
abbrev sAt : Stmt := topS 18
abbrev sMt : Stmt := topS 19
abbrev sFits : Stmt := topS 20
abbrev sLw : Stmt := topS 21
abbrev sEn : Stmt := topS 22
abbrev sLr : Stmt := topS 23
abbrev sBag : Stmt := topS 25
abbrev sTake : Stmt := topS 26
abbrev sLWhole : Stmt := topS 27
abbrev sLeast : Stmt := topS 28
abbrev sLClaim : Stmt := topS 29
abbrev sParts : Stmt := topS 30
abbrev sGoodP : Stmt := topS 31
abbrev sIsR : Stmt := topS 32
abbrev sMade : Stmt := topS 33
abbrev sNear : Stmt := topS 34
abbrev sMore : Stmt := topS 35
abbrev sLaw : Stmt := topS 36
abbrev sBInit : Stmt := inClass (topS 12) 0
abbrev sRInit : Stmt := inClass (topS 13) 0
theorem sc_is_whole : FnScope ["thing"] ["thing"] (defScope sWhole) := ⟨rfl, rfl, rfl, by decide +kernel, rfl, by decide +kernel, by decide +kernel⟩
theorem sc_is_within : FnScope ["thing", "low", "high"] ["thing", "low", "high"] (defScope sWithin) := ⟨rfl, rfl, rfl, by decide +kernel, rfl, by decide +kernel, by decide +kernel⟩
theorem sc_is_gap : FnScope ["thing"] ["thing"] (defScope sGap) := ⟨rfl, rfl, rfl, by decide +kernel, rfl, by decide +kernel, by decide +kernel⟩
theorem sc_claiming_ticks : FnScope ["probes", "gap", "wait"] ["probes", "gap", "wait"] (defScope sClaim) := ⟨rfl, rfl, rfl, by decide +kernel, rfl, by decide +kernel, by decide +kernel⟩
theorem sc_least_period : FnScope ["probes", "gap", "wait"] ["probes", "gap", "wait"] (defScope sPeriod) := ⟨rfl, rfl, rfl, by decide +kernel, rfl, by decide +kernel, by decide +kernel⟩
theorem sc_asking_ticks : FnScope ["late", "repeats", "gap"] ["late", "repeats", "gap"] (defScope sAsk) := ⟨rfl, rfl, rfl, by decide +kernel, rfl, by decide +kernel, by decide +kernel⟩
theorem sc_check_bounds : FnScope ["bounds"] ["bounds"] (defScope sChB) := ⟨rfl, rfl, rfl, by decide +kernel, rfl, by decide +kernel, by decide +kernel⟩
theorem sc_check_rule : FnScope ["rule"] ["rule"] (defScope sChR) := ⟨rfl, rfl, rfl, by decide +kernel, rfl, by decide +kernel, by decide +kernel⟩
theorem sc_check_both : FnScope ["bounds", "rule"] ["bounds", "rule"] (defScope sCh2) := ⟨rfl, rfl, rfl, by decide +kernel, rfl, by decide +kernel, by decide +kernel⟩
theorem sc_claiming_time : FnScope ["rule"] ["rule"] (defScope sCt) := ⟨rfl, rfl, rfl, by decide +kernel, rfl, by decide +kernel, by decide +kernel⟩
theorem sc_asking_time : FnScope ["bounds", "rule"] ["bounds", "rule"] (defScope sAt) := ⟨rfl, rfl, rfl, by decide +kernel, rfl, by decide +kernel, by decide +kernel⟩
theorem sc_mending_time : FnScope ["bounds", "rule"] ["bounds", "rule"] (defScope sMt) := ⟨rfl, rfl, rfl, by decide +kernel, rfl, by decide +kernel, by decide +kernel⟩
theorem sc_fits : FnScope ["bounds", "rule"] ["bounds", "rule"] (defScope sFits) := ⟨rfl, rfl, rfl, by decide +kernel, rfl, by decide +kernel, by decide +kernel⟩
theorem sc_least_wait : FnScope ["bounds", "gap"] ["bounds", "gap"] (defScope sLw) := ⟨rfl, rfl, rfl, by decide +kernel, rfl, by decide +kernel, by decide +kernel⟩
theorem sc_is_enough : FnScope ["bounds", "rule"] ["bounds", "rule"] (defScope sEn) := ⟨rfl, rfl, rfl, by decide +kernel, rfl, by decide +kernel, by decide +kernel⟩
theorem sc_least_rule : FnScope ["bounds", "gap", "probes", "wait"] ["bounds", "gap"] (defScope sLr) := ⟨rfl, rfl, rfl, by decide +kernel, rfl, by decide +kernel, by decide +kernel⟩
theorem scB : FnScope ["_law_script", "_law_at", "_law_cell", "_law_great", "_law_primes", "_law_mixed"] ["_law_script", "_law_at"] (defScope sBag) := ⟨rfl, rfl, rfl, by decide +kernel, rfl, by decide +kernel, by decide +kernel⟩
theorem scT : FnScope ["_law_bag_here", "_law_many", "_law_digit"] ["_law_bag_here", "_law_many"] (defScope sTake) := ⟨rfl, rfl, rfl, by decide +kernel, rfl, by decide +kernel, by decide +kernel⟩
theorem sc__law_is_whole : FnScope ["_law_thing"] ["_law_thing"] (defScope sLWhole) := ⟨rfl, rfl, rfl, by decide +kernel, rfl, by decide +kernel, by decide +kernel⟩
theorem sc__law_least : FnScope ["_law_few", "_law_old", "_law_g", "_law_claiming_here"] ["_law_few", "_law_old", "_law_g"] (defScope sLeast) := ⟨rfl, rfl, rfl, by decide +kernel, rfl, by decide +kernel, by decide +kernel⟩
theorem sc__law_claiming : FnScope ["_law_ru"] ["_law_ru"] (defScope sLClaim) := ⟨rfl, rfl, rfl, by decide +kernel, rfl, by decide +kernel, by decide +kernel⟩
theorem sc__law_parts : FnScope ["_law_bag_here", "_law_ends", "_law_found", "_law_claiming_here", "_law_low", "_law_high"] ["_law_bag_here"] (defScope sParts) := ⟨rfl, rfl, rfl, by decide +kernel, rfl, by decide +kernel, by decide +kernel⟩
theorem sc__law_good_parts : FnScope ["_law_bag_here", "_law_found"] ["_law_bag_here"] (defScope sGoodP) := ⟨rfl, rfl, rfl, by decide +kernel, rfl, by decide +kernel, by decide +kernel⟩
theorem sc__law_is_rule : FnScope ["_law_parts_here", "_law_ends", "_law_one", "_law_low", "_law_high"] ["_law_parts_here"] (defScope sIsR) := ⟨rfl, rfl, rfl, by decide +kernel, rfl, by decide +kernel, by decide +kernel⟩
theorem sc__law_made_rule : FnScope ["_law_parts_here"] ["_law_parts_here"] (defScope sMade) := ⟨rfl, rfl, rfl, by decide +kernel, rfl, by decide +kernel, by decide +kernel⟩
theorem sc__law_near_parts : FnScope ["_law_bag_here", "_law_few", "_law_old", "_law_found", "_law_turn", "_law_spot"] ["_law_bag_here", "_law_few", "_law_old"] (defScope sNear) := ⟨rfl, rfl, rfl, by decide +kernel, rfl, by decide +kernel, by decide +kernel⟩
theorem sc__law_more_right : FnScope ["_law_held", "_law_parts_here", "_law_made", "_law_spot", "_law_more", "_law_greater"] ["_law_held", "_law_parts_here"] (defScope sMore) := ⟨rfl, rfl, rfl, by decide +kernel, rfl, by decide +kernel, by decide +kernel⟩
theorem sc_law : FnScope ["_law_script", "_law_at", "_law_bag_here", "_law_few", "_law_old", "_law_held", "_law_lesser", "_law_turn", "_law_parts_here", "_law_made", "_law_low", "_law_due"] ["_law_script"] (defScope sLaw) := ⟨rfl, rfl, rfl, by decide +kernel, rfl, by decide +kernel, by decide +kernel⟩
theorem sc_binit : FnScope ["self", "lost", "late"] ["self", "lost", "late"] (defScope sBInit) := ⟨rfl, rfl, rfl, by decide +kernel, rfl, by decide +kernel, by decide +kernel⟩
theorem sc_rinit : FnScope ["self", "probes", "gap", "wait", "repeats", "period", "life"] ["self", "probes", "gap", "wait", "repeats", "period", "life"] (defScope sRInit) := ⟨rfl, rfl, rfl, by decide +kernel, rfl, by decide +kernel, by decide +kernel⟩
structure Adr where
  f_is_whole : Addr
  d_is_whole : FuncData
  f_is_within : Addr
  d_is_within : FuncData
  f_is_gap : Addr
  d_is_gap : FuncData
  f_claiming_ticks : Addr
  d_claiming_ticks : FuncData
  f_least_period : Addr
  d_least_period : FuncData
  f_asking_ticks : Addr
  d_asking_ticks : FuncData
  f_check_bounds : Addr
  d_check_bounds : FuncData
  f_check_rule : Addr
  d_check_rule : FuncData
  f_check_both : Addr
  d_check_both : FuncData
  f_claiming_time : Addr
  d_claiming_time : FuncData
  f_asking_time : Addr
  d_asking_time : FuncData
  f_mending_time : Addr
  d_mending_time : FuncData
  f_fits : Addr
  d_fits : FuncData
  f_least_wait : Addr
  d_least_wait : FuncData
  f_is_enough : Addr
  d_is_enough : FuncData
  f_least_rule : Addr
  d_least_rule : FuncData
  f__law_bag : Addr
  d__law_bag : FuncData
  f__law_take : Addr
  d__law_take : FuncData
  f__law_is_whole : Addr
  d__law_is_whole : FuncData
  f__law_least : Addr
  d__law_least : FuncData
  f__law_claiming : Addr
  d__law_claiming : FuncData
  f__law_parts : Addr
  d__law_parts : FuncData
  f__law_good_parts : Addr
  d__law_good_parts : FuncData
  f__law_is_rule : Addr
  d__law_is_rule : FuncData
  f__law_made_rule : Addr
  d__law_made_rule : FuncData
  f__law_near_parts : Addr
  d__law_near_parts : FuncData
  f__law_more_right : Addr
  d__law_more_right : FuncData
  f_law : Addr
  d_law : FuncData
  C_Bounds : Addr
  f_Bounds___init__ : Addr
  d_Bounds___init__ : FuncData
  C_Rule : Addr
  f_Rule___init__ : Addr
  d_Rule___init__ : FuncData
structure Tx (K : PySem.W.Frag) (mg : Str → Option Value) (a : Adr) : Prop where
  F_is_whole : Fun K "is_whole" "is_whole" sWhole a.f_is_whole a.d_is_whole
  g_is_whole : mg "is_whole" = some (.ref a.f_is_whole)
  b_is_whole : Binds K a.d_is_whole ["thing"] []
  F_is_within : Fun K "is_within" "is_within" sWithin a.f_is_within a.d_is_within
  g_is_within : mg "is_within" = some (.ref a.f_is_within)
  b_is_within : Binds K a.d_is_within ["thing", "low", "high"] []
  F_is_gap : Fun K "is_gap" "is_gap" sGap a.f_is_gap a.d_is_gap
  g_is_gap : mg "is_gap" = some (.ref a.f_is_gap)
  b_is_gap : Binds K a.d_is_gap ["thing"] []
  F_claiming_ticks : Fun K "claiming_ticks" "claiming_ticks" sClaim a.f_claiming_ticks a.d_claiming_ticks
  g_claiming_ticks : mg "claiming_ticks" = some (.ref a.f_claiming_ticks)
  b_claiming_ticks : Binds K a.d_claiming_ticks ["probes", "gap", "wait"] []
  F_least_period : Fun K "least_period" "least_period" sPeriod a.f_least_period a.d_least_period
  g_least_period : mg "least_period" = some (.ref a.f_least_period)
  b_least_period : Binds K a.d_least_period ["probes", "gap", "wait"] []
  F_asking_ticks : Fun K "asking_ticks" "asking_ticks" sAsk a.f_asking_ticks a.d_asking_ticks
  g_asking_ticks : mg "asking_ticks" = some (.ref a.f_asking_ticks)
  b_asking_ticks : Binds K a.d_asking_ticks ["late", "repeats", "gap"] []
  F_check_bounds : Fun K "check_bounds" "check_bounds" sChB a.f_check_bounds a.d_check_bounds
  g_check_bounds : mg "check_bounds" = some (.ref a.f_check_bounds)
  b_check_bounds : Binds K a.d_check_bounds ["bounds"] []
  F_check_rule : Fun K "check_rule" "check_rule" sChR a.f_check_rule a.d_check_rule
  g_check_rule : mg "check_rule" = some (.ref a.f_check_rule)
  b_check_rule : Binds K a.d_check_rule ["rule"] []
  F_check_both : Fun K "check_both" "check_both" sCh2 a.f_check_both a.d_check_both
  g_check_both : mg "check_both" = some (.ref a.f_check_both)
  b_check_both : Binds K a.d_check_both ["bounds", "rule"] []
  F_claiming_time : Fun K "claiming_time" "claiming_time" sCt a.f_claiming_time a.d_claiming_time
  g_claiming_time : mg "claiming_time" = some (.ref a.f_claiming_time)
  b_claiming_time : Binds K a.d_claiming_time ["rule"] []
  F_asking_time : Fun K "asking_time" "asking_time" sAt a.f_asking_time a.d_asking_time
  g_asking_time : mg "asking_time" = some (.ref a.f_asking_time)
  b_asking_time : Binds K a.d_asking_time ["bounds", "rule"] []
  F_mending_time : Fun K "mending_time" "mending_time" sMt a.f_mending_time a.d_mending_time
  g_mending_time : mg "mending_time" = some (.ref a.f_mending_time)
  b_mending_time : Binds K a.d_mending_time ["bounds", "rule"] []
  F_fits : Fun K "fits" "fits" sFits a.f_fits a.d_fits
  g_fits : mg "fits" = some (.ref a.f_fits)
  b_fits : Binds K a.d_fits ["bounds", "rule"] []
  F_least_wait : Fun K "least_wait" "least_wait" sLw a.f_least_wait a.d_least_wait
  g_least_wait : mg "least_wait" = some (.ref a.f_least_wait)
  b_least_wait : Binds K a.d_least_wait ["bounds", "gap"] []
  F_is_enough : Fun K "is_enough" "is_enough" sEn a.f_is_enough a.d_is_enough
  g_is_enough : mg "is_enough" = some (.ref a.f_is_enough)
  b_is_enough : Binds K a.d_is_enough ["bounds", "rule"] []
  F_least_rule : Fun K "least_rule" "least_rule" sLr a.f_least_rule a.d_least_rule
  g_least_rule : mg "least_rule" = some (.ref a.f_least_rule)
  F__law_bag : Fun K "_law_bag" "_law_bag" sBag a.f__law_bag a.d__law_bag
  g__law_bag : mg "_law_bag" = some (.ref a.f__law_bag)
  b__law_bag : Binds K a.d__law_bag ["_law_script", "_law_at"] []
  F__law_take : Fun K "_law_take" "_law_take" sTake a.f__law_take a.d__law_take
  g__law_take : mg "_law_take" = some (.ref a.f__law_take)
  b__law_take : Binds K a.d__law_take ["_law_bag_here", "_law_many"] []
  F__law_is_whole : Fun K "_law_is_whole" "_law_is_whole" sLWhole a.f__law_is_whole a.d__law_is_whole
  g__law_is_whole : mg "_law_is_whole" = some (.ref a.f__law_is_whole)
  b__law_is_whole : Binds K a.d__law_is_whole ["_law_thing"] []
  F__law_least : Fun K "_law_least" "_law_least" sLeast a.f__law_least a.d__law_least
  g__law_least : mg "_law_least" = some (.ref a.f__law_least)
  b__law_least : Binds K a.d__law_least ["_law_few", "_law_old", "_law_g"] []
  F__law_claiming : Fun K "_law_claiming" "_law_claiming" sLClaim a.f__law_claiming a.d__law_claiming
  g__law_claiming : mg "_law_claiming" = some (.ref a.f__law_claiming)
  b__law_claiming : Binds K a.d__law_claiming ["_law_ru"] []
  F__law_parts : Fun K "_law_parts" "_law_parts" sParts a.f__law_parts a.d__law_parts
  g__law_parts : mg "_law_parts" = some (.ref a.f__law_parts)
  b__law_parts : Binds K a.d__law_parts ["_law_bag_here"] []
  F__law_good_parts : Fun K "_law_good_parts" "_law_good_parts" sGoodP a.f__law_good_parts a.d__law_good_parts
  g__law_good_parts : mg "_law_good_parts" = some (.ref a.f__law_good_parts)
  b__law_good_parts : Binds K a.d__law_good_parts ["_law_bag_here"] []
  F__law_is_rule : Fun K "_law_is_rule" "_law_is_rule" sIsR a.f__law_is_rule a.d__law_is_rule
  g__law_is_rule : mg "_law_is_rule" = some (.ref a.f__law_is_rule)
  b__law_is_rule : Binds K a.d__law_is_rule ["_law_parts_here"] []
  F__law_made_rule : Fun K "_law_made_rule" "_law_made_rule" sMade a.f__law_made_rule a.d__law_made_rule
  g__law_made_rule : mg "_law_made_rule" = some (.ref a.f__law_made_rule)
  b__law_made_rule : Binds K a.d__law_made_rule ["_law_parts_here"] []
  F__law_near_parts : Fun K "_law_near_parts" "_law_near_parts" sNear a.f__law_near_parts a.d__law_near_parts
  g__law_near_parts : mg "_law_near_parts" = some (.ref a.f__law_near_parts)
  b__law_near_parts : Binds K a.d__law_near_parts ["_law_bag_here", "_law_few", "_law_old"] []
  F__law_more_right : Fun K "_law_more_right" "_law_more_right" sMore a.f__law_more_right a.d__law_more_right
  g__law_more_right : mg "_law_more_right" = some (.ref a.f__law_more_right)
  b__law_more_right : Binds K a.d__law_more_right ["_law_held", "_law_parts_here"] []
  F_law : Fun K "law" "law" sLaw a.f_law a.d_law
  g_law : mg "law" = some (.ref a.f_law)
  b_law : Binds K a.d_law ["_law_script"] []
  g_Bounds : mg "Bounds" = some (.ref a.C_Bounds)
  cl_Bounds : Cls K a.C_Bounds
  n_Bounds_lost : NoAttr K a.C_Bounds "lost"
  n_Bounds_late : NoAttr K a.C_Bounds "late"
  is_Bounds : C8.InsC K a.C_Bounds
  F_Bounds___init__ : Fun K "__init__" "Bounds.__init__" sBInit a.f_Bounds___init__ a.d_Bounds___init__
  mk_Bounds : Mk K a.C_Bounds a.f_Bounds___init__
  g_Rule : mg "Rule" = some (.ref a.C_Rule)
  cl_Rule : Cls K a.C_Rule
  n_Rule_probes : NoAttr K a.C_Rule "probes"
  n_Rule_gap : NoAttr K a.C_Rule "gap"
  n_Rule_wait : NoAttr K a.C_Rule "wait"
  n_Rule_repeats : NoAttr K a.C_Rule "repeats"
  n_Rule_period : NoAttr K a.C_Rule "period"
  n_Rule_life : NoAttr K a.C_Rule "life"
  is_Rule : C8.InsC K a.C_Rule
  F_Rule___init__ : Fun K "__init__" "Rule.__init__" sRInit a.f_Rule___init__ a.d_Rule___init__
  mk_Rule : Mk K a.C_Rule a.f_Rule___init__
  q_B1 : KBn K a.d_Bounds___init__ ["self", "lost", "late"] 1 ["lost", "late"] (pick [0, 1, 2]) (pick [0, 1, 2])
  q_R1 : KBn K a.d_Rule___init__ ["self", "probes", "gap", "wait", "repeats", "period", "life"] 1 ["life", "gap", "probes", "period", "wait", "repeats"] (pick [0, 3, 2, 5, 6, 4, 1]) (pick [0, 3, 2, 5, 6, 4, 1])
  q_R2 : KBn K a.d_Rule___init__ ["self", "probes", "gap", "wait", "repeats", "period", "life"] 1 ["probes", "gap", "wait", "repeats", "period", "life"] (pick [0, 1, 2, 3, 4, 5, 6]) (pick [0, 1, 2, 3, 4, 5, 6])
  q_L1 : KBn K a.d_least_rule ["bounds", "gap"] 1 ["gap"] (pick [0, 1]) (pick [0, 1])
  m_len : mg "len" = none
  m_abs : mg "abs" = none
  m_range : mg "range" = none
  m_max : mg "max" = none
  m_min : mg "min" = none
  m_isinstance : mg "isinstance" = none
  m_bool : mg "bool" = none
  m_int : mg "int" = none
  m_all : mg "all" = none
  m_zip : mg "zip" = none
  m_list : mg "list" = none

/-! the mathematics -/
def mx (i j : Int) : Int := if j > i then j else i
def claimT (p g w : Int) : Int := mx (p - 1) 0 * g + w
def askT (l r g : Int) : Int := 2 * l + 2 * r * g
structure Ru where
  p : Int
  g : Int
  w : Int
  r : Int
  e : Int
  l : Int
structure RuOk (x : Ru) : Prop where
  p : 0 ≤ x.p ∧ x.p ≤ 9
  g : 1 ≤ x.g ∧ x.g ≤ 5
  w : 0 ≤ x.w ∧ x.w ≤ 99
  r : 0 ≤ x.r ∧ x.r ≤ 9
  e : 1 ≤ x.e ∧ x.e ≤ 400
  l : 1 ≤ x.l ∧ x.l ≤ 400
  c : claimT x.p x.g x.w + 2 ≤ x.e
def bF (x y : Int) : List (Str × V) := [("lost", .int x), ("late", .int y)]
def rF (x : Ru) : List (Str × V) := [("probes", .int x.p), ("gap", .int x.g), ("wait", .int x.w), ("repeats", .int x.r), ("period", .int x.e), ("life", .int x.l)]
def BAt (C : Addr) (H : Hp) (b : Addr) (x y : Int) : Prop := ∃ dx, H b = some (.ins C dx (bF x y))
def RAt (C : Addr) (H : Hp) (b : Addr) (x : Ru) : Prop := ∃ dx, H b = some (.ins C dx (rF x))
theorem BAt.same {C : Addr} {H H' : Hp} {b : Addr} {x y : Int} (s : Same H H') (h : BAt C H b x y) : BAt C H' b x y := h.elim fun dx e => ⟨dx, s _ _ e⟩
theorem RAt.same {C : Addr} {H H' : Hp} {b : Addr} {x : Ru} (s : Same H H') (h : RAt C H b x) : RAt C H' b x := h.elim fun dx e => ⟨dx, s _ _ e⟩
structure BdOk (x y : Int) : Prop where
  x : 0 ≤ x ∧ x ≤ 3
  y : 1 ≤ y ∧ y ≤ 5
section
variable {P : Program} {w : World} {K : PySem.W.Frag} {mg : Str → Option Value} {base : Heap} {a : Adr}
/-! _law_take -/
theorem ok_take {f : Addr} {fd : FuncData} {k : Nat} (F : Fun K "_law_take" "_law_take" sTake f fd) : FnOk P w K mg base CX0 (k + 1) f fd ["_law_bag_here", "_law_many"] spTake := by
  refine F.ok scT (fun vs H Q E h => ?_) (fun cdv A outer s H vs Q E hr h => ?_)
  · obtain ⟨a, n, rfl, _⟩ := h
    rfl
  · obtain ⟨a, n, rfl, ⟨g, m, ha, hm⟩, hn, q⟩ := h
    refine ⟨_, pss_cons (ps_if (pt_cmpR op_gt (pe_ix ix_list (pv 0) pe_int (fun _ _ => rfl)) pe_int (nomark _))
        (pss_cons (ps_set (i := 2) scT.nd rfl (.inl rfl) (pe_op op_mod (pe_ix ix_list (pv 0) pe_int (fun _ _ => rfl)) (pv 1)))
        (pss_cons (ps_asg (pe_op op_fdiv (pe_ix ix_list (pv 0) pe_int (fun _ _ => rfl)) (pv 1)) (pg_sub (pv 0) pe_int set_list))
        (pss_one (ps_ret (pv 2))))) pss_nil)
      (pss_cons (ps_asg (pe_op op_mod (pe_op op_add (pe_op op_mul (pe_ix ix_list (pv 0) pe_int (fun _ _ => rfl)) pe_int) pe_int) pe_int) (pg_sub (pv 0) pe_int set_list))
      (pss_one (ps_ret (pe_op op_mod (pe_op op_fdiv (pe_op op_mod (pe_op op_pow (pe_ix ix_list (pv 0) pe_int (fun _ _ => rfl)) pe_int) pe_int) pe_int) (pv 1))))), ?_⟩
    refine ⟨_, rfl, a, _, 0, .int g, rfl, rfl, SqL.of ha, rfl, g, 0, rfl, rfl, _, rfl, ite2 (fun e => ?_) (fun e => ?_)⟩
    · refine ⟨_, rfl, a, _, 0, .int g, rfl, rfl, SqL.of ha, rfl, _, rfl, g, n, rfl, rfl, hn.1, ?_⟩
      refine ⟨_, rfl, a, _, 0, .int g, rfl, rfl, SqL.of ha, rfl, _, rfl, g, n, rfl, rfl, hn, _, rfl, a, _, 0, 0, rfl, rfl, ha, rfl, ?_⟩
      exact ⟨_, rfl, q _ _ (Int.emod_nonneg _ (by omega)) (Int.emod_lt_of_pos _ hn.1) ⟨_, _, upd_same, hm⟩ Kp.at_bag⟩
    · have h0 : 0 ≤ (m * 69069 + 1327217) % 2147483647 := Int.emod_nonneg _ (by omega)
      have h1 : (m * 69069 + 1327217) % 2147483647 < 2147483647 := Int.emod_lt_of_pos _ (by omega)
      refine ⟨_, rfl, a, _, 1, .int m, rfl, rfl, SqL.of ha, rfl, m, 69069, rfl, rfl, .inl ⟨by omega, by omega⟩, _, 1327217, rfl, rfl, _, 2147483647, rfl, rfl, by show (0 : Int) < 2147483647; decide,
        _, rfl, a, _, 1, 1, rfl, rfl, ha, rfl, ?_⟩
      refine ⟨_, rfl, a, _, 1, _, rfl, rfl, SqL.of upd_same, rfl, _, 3, rfl, rfl, ⟨by decide, by decide, by omega⟩, _, 2147483629, rfl, rfl, by show (0 : Int) < 2147483629; decide,
        _, 16, rfl, rfl, ⟨by decide, by decide⟩, _, rfl, _, n, rfl, rfl, hn.1, ?_⟩
      exact q _ _ (Int.emod_nonneg _ (by omega)) (Int.emod_lt_of_pos _ hn.1) ⟨_, _, upd_same, h0, h1⟩ Kp.at_bag
/-! _law_bag -/
def primes : List V := [.int 2147483647, .int 2147483629, .int 2147483587, .int 2147483579, .int 2147483563, .int 2147483549, .int 2147483543, .int 2147483497]
theorem prime_at (i : Nat) : ∃ q : Int, primes[i % 8]? = some (.int q) ∧ 0 < q ∧ q ≤ 2147483647 := by
  have h : i % 8 < 8 := Nat.mod_lt _ (by decide)
  generalize i % 8 = j at h
  match j, h with
  | 0, _ => exact ⟨_, rfl, by decide, by decide⟩
  | 1, _ => exact ⟨_, rfl, by decide, by decide⟩
  | 2, _ => exact ⟨_, rfl, by decide, by decide⟩
  | 3, _ => exact ⟨_, rfl, by decide, by decide⟩
  | 4, _ => exact ⟨_, rfl, by decide, by decide⟩
  | 5, _ => exact ⟨_, rfl, by decide, by decide⟩
  | 6, _ => exact ⟨_, rfl, by decide, by decide⟩
  | 7, _ => exact ⟨_, rfl, by decide, by decide⟩
  | n + 8, h => exact absurd h (by omega)
theorem ok_bag {f : Addr} {fd : FuncData} {k : Nat} (F : Fun K "_law_bag" "_law_bag" sBag f fd) (ml : mg "len" = none) (ma : mg "abs" = none) : FnOk P w K mg base CX0 (k + 1) f fd ["_law_script", "_law_at"] (spBag K) := by
  refine F.ok scB (fun vs H Q E h => ?_) (fun cdv A outer s H vs Q E hr h => ?_)
  · obtain ⟨a, ns, i, rfl, _⟩ := h
    rfl
  · obtain ⟨a, ns, i, rfl, ha, hi, q⟩ := h
    refine ⟨_, pss_cons (ps_set (i := 2) scB.nd rfl (.inl rfl) pe_int)
      (C8.pss_cut (ps_if (pt_cmpR op_lt (pv 1) (pe_callB call_len_seq (by rfl) ml PySem.boot_len (pa_cons (pv 0) pa_nil)) (nomark _)) (pss_one (ps_set (i := 2) scB.nd rfl (.inl rfl) (pe_ix ix_list (pv 0) (pv 1) (fun _ _ => rfl)))) pss_nil)
      (pss_cons (ps_set (i := 3) scB.nd rfl (.inl rfl) pe_int)
      (C8.pss_cut (ps_if (pt_cmpR op_ge (pe_callB call_abs (by rfl) ma (by decide +kernel) (pa_cons (pv 2) pa_nil)) (pe_op op_pow pe_int pe_int) (nomark _)) (pss_one (ps_set (i := 3) scB.nd rfl (.inl rfl) (pe_callB call_abs (by rfl) ma (by decide +kernel) (pa_cons (pv 2) pa_nil)))) pss_nil)
      (pss_cons (ps_set (i := 4) scB.nd rfl (.inl rfl) (pe_lst (pa_cons pe_int (pa_cons pe_int (pa_cons pe_int (pa_cons pe_int (pa_cons pe_int (pa_cons pe_int (pa_cons pe_int (pa_cons pe_int pa_nil))))))))))
      (pss_cons (ps_set (i := 5) scB.nd rfl (.inl rfl) (pe_op op_add (pe_op op_add (pe_op op_add (pe_op op_mul (pe_op op_mod (pv 2) pe_int) pe_int) (pe_op op_mul (pe_op op_mul pe_int (pv 1)) (pv 1))) (pe_op op_mul pe_int (pv 1))) pe_int))
      (pss_one (ps_ret (pe_lst (pa_cons (pv 3) (pa_cons (pe_op op_mod (pv 5) (pe_ix ix_list (pv 4) (pe_op op_mod (pv 1) pe_int) (fun _ _ => rfl))) pa_nil)))))))))), ?_⟩
    refine ⟨fun σ' H' => ∃ c : Int, σ' = [some (.ref a), some (.int (i : Int)), some (.int c), none, none, none] ∧ H = H', ?_, ?_⟩
    · refine ⟨_, rfl, _, rfl, a, _, rfl, .inl ha, _, _, rfl, rfl, _, rfl, ite2 (fun e => ?_) (fun e => ⟨_, rfl, rfl⟩)⟩
      have h1 : i < ns.length := by
        have z := of_decide_eq_true e
        rw [List.length_map] at z
        omega
      refine ⟨_, rfl, _, rfl, a, _, _, .int ns[i], rfl, rfl, ha, atI_nat ?_, ⟨_, rfl, rfl⟩⟩
      rw [List.getElem?_map, List.getElem?_eq_getElem h1]
      rfl
    · rintro σ' H' ⟨c, rfl, rfl⟩
      refine ⟨fun σ' H' => ∃ g : Int, σ' = [some (.ref a), some (.int (i : Int)), some (.int c), some (.int g), none, none] ∧ H = H', ?_, ?_⟩
      · exact ⟨_, rfl, c, rfl, _, 18, rfl, rfl, ⟨by decide, by decide, by decide⟩, _, _, rfl, rfl, _, rfl, ite2 (fun e => ⟨_, rfl, c, rfl, ⟨_, rfl, rfl⟩⟩) (fun e => ⟨_, rfl, rfl⟩)⟩
      · rintro σ' H' ⟨g, rfl, rfl⟩
        refine ⟨by show 8 ≤ sizeLine; decide, fun p np => ?_⟩
        have s1 := same_upd (o := .lst primes) np
        obtain ⟨z, hz, z1, z2⟩ := prime_at i
        refine ⟨_, rfl, c, 2147483647, rfl, rfl, by show (0 : Int) < 2147483647; decide, _, 50021, rfl, rfl, .inr ⟨by decide, by decide⟩, _, rfl, 70001, (i : Int), rfl, rfl, .inl ⟨by decide, by decide⟩,
          _, rfl, _, (i : Int), rfl, rfl, .inr ⟨by omega, by omega⟩, _, _, rfl, rfl, _, rfl, 9001, (i : Int), rfl, rfl, .inl ⟨by decide, by decide⟩, _, _, rfl, rfl, _, 7717, rfl, rfl, ?_⟩
        refine ⟨_, rfl, _, rfl, _, rfl, _, rfl, (i : Int), 8, rfl, rfl, by show (0 : Int) < 8; decide, p, primes, ((i % 8 : Nat) : Int), .int z, rfl, ?_, SqL.of upd_same, atI_nat hz, _, z, rfl, rfl, z1, by show 2 ≤ sizeLine; decide, fun p2 np2 => ?_⟩
        · show V.int ((i : Int) % 8) = _
          rw [Int.natCast_emod]
          rfl
        exact q _ p2 (s1.trans (same_upd np2)) (s1.free np2) ⟨_, _, upd_same, Int.emod_nonneg _ (by omega), Int.lt_of_lt_of_le (Int.emod_lt_of_pos _ z1) z2⟩

theorem ok__law_take (T : Tx K mg a) : FnOk P w K mg base CX0 1 a.f__law_take a.d__law_take ["_law_bag_here", "_law_many"] spTake := ok_take T.F__law_take
theorem ok__law_bag (T : Tx K mg a) : FnOk P w K mg base CX0 1 a.f__law_bag a.d__law_bag ["_law_script", "_law_at"] (spBag K) := ok_bag T.F__law_bag T.m_len T.m_abs
/-! small defs -/
def spWhole : Sp := fun vs H Q _ => ∃ i : Int, vs = [.int i] ∧ Q (.bl true) H
theorem ok_is_whole (T : Tx K mg a) : FnOk P w K mg base CX0 1 a.f_is_whole a.d_is_whole ["thing"] spWhole := by
  refine T.F_is_whole.ok sc_is_whole (fun vs H Q E h => ?_) (fun cdv A outer s H vs Q E hr h => ?_)
  · obtain ⟨i, rfl, _⟩ := h
    rfl
  · obtain ⟨i, rfl, q⟩ := h
    refine ⟨_, (pss_one (ps_ret (pe_and (pe_callB call_isi (by rfl) T.m_isinstance (by decide +kernel) (pa_cons (pv 0) (pa_cons (pe_bltn (v := .ty "int") (by rfl) T.m_int (by decide +kernel) rfl) pa_nil))) (pe_one (pe_not (pe_callB call_isi (by rfl) T.m_isinstance (by decide +kernel) (pa_cons (pv 0) (pa_cons (pe_bltn (v := .ty "bool") (by rfl) T.m_bool (by decide +kernel) rfl) pa_nil)))))))), ?_⟩
    refine ⟨_, rfl, _, _, _, _, true, rfl, .ty _, .base (.int i), kit_ty (by decide +kernel), true, rfl, ?_⟩
    exact iteT ⟨_, rfl, _, _, _, _, false, rfl, .ty _, .base (.int i), kit_ty (by decide +kernel), false, rfl, q⟩
theorem ok__law_is_whole (T : Tx K mg a) : FnOk P w K mg base CX0 1 a.f__law_is_whole a.d__law_is_whole ["_law_thing"] spWhole := by
  refine T.F__law_is_whole.ok sc__law_is_whole (fun vs H Q E h => ?_) (fun cdv A outer s H vs Q E hr h => ?_)
  · obtain ⟨i, rfl, _⟩ := h
    rfl
  · obtain ⟨i, rfl, q⟩ := h
    refine ⟨_, (pss_one (ps_ret (pe_and (pe_callB call_isi (by rfl) T.m_isinstance (by decide +kernel) (pa_cons (pv 0) (pa_cons (pe_bltn (v := .ty "int") (by rfl) T.m_int (by decide +kernel) rfl) pa_nil))) (pe_one (pe_not (pe_callB call_isi (by rfl) T.m_isinstance (by decide +kernel) (pa_cons (pv 0) (pa_cons (pe_bltn (v := .ty "bool") (by rfl) T.m_bool (by decide +kernel) rfl) pa_nil)))))))), ?_⟩
    refine ⟨_, rfl, _, _, _, _, true, rfl, .ty _, .base (.int i), kit_ty (by decide +kernel), true, rfl, ?_⟩
    exact iteT ⟨_, rfl, _, _, _, _, false, rfl, .ty _, .base (.int i), kit_ty (by decide +kernel), false, rfl, q⟩
def within (t lo hi : Int) : Bool := decide (lo ≤ t) && decide (t ≤ hi)
def spWithin : Sp := fun vs H Q _ => ∃ t lo hi : Int, vs = [.int t, .int lo, .int hi] ∧ Q (.bl (within t lo hi)) H
theorem ok_is_within (T : Tx K mg a) : FnOk P w K mg base CX0 2 a.f_is_within a.d_is_within ["thing", "low", "high"] spWithin := by
  refine T.F_is_within.ok sc_is_within (fun vs H Q E h => ?_) (fun cdv A outer s H vs Q E hr h => ?_)
  · obtain ⟨i, lo, hi, rfl, _⟩ := h
    rfl
  · obtain ⟨i, lo, hi, rfl, q⟩ := h
    refine ⟨_, (pss_one (ps_ret (pe_and (pe_call (ok_is_whole T) (hr.mono (by decide)) (by rfl) T.g_is_whole T.F_is_whole.kp T.b_is_whole .nil pass0 (pa_cons (pv 0) pa_nil)) (pe_one (pe_chain op_le op_le (pv 1) (pv 0) (pv 2)))))), ?_⟩
    refine ⟨_, rfl, i, rfl, true, rfl, iteT ?_⟩
    refine ⟨_, rfl, _, rfl, lo, i, rfl, rfl, _, rfl, ite2 (fun e => ?_) (fun e => ?_)⟩
    · refine ⟨_, rfl, i, hi, rfl, rfl, ?_⟩
      unfold within at q
      rw [e, Bool.true_and] at q
      exact q
    · unfold within at q
      rw [Bool.not_eq_true _ |>.mp e, Bool.false_and] at q
      exact q
def spGap : Sp := fun vs H Q _ => ∃ t : Int, vs = [.int t] ∧ Q (.bl (within t 1 5)) H
theorem ok_is_gap (T : Tx K mg a) : FnOk P w K mg base CX0 3 a.f_is_gap a.d_is_gap ["thing"] spGap := by
  refine T.F_is_gap.ok sc_is_gap (fun vs H Q E h => ?_) (fun cdv A outer s H vs Q E hr h => ?_)
  · obtain ⟨i, rfl, _⟩ := h
    rfl
  · obtain ⟨i, rfl, q⟩ := h
    exact ⟨_, (pss_one (ps_ret (pe_call (ok_is_within T) (hr.mono (by decide)) (by rfl) T.g_is_within T.F_is_within.kp T.b_is_within .nil pass0 (pa_cons (pv 0) (pa_cons pe_int (pa_cons pe_int pa_nil)))))), ⟨_, rfl, i, 1, 5, rfl, q⟩⟩
def big (i : Int) : Prop := -1000000 ≤ i ∧ i ≤ 1000000
def spClaim : Sp := fun vs H Q _ => ∃ p g w : Int, vs = [.int p, .int g, .int w] ∧ big p ∧ Q (.int (claimT p g w)) H
theorem ok_claiming_ticks (T : Tx K mg a) : FnOk P w K mg base CX0 1 a.f_claiming_ticks a.d_claiming_ticks ["probes", "gap", "wait"] spClaim := by
  refine T.F_claiming_ticks.ok sc_claiming_ticks (fun vs H Q E h => ?_) (fun cdv A outer s H vs Q E hr h => ?_)
  · obtain ⟨p, g, w, rfl, _⟩ := h
    rfl
  · obtain ⟨p, g, w, rfl, hp, q⟩ := h
    refine ⟨_, (pss_one (ps_ret (pe_op op_add (pe_op op_mul (pe_callB (call_max2 rfl) (by rfl) T.m_max (by decide +kernel) (pa_cons (pe_op op_sub (pv 0) pe_int) (pa_cons pe_int pa_nil))) (pv 1)) (pv 2)))), ?_⟩
    obtain ⟨h1, h2⟩ := hp
    exact ⟨_, rfl, p, 1, rfl, rfl, p - 1, 0, rfl, _, rfl, _, g, rfl, rfl, .inl ⟨by split <;> omega, by split <;> omega⟩, _, rfl, _, w, rfl, rfl, q⟩
def spPeriod : Sp := fun vs H Q _ => ∃ p g w : Int, vs = [.int p, .int g, .int w] ∧ big p ∧ Q (.int (claimT p g w + 2)) H
theorem ok_least_period (T : Tx K mg a) : FnOk P w K mg base CX0 2 a.f_least_period a.d_least_period ["probes", "gap", "wait"] spPeriod := by
  refine T.F_least_period.ok sc_least_period (fun vs H Q E h => ?_) (fun cdv A outer s H vs Q E hr h => ?_)
  · obtain ⟨p, g, w, rfl, _⟩ := h
    rfl
  · obtain ⟨p, g, w, rfl, hp, q⟩ := h
    exact ⟨_, (pss_one (ps_ret (pe_op op_add (pe_call (ok_claiming_ticks T) (hr.mono (by decide)) (by rfl) T.g_claiming_ticks T.F_claiming_ticks.kp T.b_claiming_ticks .nil pass0 (pa_cons (pv 0) (pa_cons (pv 1) (pa_cons (pv 2) pa_nil)))) pe_int))), ⟨_, rfl, _, rfl, _, rfl, p, g, w, rfl, hp, _, 2, rfl, rfl, q⟩⟩
def spAsk : Sp := fun vs H Q _ => ∃ l r g : Int, vs = [.int l, .int r, .int g] ∧ big r ∧ Q (.int (askT l r g)) H
theorem ok_asking_ticks (T : Tx K mg a) : FnOk P w K mg base CX0 1 a.f_asking_ticks a.d_asking_ticks ["late", "repeats", "gap"] spAsk := by
  refine T.F_asking_ticks.ok sc_asking_ticks (fun vs H Q E h => ?_) (fun cdv A outer s H vs Q E hr h => ?_)
  · obtain ⟨p, g, w, rfl, _⟩ := h
    rfl
  · obtain ⟨l, r, g, rfl, ⟨h1, h2⟩, q⟩ := h
    exact ⟨_, (pss_one (ps_ret (pe_op op_add (pe_op op_mul pe_int (pv 0)) (pe_op op_mul (pe_op op_mul pe_int (pv 1)) (pv 2))))), ⟨_, rfl, 2, l, rfl, rfl, .inl ⟨by decide, by decide⟩, _, rfl, 2, r, rfl, rfl, .inl ⟨by decide, by decide⟩, _, rfl, _, g, rfl, rfl, .inl ⟨by omega, by omega⟩, _, _, rfl, rfl, q⟩⟩
/-! Bounds, Rule -/
theorem within_of {t lo hi : Int} (h : lo ≤ t ∧ t ≤ hi) : within t lo hi = true := by
  unfold within
  rw [decide_eq_true h.1, decide_eq_true h.2]
  rfl
theorem wt {t lo hi : Int} (h : lo ≤ t ∧ t ≤ hi) : V.bl (within t lo hi) = .bl true := congrArg V.bl (within_of h)
def spBI (C : Addr) : Sp := fun vs H Q _ => ∃ (b dx : Addr) (x y : Int), vs = [.ref b, .int x, .int y] ∧ H b = some (.ins C dx []) ∧ BdOk x y ∧ Q .non (upd H b (.ins C dx (bF x y)))
theorem bF_eq (x y : Int) : putF "late" (.int y) (putF "lost" (.int x) []) = bF x y := rfl
theorem ok_binit (T : Tx K mg a) : FnOk P w K mg base CX0 3 a.f_Bounds___init__ a.d_Bounds___init__ ["self", "lost", "late"] (spBI a.C_Bounds) := by
  refine T.F_Bounds___init__.ok sc_binit (fun vs H Q E h => ?_) (fun cdv A outer s H vs Q E hr h => ?_)
  · obtain ⟨b, dx, x, y, rfl, _⟩ := h
    rfl
  · obtain ⟨b, dx, x, y, rfl, hb, ok, q⟩ := h
    refine ⟨_, (pss_cons (ps_if (pt_not (PW.pt (pw_and (pt_val (pe_call (ok_is_within T) (hr.mono (by decide)) (by rfl) T.g_is_within T.F_is_within.kp T.b_is_within .nil pass0 (pa_cons (pv 1) (pa_cons pe_int (pa_cons pe_int pa_nil))))) (pw_and1 (pt_val (pe_call (ok_is_within T) (hr.mono (by decide)) (by rfl) T.g_is_within T.F_is_within.kp T.b_is_within .nil pass0 (pa_cons (pv 2) (pa_cons pe_int (pa_cons pe_int pa_nil))))))))) (pss_one ps_never) pss_nil)
      (pss_cons (ps_fld (pv 0) (pv 1) rfl)
      (pss_one (ps_fld (pv 0) (pv 2) rfl)))), ?_⟩
    refine ⟨_, rfl, x, 0, 3, rfl, true, wt ok.x, iteT ⟨_, rfl, y, 1, 5, rfl, true, wt ok.y, iteF ?_⟩⟩
    refine ⟨_, rfl, _, rfl, b, a.C_Bounds, dx, _, rfl, hb, T.cl_Bounds, T.n_Bounds_lost, by show 0 < 1000; decide, ?_⟩
    refine ⟨_, rfl, _, rfl, b, a.C_Bounds, dx, _, rfl, upd_same, T.cl_Bounds, T.n_Bounds_late, by show 1 < 1000; decide, ?_⟩
    rw [upd_upd]
    exact q
def spRI (C : Addr) : Sp := fun vs H Q _ => ∃ (b dx : Addr) (x : Ru), vs = [.ref b, .int x.p, .int x.g, .int x.w, .int x.r, .int x.e, .int x.l] ∧ H b = some (.ins C dx []) ∧ RuOk x ∧ Q .non (upd H b (.ins C dx (rF x)))
theorem ok_rinit (T : Tx K mg a) : FnOk P w K mg base CX0 4 a.f_Rule___init__ a.d_Rule___init__ ["self", "probes", "gap", "wait", "repeats", "period", "life"] (spRI a.C_Rule) := by
  refine T.F_Rule___init__.ok sc_rinit (fun vs H Q E h => ?_) (fun cdv A outer s H vs Q E hr h => ?_)
  · obtain ⟨b, dx, x, rfl, _⟩ := h
    rfl
  · obtain ⟨b, dx, x, rfl, hb, ok, q⟩ := h
    refine ⟨_, (pss_cons (ps_if (pt_not (PW.pt (pw_and (pt_val (pe_call (ok_is_within T) (hr.mono (by decide)) (by rfl) T.g_is_within T.F_is_within.kp T.b_is_within .nil pass0 (pa_cons (pv 1) (pa_cons pe_int (pa_cons pe_int pa_nil))))) (pw_and (pt_val (pe_call (ok_is_gap T) (hr.mono (by decide)) (by rfl) T.g_is_gap T.F_is_gap.kp T.b_is_gap .nil pass0 (pa_cons (pv 2) pa_nil))) (pw_and1 (pt_val (pe_call (ok_is_within T) (hr.mono (by decide)) (by rfl) T.g_is_within T.F_is_within.kp T.b_is_within .nil pass0 (pa_cons (pv 3) (pa_cons pe_int (pa_cons pe_int pa_nil)))))))))) (pss_one ps_never) pss_nil)
      (pss_cons (ps_if (pt_not (PW.pt (pw_and (pt_val (pe_call (ok_is_within T) (hr.mono (by decide)) (by rfl) T.g_is_within T.F_is_within.kp T.b_is_within .nil pass0 (pa_cons (pv 4) (pa_cons pe_int (pa_cons pe_int pa_nil))))) (pw_and (pt_val (pe_call (ok_is_within T) (hr.mono (by decide)) (by rfl) T.g_is_within T.F_is_within.kp T.b_is_within .nil pass0 (pa_cons (pv 5) (pa_cons pe_int (pa_cons pe_int pa_nil))))) (pw_and1 (pt_val (pe_call (ok_is_within T) (hr.mono (by decide)) (by rfl) T.g_is_within T.F_is_within.kp T.b_is_within .nil pass0 (pa_cons (pv 6) (pa_cons pe_int (pa_cons pe_int pa_nil)))))))))) (pss_one ps_never) pss_nil)
      (pss_cons (ps_if (pt_cmpR op_lt (pv 5) (pe_call (ok_least_period T) (hr.mono (by decide)) (by rfl) T.g_least_period T.F_least_period.kp T.b_least_period .nil pass0 (pa_cons (pv 1) (pa_cons (pv 2) (pa_cons (pv 3) pa_nil)))) (nomark _)) (pss_one ps_never) pss_nil)
      (pss_cons (ps_fld (pv 0) (pv 1) rfl)
      (pss_cons (ps_fld (pv 0) (pv 2) rfl)
      (pss_cons (ps_fld (pv 0) (pv 3) rfl)
      (pss_cons (ps_fld (pv 0) (pv 4) rfl)
      (pss_cons (ps_fld (pv 0) (pv 5) rfl)
      (pss_one (ps_fld (pv 0) (pv 6) rfl)))))))))), ?_⟩
    refine ⟨_, rfl, _, 0, 9, rfl, true, wt ok.p, iteT ⟨_, rfl, _, rfl, true, wt ok.g, iteT ⟨_, rfl, _, 0, 99, rfl, true, wt ok.w, iteF ?_⟩⟩⟩
    refine ⟨_, rfl, _, 0, 9, rfl, true, wt ok.r, iteT ⟨_, rfl, _, 1, 400, rfl, true, wt ok.e, iteT ⟨_, rfl, _, 1, 400, rfl, true, wt ok.l, iteF ?_⟩⟩⟩
    have hp := ok.p
    have hc := ok.c
    refine ⟨_, rfl, _, rfl, _, rfl, _, rfl, _, _, _, rfl, ⟨by omega, by omega⟩, _, _, rfl, rfl, _, rfl, ?_⟩
    rw [decide_eq_false (by omega)]
    refine iteF ?_
    refine ⟨_, rfl, _, rfl, b, a.C_Rule, dx, _, rfl, hb, T.cl_Rule, T.n_Rule_probes, by show 0 < 1000; decide, ?_⟩
    refine ⟨_, rfl, _, rfl, b, a.C_Rule, dx, _, rfl, upd_same, T.cl_Rule, T.n_Rule_gap, by show 1 < 1000; decide, ?_⟩
    refine ⟨_, rfl, _, rfl, b, a.C_Rule, dx, _, rfl, upd_same, T.cl_Rule, T.n_Rule_wait, by show 2 < 1000; decide, ?_⟩
    refine ⟨_, rfl, _, rfl, b, a.C_Rule, dx, _, rfl, upd_same, T.cl_Rule, T.n_Rule_repeats, by show 3 < 1000; decide, ?_⟩
    refine ⟨_, rfl, _, rfl, b, a.C_Rule, dx, _, rfl, upd_same, T.cl_Rule, T.n_Rule_period, by show 4 < 1000; decide, ?_⟩
    refine ⟨_, rfl, _, rfl, b, a.C_Rule, dx, _, rfl, upd_same, T.cl_Rule, T.n_Rule_life, by show 5 < 1000; decide, ?_⟩
    rw [upd_upd, upd_upd, upd_upd, upd_upd, upd_upd]
    exact q
/-! checks and times -/
def spChB (C : Addr) : Sp := fun vs H Q _ => ∃ (b : Addr) (x y : Int), vs = [.ref b] ∧ BAt C H b x y ∧ Q .non H
theorem ok_check_bounds (T : Tx K mg a) : FnOk P w K mg base CX0 1 a.f_check_bounds a.d_check_bounds ["bounds"] (spChB a.C_Bounds) := by
  refine T.F_check_bounds.ok sc_check_bounds (fun vs H Q E h => ?_) (fun cdv A outer s H vs Q E hr h => ?_)
  · obtain ⟨b, x, y, rfl, _⟩ := h
    rfl
  · obtain ⟨b, x, y, rfl, ⟨dx, hb⟩, q⟩ := h
    exact ⟨_, (pss_one (ps_if (pt_not (pt_val (pe_callB (C8.call_isC T.is_Bounds) (by rfl) T.m_isinstance (by decide +kernel) (pa_cons (pv 0) (pa_cons (pe_glob (v := .ref a.C_Bounds) rfl T.g_Bounds rfl) pa_nil))))) (pss_one ps_never) pss_nil)), ⟨_, rfl, b, dx, _, rfl, hb, true, rfl, iteF q⟩⟩
def spChR (C : Addr) : Sp := fun vs H Q _ => ∃ (b : Addr) (x : Ru), vs = [.ref b] ∧ RAt C H b x ∧ Q .non H
theorem ok_check_rule (T : Tx K mg a) : FnOk P w K mg base CX0 1 a.f_check_rule a.d_check_rule ["rule"] (spChR a.C_Rule) := by
  refine T.F_check_rule.ok sc_check_rule (fun vs H Q E h => ?_) (fun cdv A outer s H vs Q E hr h => ?_)
  · obtain ⟨b, x, rfl, _⟩ := h
    rfl
  · obtain ⟨b, x, rfl, ⟨dx, hb⟩, q⟩ := h
    exact ⟨_, (pss_one (ps_if (pt_not (pt_val (pe_callB (C8.call_isC T.is_Rule) (by rfl) T.m_isinstance (by decide +kernel) (pa_cons (pv 0) (pa_cons (pe_glob (v := .ref a.C_Rule) rfl T.g_Rule rfl) pa_nil))))) (pss_one ps_never) pss_nil)), ⟨_, rfl, b, dx, _, rfl, hb, true, rfl, iteF q⟩⟩
def spTwo (CB CR : Addr) (f : Int → Int → Ru → V) : Sp := fun vs H Q _ => ∃ (b c : Addr) (x y : Int) (r : Ru), vs = [.ref b, .ref c] ∧ BAt CB H b x y ∧ RAt CR H c r ∧ BdOk x y ∧ RuOk r ∧ Q (f x y r) H
theorem ok_check_both (T : Tx K mg a) : FnOk P w K mg base CX0 2 a.f_check_both a.d_check_both ["bounds", "rule"] (spTwo a.C_Bounds a.C_Rule fun _ _ _ => .non) := by
  refine T.F_check_both.ok sc_check_both (fun vs H Q E h => ?_) (fun cdv A outer s H vs Q E hr h => ?_)
  · obtain ⟨b, c, x, y, r, rfl, _⟩ := h
    rfl
  · obtain ⟨b, c, x, y, r, rfl, hb, hc, _, _, q⟩ := h
    exact ⟨_, (pss_cons (ps_expr (pe_call (ok_check_bounds T) (hr.mono (by decide)) (by rfl) T.g_check_bounds T.F_check_bounds.kp T.b_check_bounds .nil pass0 (pa_cons (pv 0) pa_nil)))
      (pss_one (ps_expr (pe_call (ok_check_rule T) (hr.mono (by decide)) (by rfl) T.g_check_rule T.F_check_rule.kp T.b_check_rule .nil pass0 (pa_cons (pv 1) pa_nil))))), ⟨_, rfl, b, x, y, rfl, hb, _, rfl, c, r, rfl, hc, q⟩⟩
def spCt (C : Addr) : Sp := fun vs H Q _ => ∃ (b : Addr) (r : Ru), vs = [.ref b] ∧ RAt C H b r ∧ RuOk r ∧ Q (.int (claimT r.p r.g r.w)) H
theorem ok_claiming_time (T : Tx K mg a) : FnOk P w K mg base CX0 2 a.f_claiming_time a.d_claiming_time ["rule"] (spCt a.C_Rule) := by
  refine T.F_claiming_time.ok sc_claiming_time (fun vs H Q E h => ?_) (fun cdv A outer s H vs Q E hr h => ?_)
  · obtain ⟨b, r, rfl, _⟩ := h
    rfl
  · obtain ⟨b, r, rfl, hb, ok, q⟩ := h
    refine ⟨_, (pss_cons (ps_expr (pe_call (ok_check_rule T) (hr.mono (by decide)) (by rfl) T.g_check_rule T.F_check_rule.kp T.b_check_rule .nil pass0 (pa_cons (pv 0) pa_nil)))
      (pss_one (ps_ret (pe_call (ok_claiming_ticks T) (hr.mono (by decide)) (by rfl) T.g_claiming_ticks T.F_claiming_ticks.kp T.b_claiming_ticks .nil pass0 (pa_cons (pe_fld (pv 0) rfl) (pa_cons (pe_fld (pv 0) rfl) (pa_cons (pe_fld (pv 0) rfl) pa_nil))))))), ?_⟩
    have hp := ok.p
    refine ⟨_, rfl, b, r, rfl, hb, ?_⟩
    obtain ⟨dx, hb⟩ := hb
    exact ⟨_, rfl, b, _, dx, _, _, rfl, hb, T.cl_Rule, T.n_Rule_probes, rfl, _, rfl, b, _, dx, _, _, rfl, hb, T.cl_Rule, T.n_Rule_gap, rfl, _, rfl, b, _, dx, _, _, rfl, hb, T.cl_Rule, T.n_Rule_wait, rfl, _, _, _, rfl, ⟨by omega, by omega⟩, q⟩
theorem ok_asking_time (T : Tx K mg a) : FnOk P w K mg base CX0 3 a.f_asking_time a.d_asking_time ["bounds", "rule"] (spTwo a.C_Bounds a.C_Rule fun _ y r => .int (askT y r.r r.g)) := by
  refine T.F_asking_time.ok sc_asking_time (fun vs H Q E h => ?_) (fun cdv A outer s H vs Q E hr h => ?_)
  · obtain ⟨b, c, x, y, r, rfl, _⟩ := h
    rfl
  · obtain ⟨b, c, x, y, r, rfl, hb, hc, o1, o2, q⟩ := h
    refine ⟨_, (pss_cons (ps_expr (pe_call (ok_check_both T) (hr.mono (by decide)) (by rfl) T.g_check_both T.F_check_both.kp T.b_check_both .nil pass0 (pa_cons (pv 0) (pa_cons (pv 1) pa_nil))))
      (pss_one (ps_ret (pe_call (ok_asking_ticks T) (hr.mono (by decide)) (by rfl) T.g_asking_ticks T.F_asking_ticks.kp T.b_asking_ticks .nil pass0 (pa_cons (pe_fld (pv 0) rfl) (pa_cons (pe_fld (pv 1) rfl) (pa_cons (pe_fld (pv 1) rfl) pa_nil))))))), ?_⟩
    have hp := o2.r
    refine ⟨_, rfl, _, rfl, b, c, x, y, r, rfl, hb, hc, o1, o2, ?_⟩
    obtain ⟨dx, hb⟩ := hb
    obtain ⟨dy, hc⟩ := hc
    exact ⟨_, rfl, b, _, dx, _, _, rfl, hb, T.cl_Bounds, T.n_Bounds_late, rfl, _, rfl, c, _, dy, _, _, rfl, hc, T.cl_Rule, T.n_Rule_repeats, rfl, _, rfl, c, _, dy, _, _, rfl, hc, T.cl_Rule, T.n_Rule_gap, rfl, _, _, _, rfl, ⟨by omega, by omega⟩, q⟩
def mendT (x y : Int) (r : Ru) : Int := claimT r.p r.g r.w + (x + 1) * r.e + y
theorem ok_mending_time (T : Tx K mg a) : FnOk P w K mg base CX0 3 a.f_mending_time a.d_mending_time ["bounds", "rule"] (spTwo a.C_Bounds a.C_Rule fun x y r => .int (mendT x y r)) := by
  refine T.F_mending_time.ok sc_mending_time (fun vs H Q E h => ?_) (fun cdv A outer s H vs Q E hr h => ?_)
  · obtain ⟨b, c, x, y, r, rfl, _⟩ := h
    rfl
  · obtain ⟨b, c, x, y, r, rfl, hb, hc, o1, o2, q⟩ := h
    refine ⟨_, (pss_cons (ps_expr (pe_call (ok_check_both T) (hr.mono (by decide)) (by rfl) T.g_check_both T.F_check_both.kp T.b_check_both .nil pass0 (pa_cons (pv 0) (pa_cons (pv 1) pa_nil))))
      (pss_one (ps_ret (pe_op op_add (pe_op op_add (pe_call (ok_claiming_time T) (hr.mono (by decide)) (by rfl) T.g_claiming_time T.F_claiming_time.kp T.b_claiming_time .nil pass0 (pa_cons (pv 1) pa_nil)) (pe_op op_mul (pe_op op_add (pe_fld (pv 0) rfl) pe_int) (pe_fld (pv 1) rfl))) (pe_fld (pv 0) rfl))))), ?_⟩
    have hx := o1.x
    refine ⟨_, rfl, _, rfl, b, c, x, y, r, rfl, hb, hc, o1, o2, ?_⟩
    refine ⟨_, rfl, c, r, rfl, hc, o2, ?_⟩
    obtain ⟨dx, hb⟩ := hb
    obtain ⟨dy, hc⟩ := hc
    exact ⟨_, rfl, b, _, dx, _, _, rfl, hb, T.cl_Bounds, T.n_Bounds_lost, rfl, _, 1, rfl, rfl, _, rfl, c, _, dy, _, _, rfl, hc, T.cl_Rule, T.n_Rule_period, rfl, _, _, rfl, rfl, .inl ⟨by omega, by omega⟩, _, _, rfl, rfl, _, rfl, b, _, dx, _, _, rfl, hb, T.cl_Bounds, T.n_Bounds_late, rfl, _, _, rfl, rfl, q⟩
def fitsB (y : Int) (r : Ru) : Bool := decide (2 * askT y r.r r.g ≤ r.l)
theorem ok_fits (T : Tx K mg a) : FnOk P w K mg base CX0 4 a.f_fits a.d_fits ["bounds", "rule"] (spTwo a.C_Bounds a.C_Rule fun _ y r => .bl (fitsB y r)) := by
  refine T.F_fits.ok sc_fits (fun vs H Q E h => ?_) (fun cdv A outer s H vs Q E hr h => ?_)
  · obtain ⟨b, c, x, y, r, rfl, _⟩ := h
    rfl
  · obtain ⟨b, c, x, y, r, rfl, hb, hc, o1, o2, q⟩ := h
    refine ⟨_, (pss_cons (ps_expr (pe_call (ok_check_both T) (hr.mono (by decide)) (by rfl) T.g_check_both T.F_check_both.kp T.b_check_both .nil pass0 (pa_cons (pv 0) (pa_cons (pv 1) pa_nil))))
      (pss_one (ps_ret (pe_cmpR op_ge (pe_fld (pv 1) rfl) (pe_op op_mul pe_int (pe_call (ok_asking_time T) (hr.mono (by decide)) (by rfl) T.g_asking_time T.F_asking_time.kp T.b_asking_time .nil pass0 (pa_cons (pv 0) (pa_cons (pv 1) pa_nil)))) (nomark _))))), ?_⟩
    refine ⟨_, rfl, _, rfl, b, c, x, y, r, rfl, hb, hc, o1, o2, ?_⟩
    obtain ⟨dy, hc'⟩ := id hc
    exact ⟨_, rfl, c, _, dy, _, _, rfl, hc', T.cl_Rule, T.n_Rule_life, rfl, _, rfl, _, rfl, b, c, x, y, r, rfl, hb, hc, o1, o2, 2, _, rfl, rfl, .inl ⟨by decide, by decide⟩, _, _, rfl, rfl, q⟩
def waitT (x y g : Int) : Int := 2 * y + x * g
def spLw (C : Addr) : Sp := fun vs H Q _ => ∃ (b : Addr) (x y g : Int), vs = [.ref b, .int g] ∧ BAt C H b x y ∧ BdOk x y ∧ Q (.int (waitT x y g)) H
theorem ok_least_wait (T : Tx K mg a) : FnOk P w K mg base CX0 1 a.f_least_wait a.d_least_wait ["bounds", "gap"] (spLw a.C_Bounds) := by
  refine T.F_least_wait.ok sc_least_wait (fun vs H Q E h => ?_) (fun cdv A outer s H vs Q E hr h => ?_)
  · obtain ⟨b, x, y, g, rfl, _⟩ := h
    rfl
  · obtain ⟨b, x, y, g, rfl, ⟨dx, hb⟩, ok, q⟩ := h
    have hx := ok.x
    exact ⟨_, (pss_one (ps_ret (pe_op op_add (pe_op op_mul pe_int (pe_fld (pv 0) rfl)) (pe_op op_mul (pe_fld (pv 0) rfl) (pv 1))))), ⟨_, rfl, b, _, dx, _, _, rfl, hb, T.cl_Bounds, T.n_Bounds_late, rfl, 2, y, rfl, rfl, .inl ⟨by decide, by decide⟩, _, rfl, b, _, dx, _, _, rfl, hb, T.cl_Bounds, T.n_Bounds_lost, rfl, _, rfl, x, g, rfl, rfl, .inl ⟨by omega, by omega⟩, _, _, rfl, rfl, q⟩⟩
def enB (x y : Int) (r : Ru) : Bool := fitsB y r && (decide (x + 1 ≤ r.p) && (decide (x ≤ r.r) && decide (waitT x y r.g ≤ r.w)))
theorem ok_is_enough (T : Tx K mg a) : FnOk P w K mg base CX0 5 a.f_is_enough a.d_is_enough ["bounds", "rule"] (spTwo a.C_Bounds a.C_Rule fun x y r => .bl (enB x y r)) := by
  refine T.F_is_enough.ok sc_is_enough (fun vs H Q E h => ?_) (fun cdv A outer s H vs Q E hr h => ?_)
  · obtain ⟨b, c, x, y, r, rfl, _⟩ := h
    rfl
  · obtain ⟨b, c, x, y, r, rfl, hb, hc, o1, o2, q⟩ := h
    refine ⟨_, (pss_one (ps_ret (pe_and (pe_call (ok_fits T) (hr.mono (by decide)) (by rfl) T.g_fits T.F_fits.kp T.b_fits .nil pass0 (pa_cons (pv 0) (pa_cons (pv 1) pa_nil))) (pe_and (pe_cmpR op_ge (pe_fld (pv 1) rfl) (pe_op op_add (pe_fld (pv 0) rfl) pe_int) (nomark _)) (pe_and (pe_cmpR op_ge (pe_fld (pv 1) rfl) (pe_fld (pv 0) rfl) (nomark _)) (pe_one (pe_cmpR op_ge (pe_fld (pv 1) rfl) (pe_call (ok_least_wait T) (hr.mono (by decide)) (by rfl) T.g_least_wait T.F_least_wait.kp T.b_least_wait .nil pass0 (pa_cons (pv 0) (pa_cons (pe_fld (pv 1) rfl) pa_nil))) (nomark _)))))))), ?_⟩
    have q : Q (.bl (enB x y r)) H := q
    unfold enB at q
    obtain ⟨dx, hb'⟩ := id hb
    obtain ⟨dy, hc'⟩ := id hc
    refine ⟨_, rfl, _, rfl, b, c, x, y, r, rfl, hb, hc, o1, o2, _, rfl, ite2 (fun e => ?_) (fun e => ?_)⟩
    · rw [e, Bool.true_and] at q
      refine ⟨_, rfl, c, _, dy, _, _, rfl, hc', T.cl_Rule, T.n_Rule_probes, rfl, _, rfl, b, _, dx, _, _, rfl, hb', T.cl_Bounds, T.n_Bounds_lost, rfl, _, 1, rfl, rfl, _, _, rfl, rfl, _, rfl, ite2 (fun e => ?_) (fun e => ?_)⟩
      · rw [e, Bool.true_and] at q
        refine ⟨_, rfl, c, _, dy, _, _, rfl, hc', T.cl_Rule, T.n_Rule_repeats, rfl, _, rfl, b, _, dx, _, _, rfl, hb', T.cl_Bounds, T.n_Bounds_lost, rfl, _, _, rfl, rfl, _, rfl, ite2 (fun e => ?_) (fun e => ?_)⟩
        · rw [e, Bool.true_and] at q
          exact ⟨_, rfl, c, _, dy, _, _, rfl, hc', T.cl_Rule, T.n_Rule_wait, rfl, _, rfl, _, rfl, c, _, dy, _, _, rfl, hc', T.cl_Rule, T.n_Rule_gap, rfl, b, x, y, _, rfl, hb, o1, _, _, rfl, rfl, q⟩
        · rw [Bool.not_eq_true _ |>.mp e, Bool.false_and] at q
          exact q
      · rw [Bool.not_eq_true _ |>.mp e, Bool.false_and] at q
        exact q
    · rw [Bool.not_eq_true _ |>.mp e, Bool.false_and] at q
      exact q
/-! the least rule -/
def leastR (x y g : Int) : Ru := ⟨x + 1, g, waitT x y g, x, claimT (x + 1) g (waitT x y g) + 2, 2 * askT y x g⟩
theorem five {g : Int} (h : 1 ≤ g ∧ g ≤ 5) : g = 1 ∨ g = 2 ∨ g = 3 ∨ g = 4 ∨ g = 5 := by omega
theorem least_ok {x y g : Int} (b : BdOk x y) (h : 1 ≤ g ∧ g ≤ 5) : RuOk (leastR x y g) := by
  have hx := b.x
  have hy := b.y
  have e1 : mx (x + 1 - 1) 0 = x := by
    unfold mx
    split <;> omega
  rcases five h with rfl | rfl | rfl | rfl | rfl <;>
    exact ⟨by show 0 ≤ x + 1 ∧ x + 1 ≤ 9; omega, by unfold leastR; dsimp only; omega, by unfold leastR waitT; dsimp only; omega, by unfold leastR; dsimp only; omega, by unfold leastR claimT waitT; dsimp only; rw [e1]; omega, by unfold leastR askT; dsimp only; omega, Int.le_refl _⟩
theorem same_made {H : Hp} {x dx C : Addr} {fs : List (Str × V)} (nx : H x = none) (nd : H dx = none) : Same H (upd (upd (upd H dx (.own x)) x (.ins C dx [])) x (.ins C dx fs)) := by
  intro b o e
  rw [upd_ne (ne_of_none e nx), upd_ne (ne_of_none e nx), upd_ne (ne_of_none e nd)]
  exact e
def spLr (CB CR : Addr) : Sp := fun vs H Q _ => ∃ (b : Addr) (x y g : Int), vs = [.ref b, .int g] ∧ BAt CB H b x y ∧ BdOk x y ∧ (1 ≤ g ∧ g ≤ 5) ∧ ∀ (p : Addr) (H' : Hp), Same H H' → H p = none → RAt CR H' p (leastR x y g) → Q (.ref p) H'
theorem ok_least_rule (T : Tx K mg a) : FnOk P w K mg base CX0 6 a.f_least_rule a.d_least_rule ["bounds", "gap"] (spLr a.C_Bounds a.C_Rule) := by
  refine T.F_least_rule.ok sc_least_rule (fun vs H Q E h => ?_) (fun cdv A outer s H vs Q E hr h => ?_)
  · obtain ⟨b, x, y, g, rfl, _⟩ := h
    rfl
  · obtain ⟨b, x, y, g, rfl, hb, o1, hg, q⟩ := h
    refine ⟨_, (pss_cons (ps_expr (pe_call (ok_check_bounds T) (hr.mono (by decide)) (by rfl) T.g_check_bounds T.F_check_bounds.kp T.b_check_bounds .nil pass0 (pa_cons (pv 0) pa_nil)))
      (pss_cons (ps_if (pt_not (pt_val (pe_call (ok_is_gap T) (hr.mono (by decide)) (by rfl) T.g_is_gap T.F_is_gap.kp T.b_is_gap .nil pass0 (pa_cons (pv 1) pa_nil)))) (pss_one ps_never) pss_nil)
      (pss_cons (ps_set (i := 2) sc_least_rule.nd rfl (.inl rfl) (pe_op op_add (pe_fld (pv 0) rfl) pe_int))
      (pss_cons (ps_set (i := 3) sc_least_rule.nd rfl (.inl rfl) (pe_call (ok_least_wait T) (hr.mono (by decide)) (by rfl) T.g_least_wait T.F_least_wait.kp T.b_least_wait .nil pass0 (pa_cons (pv 0) (pa_cons (pv 1) pa_nil))))
      (pss_one (ps_ret (pe_makeK0 T.mk_Rule (ok_rinit T) (hr.mono (by decide)) (by rfl) T.g_Rule T.q_R2 pass0 (pk_cons (pv 2) (pk_cons (pv 1) (pk_cons (pv 3) (pk_cons (pe_fld (pv 0) rfl) (pk_cons (pe_call (ok_least_period T) (hr.mono (by decide)) (by rfl) T.g_least_period T.F_least_period.kp T.b_least_period .nil pass0 (pa_cons (pv 2) (pa_cons (pv 1) (pa_cons (pv 3) pa_nil)))) (pk_cons (pe_op op_mul pe_int (pe_call (ok_asking_ticks T) (hr.mono (by decide)) (by rfl) T.g_asking_ticks T.F_asking_ticks.kp T.b_asking_ticks .nil pass0 (pa_cons (pe_fld (pv 0) rfl) (pa_cons (pe_fld (pv 0) rfl) (pa_cons (pv 1) pa_nil))))) pk_nil))))))))))))), ?_⟩
    obtain ⟨dx, hb'⟩ := id hb
    have hx := o1.x
    refine ⟨_, rfl, b, x, y, rfl, hb, ?_⟩
    refine ⟨_, rfl, g, rfl, true, wt hg, iteF ?_⟩
    refine ⟨_, rfl, b, _, dx, _, _, rfl, hb', T.cl_Bounds, T.n_Bounds_lost, rfl, x, 1, rfl, rfl, ?_⟩
    refine ⟨_, rfl, _, rfl, b, x, y, g, rfl, hb, o1, ?_⟩
    refine ⟨_, rfl, _, rfl, _, rfl, _, rfl, b, _, dx, _, _, rfl, hb', T.cl_Bounds, T.n_Bounds_lost, rfl, _, rfl, _, rfl, _, rfl, _, _, _, rfl, ⟨by omega, by omega⟩, ?_⟩
    refine ⟨_, rfl, b, _, dx, _, _, rfl, hb', T.cl_Bounds, T.n_Bounds_late, rfl, _, rfl, b, _, dx, _, _, rfl, hb', T.cl_Bounds, T.n_Bounds_lost, rfl, _, rfl, y, x, g, rfl, ⟨by omega, by omega⟩, 2, _, rfl, rfl, .inl ⟨by decide, by decide⟩, rfl, rfl, fun p dp np nd ne => ?_⟩
    refine ⟨p, dp, leastR x y g, rfl, upd_same, least_ok o1 hg, rfl, ?_⟩
    exact q p _ (same_made np nd) np ⟨dp, upd_same⟩
/-! the law's own defs -/
def six (x : Ru) : List V := [.int x.p, .int x.g, .int x.w, .int x.r, .int x.e, .int x.l]
def spLeast : Sp := fun vs H Q _ => ∃ x y g : Int, vs = [.int x, .int y, .int g] ∧ BdOk x y ∧ (1 ≤ g ∧ g ≤ 5) ∧ ∀ p : Addr, H p = none → Q (.ref p) (upd H p (.tup (six (leastR x y g))))
theorem ok__law_least (T : Tx K mg a) : FnOk P w K mg base CX0 1 a.f__law_least a.d__law_least ["_law_few", "_law_old", "_law_g"] spLeast := by
  refine T.F__law_least.ok sc__law_least (fun vs H Q E h => ?_) (fun cdv A outer s H vs Q E hr h => ?_)
  · obtain ⟨x, y, g, rfl, _⟩ := h
    rfl
  · obtain ⟨x, y, g, rfl, o1, hg, q⟩ := h
    refine ⟨_, (pss_cons (ps_set (i := 3) sc__law_least.nd rfl (.inl rfl) (pe_op op_add (pe_op op_add (pe_op op_mul (pv 0) (pv 2)) (pe_op op_mul pe_int (pv 1))) (pe_op op_mul (pv 0) (pv 2))))
      (pss_one (ps_ret (pe_tup (pa_cons (pe_op op_add (pv 0) pe_int) (pa_cons (pv 2) (pa_cons (pe_op op_add (pe_op op_mul pe_int (pv 1)) (pe_op op_mul (pv 0) (pv 2))) (pa_cons (pv 0) (pa_cons (pe_op op_add (pv 3) pe_int) (pa_cons (pe_op op_mul pe_int (pe_op op_add (pe_op op_mul pe_int (pv 1)) (pe_op op_mul (pe_op op_mul pe_int (pv 0)) (pv 2)))) pa_nil)))))))))), ?_⟩
    have hx := o1.x
    have hy := o1.y
    refine ⟨_, rfl, _, rfl, x, g, rfl, rfl, .inl ⟨by omega, by omega⟩, _, rfl, 2, y, rfl, rfl, .inl ⟨by decide, by decide⟩, _, _, rfl, rfl, _, rfl, _, rfl, x, g, rfl, rfl, .inl ⟨by omega, by omega⟩, _, _, rfl, rfl, ?_⟩
    refine ⟨_, rfl, x, 1, rfl, rfl, _, rfl, _, rfl, 2, y, rfl, rfl, .inl ⟨by decide, by decide⟩, _, rfl, _, rfl, x, g, rfl, rfl, .inl ⟨by omega, by omega⟩, _, _, rfl, rfl, _, rfl, _, rfl, _, 2, rfl, rfl, ?_⟩
    refine ⟨_, rfl, 2, y, rfl, rfl, .inl ⟨by decide, by decide⟩, _, rfl, 2, x, rfl, rfl, .inl ⟨by decide, by decide⟩, _, rfl, _, g, rfl, rfl, .inl ⟨by omega, by omega⟩, _, _, rfl, rfl, 2, _, rfl, rfl, .inl ⟨by decide, by decide⟩, by show 6 ≤ sizeLine; decide, fun p np => ?_⟩
    have e : (six (leastR x y g)) = [.int (x + 1), .int g, .int (2 * y + x * g), .int x, .int (x * g + 2 * y + x * g + 2), .int (2 * (2 * y + 2 * x * g))] := by
      have e1 : mx (x + 1 - 1) 0 = x := by
        unfold mx
        split <;> omega
      unfold six leastR claimT waitT askT
      dsimp only
      rw [e1]
      have e2 : x * g + (2 * y + x * g) + 2 = x * g + 2 * y + x * g + 2 := by omega
      rw [e2]
    have := q p np
    rw [e] at this
    exact this
theorem mx_comm (p : Int) : mx 0 (p - 1) = mx (p - 1) 0 := by
  unfold mx
  split <;> split <;> omega
def spLClaim (K : PySem.W.Frag) : Sp := fun vs H Q _ => ∃ (l : Addr) (x : Ru), vs = [.ref l] ∧ SqL K H l (six x) ∧ big x.p ∧ Q (.int (claimT x.p x.g x.w)) H
theorem ok__law_claiming (T : Tx K mg a) : FnOk P w K mg base CX0 1 a.f__law_claiming a.d__law_claiming ["_law_ru"] (spLClaim K) := by
  refine T.F__law_claiming.ok sc__law_claiming (fun vs H Q E h => ?_) (fun cdv A outer s H vs Q E hr h => ?_)
  · obtain ⟨l, x, rfl, _⟩ := h
    rfl
  · obtain ⟨l, x, rfl, hl, ⟨h1, h2⟩, q⟩ := h
    refine ⟨_, (pss_one (ps_ret (pe_op op_add (pe_op op_mul (pe_callB (call_max2 rfl) (by rfl) T.m_max (by decide +kernel) (pa_cons pe_int (pa_cons (pe_op op_sub (pe_ix ix_list (pv 0) pe_int (fun _ _ => rfl)) pe_int) pa_nil))) (pe_ix ix_list (pv 0) pe_int (fun _ _ => rfl))) (pe_ix ix_list (pv 0) pe_int (fun _ _ => rfl))))), ?_⟩
    refine ⟨_, rfl, l, _, 0, .int x.p, rfl, rfl, hl, rfl, x.p, 1, rfl, rfl, 0, x.p - 1, rfl, _, rfl, l, _, 1, .int x.g, rfl, rfl, hl, rfl, _, x.g, rfl, rfl, .inl ⟨by split <;> omega, by split <;> omega⟩, _, rfl, l, _, 2, .int x.w, rfl, rfl, hl, rfl, _, x.w, rfl, rfl, ?_⟩
    have e : claimT x.p x.g x.w = mx 0 (x.p - 1) * x.g + x.w := by rw [mx_comm]; rfl
    rw [e] at q
    exact q
def spMade (K : PySem.W.Frag) (C : Addr) : Sp := fun vs H Q _ => ∃ (l : Addr) (x : Ru), vs = [.ref l] ∧ SqL K H l (six x) ∧ RuOk x ∧ ∀ (p : Addr) (H' : Hp), Same H H' → H p = none → RAt C H' p x → Q (.ref p) H'
theorem ok__law_made_rule (T : Tx K mg a) : FnOk P w K mg base CX0 6 a.f__law_made_rule a.d__law_made_rule ["_law_parts_here"] (spMade K a.C_Rule) := by
  refine T.F__law_made_rule.ok sc__law_made_rule (fun vs H Q E h => ?_) (fun cdv A outer s H vs Q E hr h => ?_)
  · obtain ⟨l, x, rfl, _⟩ := h
    rfl
  · obtain ⟨l, x, rfl, hl, ok, q⟩ := h
    refine ⟨_, (pss_one (ps_ret (pe_makeK0 T.mk_Rule (ok_rinit T) (hr.mono (by decide)) (by rfl) T.g_Rule T.q_R1 pass0 (pk_cons (pe_ix ix_list (pv 0) pe_int (fun _ _ => rfl)) (pk_cons (pe_ix ix_list (pv 0) pe_int (fun _ _ => rfl)) (pk_cons (pe_ix ix_list (pv 0) pe_int (fun _ _ => rfl)) (pk_cons (pe_ix ix_list (pv 0) pe_int (fun _ _ => rfl)) (pk_cons (pe_ix ix_list (pv 0) pe_int (fun _ _ => rfl)) (pk_cons (pe_ix ix_list (pv 0) pe_int (fun _ _ => rfl)) pk_nil))))))))), ?_⟩
    refine ⟨_, rfl, l, _, 5, .int x.l, rfl, rfl, hl, rfl, _, rfl, l, _, 1, .int x.g, rfl, rfl, hl, rfl, _, rfl, l, _, 0, .int x.p, rfl, rfl, hl, rfl, _, rfl, l, _, 4, .int x.e, rfl, rfl, hl, rfl, _, rfl, l, _, 2, .int x.w, rfl, rfl, hl, rfl, _, rfl, l, _, 3, .int x.r, rfl, rfl, hl, rfl, rfl, rfl, fun p dp np nd ne => ?_⟩
    exact ⟨p, dp, x, rfl, upd_same, ok, rfl, q p _ (same_made np nd) np ⟨dp, upd_same⟩⟩
/-! _law_parts -/
inductive Prs (H : Hp) : List (Int × Int) → List V → Prop
  | nil : Prs H [] []
  | cons {r : Int × Int} {p : Addr} {rs : List (Int × Int)} {ps : List V} : H p = some (.tup [.int r.1, .int r.2]) → Prs H rs ps → Prs H (r :: rs) (.ref p :: ps)
theorem Prs.tk {H H' : Hp} (k : Tk H H') : ∀ {rs : List (Int × Int)} {ps : List V}, Prs H rs ps → Prs H' rs ps
  | _, _, .nil => .nil
  | _, _, .cons h t => .cons (k _ _ h) (Prs.tk k t)
theorem Prs.get {H : Hp} : ∀ {rs : List (Int × Int)} {ps : List V} {n : Nat} {x : V}, Prs H rs ps → ps[n]? = some x → ∃ (p : Addr) (r : Int × Int), x = .ref p ∧ rs[n]? = some r ∧ H p = some (.tup [.int r.1, .int r.2])
  | _, _, _, _, .nil, e => by simp at e
  | _, _, 0, _, .cons (r := r) (p := p) h _, e => ⟨p, r, (Option.some.inj e).symm, rfl, h⟩
  | _, _, n + 1, x, .cons _ t, e => Prs.get (n := n) (x := x) t e
def ends : List (Int × Int) := [(0, 9), (1, 5), (0, 99), (0, 9), (1, 400), (1, 400)]
structure PaOk (x : Ru) : Prop where
  p : 0 ≤ x.p ∧ x.p ≤ 9
  g : 1 ≤ x.g ∧ x.g ≤ 5
  w : 0 ≤ x.w ∧ x.w ≤ 99
  r : 0 ≤ x.r ∧ x.r ≤ 9
  e : 1 ≤ x.e ∧ x.e ≤ 400
  l : 1 ≤ x.l ∧ x.l ≤ 400
theorem ends_wide : ∀ r ∈ ends, r.1 + 3 ≤ r.2 ∧ 0 ≤ r.1 ∧ r.2 ≤ 400 := by decide
theorem claim_le {p g w : Int} (hp : 0 ≤ p ∧ p ≤ 9) (hg : 1 ≤ g ∧ g ≤ 5) (hw : 0 ≤ w ∧ w ≤ 99) : 0 ≤ claimT p g w ∧ claimT p g w ≤ 139 := by
  have h : mx (p - 1) 0 = 0 ∨ mx (p - 1) 0 = p - 1 := by
    unfold mx
    split
    · exact .inl rfl
    · exact .inr rfl
  have h0 : 0 ≤ mx (p - 1) 0 ∧ mx (p - 1) 0 ≤ 8 := by
    unfold mx
    split <;> omega
  unfold claimT
  generalize mx (p - 1) 0 = m at h0
  rcases five hg with rfl | rfl | rfl | rfl | rfl <;> omega
def spParts (ok : Ru → Prop) : Sp := fun vs H Q _ => ∃ b : Addr, vs = [.ref b] ∧ Bag H b ∧ ∀ (l : Addr) (x : Ru) (H' : Hp), H l = none → l ≠ b → H' l = some (.lst (six x)) → ok x → Bag H' b → Kp b H H' → Q (.ref l) H'
theorem ok__law_parts (T : Tx K mg a) : FnOk P w K mg base CX0 2 a.f__law_parts a.d__law_parts ["_law_bag_here"] (spParts PaOk) := by
  refine T.F__law_parts.ok sc__law_parts (fun vs H Q E h => ?_) (fun cdv A outer s H vs Q E hr h => ?_)
  · obtain ⟨b, rfl, _⟩ := h
    rfl
  · obtain ⟨bg, rfl, hb, q⟩ := h
    refine ⟨_, (pss_cons (ps_set (i := 1) sc__law_parts.nd rfl (.inl rfl) (pe_lst (pa_cons (pe_tup (pa_cons pe_int (pa_cons pe_int pa_nil))) (pa_cons (pe_tup (pa_cons pe_int (pa_cons pe_int pa_nil))) (pa_cons (pe_tup (pa_cons pe_int (pa_cons pe_int pa_nil))) (pa_cons (pe_tup (pa_cons pe_int (pa_cons pe_int pa_nil))) (pa_cons (pe_tup (pa_cons pe_int (pa_cons pe_int pa_nil))) (pa_cons (pe_tup (pa_cons pe_int (pa_cons pe_int pa_nil))) pa_nil))))))))
      (pss_cons (ps_setLc (i := 2) (own := [("_law_low", 4), ("_law_high", 5)]) (g := gTup K 2 (gCons (gName 4) (gCons (gName 5) gNil))) rfl sc__law_parts.nd rfl rfl (sw_true rfl rfl rfl (by decide +kernel)) (pi_list (pv 1)) (blkOk_by (N := ["_law_bag_here", "_law_ends", "_law_found", "_law_claiming_here", "_law_low", "_law_high"]) (sc := defScope sParts) (by decide +kernel)) (fun _ _ _ _ _ => (pg_tup rfl (pgs_cons (pg_name (i := 4) sc__law_parts.nd rfl (.inl rfl)) (pgs_cons (pg_name (i := 5) sc__law_parts.nd rfl (.inl rfl)) pgs_nil)))) (fun _ _ _ _ _ => pts_nil) (fun _ _ _ _ _ => (pe_ix (r := rIxL K) ix_list (pe_lst (pa_cons (pv 4) (pa_cons (pv 5) (pa_cons (pe_op op_add (pv 4) (pe_call (ok__law_take T) (hr.mono (by decide)) (by rfl) T.g__law_take T.F__law_take.kp T.b__law_take .nil pass0 (pa_cons (pv 0) (pa_cons (pe_op op_add (pe_op op_sub (pv 5) (pv 4)) pe_int) pa_nil)))) (pa_cons (pe_op op_add (pv 4) (pe_call (ok__law_take T) (hr.mono (by decide)) (by rfl) T.g__law_take T.F__law_take.kp T.b__law_take .nil pass0 (pa_cons (pv 0) (pa_cons pe_int pa_nil)))) pa_nil))))) (pe_call (ok__law_take T) (hr.mono (by decide)) (by rfl) T.g__law_take T.F__law_take.kp T.b__law_take .nil pass0 (pa_cons (pv 0) (pa_cons pe_int pa_nil))) (fun _ _ => rfl))))
      (pss_cons (ps_set (i := 3) sc__law_parts.nd rfl (.inl rfl) (pe_op op_add (pe_op op_mul (pe_callB (call_max2 rfl) (by rfl) T.m_max (by decide +kernel) (pa_cons pe_int (pa_cons (pe_op op_sub (pe_ix ix_list (pv 2) pe_int (fun _ _ => rfl)) pe_int) pa_nil))) (pe_ix ix_list (pv 2) pe_int (fun _ _ => rfl))) (pe_ix ix_list (pv 2) pe_int (fun _ _ => rfl))))
      (pss_cons (ps_asg (pe_ix ix_list (pe_lst (pa_cons (pe_ix ix_list (pv 2) pe_int (fun _ _ => rfl)) (pa_cons (pe_op op_add (pv 3) pe_int) (pa_cons (pe_op op_add (pv 3) pe_int) (pa_cons (pe_callB (call_min2 rfl) (by rfl) T.m_min (by decide +kernel) (pa_cons pe_int (pa_cons (pe_op op_add (pe_op op_add (pv 3) pe_int) (pe_call (ok__law_take T) (hr.mono (by decide)) (by rfl) T.g__law_take T.F__law_take.kp T.b__law_take .nil pass0 (pa_cons (pv 0) (pa_cons pe_int pa_nil)))) pa_nil))) pa_nil))))) (pe_call (ok__law_take T) (hr.mono (by decide)) (by rfl) T.g__law_take T.F__law_take.kp T.b__law_take .nil pass0 (pa_cons (pv 0) (pa_cons pe_int pa_nil))) (fun _ _ => rfl)) (pg_sub (pv 2) pe_int set_list))
      (pss_one (ps_ret (pv 2))))))), ?_⟩
    refine ⟨by show 2 ≤ sizeLine; decide, fun t1 n1 => ?_⟩
    generalize e1 : upd H t1 _ = H1
    obtain ⟨s1, f1⟩ := fresh n1 e1
    refine ⟨by show 2 ≤ sizeLine; decide, fun t2 n2 => ?_⟩
    generalize e2 : upd H1 t2 _ = H2
    obtain ⟨s2, f2⟩ := fresh n2 e2
    refine ⟨by show 2 ≤ sizeLine; decide, fun t3 n3 => ?_⟩
    generalize e3 : upd H2 t3 _ = H3
    obtain ⟨s3, f3⟩ := fresh n3 e3
    refine ⟨by show 2 ≤ sizeLine; decide, fun t4 n4 => ?_⟩
    generalize e4 : upd H3 t4 _ = H4
    obtain ⟨s4, f4⟩ := fresh n4 e4
    refine ⟨by show 2 ≤ sizeLine; decide, fun t5 n5 => ?_⟩
    generalize e5 : upd H4 t5 _ = H5
    obtain ⟨s5, f5⟩ := fresh n5 e5
    refine ⟨by show 2 ≤ sizeLine; decide, fun t6 n6 => ?_⟩
    generalize e6 : upd H5 t6 _ = H6
    obtain ⟨s6, f6⟩ := fresh n6 e6
    refine ⟨by show 6 ≤ sizeLine; decide, fun en n7 => ?_⟩
    generalize e7 : upd H6 en _ = H7
    obtain ⟨s7, f7⟩ := fresh n7 e7
    have s27 := s2.trans (s3.trans (s4.trans (s5.trans (s6.trans s7))))
    have sm : Same H H7 := s1.trans s27
    have pr : Prs H7 ends [.ref t1, .ref t2, .ref t3, .ref t4, .ref t5, .ref t6] := .cons (s27 _ _ f1) (.cons (s3.trans (s4.trans (s5.trans (s6.trans s7))) _ _ f2) (.cons (s4.trans (s5.trans (s6.trans s7)) _ _ f3) (.cons (s5.trans (s6.trans s7) _ _ f4) (.cons (s6.trans s7 _ _ f5) (.cons (s7 _ _ f6) .nil)))))
    have hb7 : Bag H7 bg := by
      obtain ⟨g, m, e, r⟩ := hb
      exact ⟨g, m, sm _ _ e, r⟩
    have nen : en ≠ bg := by
      obtain ⟨o, ho⟩ := hb.some
      exact (ne_of_none ((s1.trans (s2.trans (s3.trans (s4.trans (s5.trans s6))))) _ _ ho) n7).symm
    clear s2 s3 s4 s5 s6 s7 s27 s1 e1 e2 e3 e4 e5 e6 e7
    refine ⟨_, rfl, en, rfl, ⟨_, SqL.of f7⟩, fun D hD => ?_⟩
    have nD : D ≠ bg := hb7.ne hD
    refine lc_list (xs := [.ref t1, .ref t2, .ref t3, .ref t4, .ref t5, .ref t6]) (fun i H' => ∃ fs : List Int, fs.length = i ∧ (∀ (n : Nat) (v : Int) (e : Int × Int), fs[n]? = some v → ends[n]? = some e → e.1 ≤ v ∧ v ≤ e.2) ∧ H' D = some (.lst (fs.map V.int)) ∧ Bag H' bg ∧ Kp bg H7 H')
      ⟨[], rfl, (fun n v e h => nomatch (show (none : Option Int) = some v from h)), by rw [upd_same]; rfl, hb7.new hD, Kp.new hD⟩ (fun i H' _ hP => ?_) (fun i x H' hx hP => ?_) (fun H' hP => ?_)
    · obtain ⟨fs, _, _, _, _, k'⟩ := hP
      exact SqL.of (k' _ _ nen f7)
    · obtain ⟨fs, hl, hr', hd, hb', k'⟩ := hP
      obtain ⟨p, r, rfl, hre, hp⟩ := pr.get hx
      have hp' : H' p = some (.tup [.int r.1, .int r.2]) := (k'.tk hb7) _ _ hp
      obtain ⟨w1, w2, w3⟩ := ends_wide r (List.mem_of_getElem? hre)
      refine ⟨p, _, rfl, SqT.of hp', rfl, _, _, rfl, _, _, rfl, rfl, rfl, ?_⟩
      refine ⟨_, rfl, _, rfl, _, rfl, _, rfl, _, rfl, _, rfl, r.2, r.1, rfl, rfl, _, 1, rfl, rfl, bg, _, rfl, hb', ⟨by omega, by omega⟩, fun d1 Ha d10 d11 hba ka => ?_⟩
      refine ⟨r.1, d1, rfl, rfl, _, rfl, _, rfl, bg, 4, rfl, hba, ⟨by decide, by decide⟩, fun d2 Hb d20 d21 hbb kb => ?_⟩
      refine ⟨r.1, d2, rfl, rfl, by show 4 ≤ sizeLine; decide, fun l1 nl1 => ?_⟩
      refine ⟨_, rfl, bg, 4, rfl, hbb.new nl1, ⟨by decide, by decide⟩, fun d3 Hc d30 d31 hbc kc => ?_⟩
      have pick : ∃ v : Int, atI [V.int r.1, V.int r.2, V.int (r.1 + d1), V.int (r.1 + d2)] d3 = some (.int v) ∧ r.1 ≤ v ∧ v ≤ r.2 := by
        obtain rfl | rfl | rfl | rfl : d3 = 0 ∨ d3 = 1 ∨ d3 = 2 ∨ d3 = 3 := by omega
        · exact ⟨r.1, rfl, by omega, by omega⟩
        · exact ⟨r.2, rfl, by omega, by omega⟩
        · exact ⟨r.1 + d1, rfl, by omega, by omega⟩
        · exact ⟨r.1 + d2, rfl, by omega, by omega⟩
      obtain ⟨v, hv, v0, v1⟩ := pick
      have nl : l1 ≠ bg := hbb.ne nl1
      have kk : Kp bg H' Hc := ((ka.trans kb).trans (Kp.new nl1)).trans kc
      have hi : i < 6 := by
        have := (List.getElem?_eq_some_iff.mp hx).1
        exact this
      refine ⟨l1, _, d3, .int v, rfl, rfl, SqL.of (kc _ _ nl upd_same), hv, _, kk _ _ nD hd, ?_, fs ++ [v], ?_, ?_, ?_, hbc.upd nD, (k'.trans kk).put hD⟩
      · rw [List.length_map, hl]
        exact small1000 (by omega)
      · rw [List.length_append, hl]
        rfl
      · intro n v' e' h1 h2
        by_cases hn : n < fs.length
        · rw [List.getElem?_append_left hn] at h1
          exact hr' n v' e' h1 h2
        · have hn' : n = fs.length := by
            have := (List.getElem?_eq_some_iff.mp h1).1
            rw [List.length_append] at this
            simp only [List.length_singleton] at this
            omega
          subst hn'
          rw [List.getElem?_append_right (Nat.le_refl _), Nat.sub_self] at h1
          cases h1
          rw [hl, hre] at h2
          cases h2
          exact ⟨v0, v1⟩
      · rw [upd_same, List.map_append]
        rfl
    · obtain ⟨fs, hl, hr', hd, hb', k'⟩ := hP
      match fs, hl with
      | [x0, x1, x2, x3, x4, x5], _ =>
      have b0 := hr' 0 x0 (0, 9) rfl rfl
      have b1 := hr' 1 x1 (1, 5) rfl rfl
      have b2 := hr' 2 x2 (0, 99) rfl rfl
      have b3 := hr' 3 x3 (0, 9) rfl rfl
      have b4 := hr' 4 x4 (1, 400) rfl rfl
      have b5 := hr' 5 x5 (1, 400) rfl rfl
      dsimp only at b0 b1 b2 b3 b4 b5
      have hd : H' D = some (.lst [.int x0, .int x1, .int x2, .int x3, .int x4, .int x5]) := hd
      have cl := claim_le b0 b1 b2
      have ec : mx 0 (x0 - 1) * x1 + x2 = claimT x0 x1 x2 := by rw [mx_comm]; rfl
      refine ⟨_, rfl, D, _, 0, .int x0, rfl, rfl, SqL.of hd, rfl, x0, 1, rfl, rfl, 0, x0 - 1, rfl, _, rfl, D, _, 1, .int x1, rfl, rfl, SqL.of hd, rfl, _, x1, rfl, rfl, .inl ⟨by split <;> omega, by split <;> omega⟩, _, rfl, D, _, 2, .int x2, rfl, rfl, SqL.of hd, rfl, _, x2, rfl, rfl, ?_⟩
      show tSeq _ _ _ (List.set _ 3 (some (V.int (mx 0 (x0 - 1) * x1 + x2)))) _
      rw [ec]
      generalize claimT x0 x1 x2 = c at cl
      refine ⟨_, rfl, D, _, 4, .int x4, rfl, rfl, SqL.of hd, rfl, _, rfl, c, 2, rfl, rfl, _, rfl, c, 1, rfl, rfl, _, rfl, c, 2, rfl, rfl, _, rfl, bg, 40, rfl, hb', ⟨by decide, by decide⟩, fun d1 Ha d10 d11 hba ka => ?_⟩
      refine ⟨_, d1, rfl, rfl, 400, _, rfl, by show 4 ≤ sizeLine; decide, fun l1 nl1 => ?_⟩
      refine ⟨_, rfl, bg, 4, rfl, hba.new nl1, ⟨by decide, by decide⟩, fun d3 Hc d30 d31 hbc kc => ?_⟩
      have pick : ∃ v : Int, atI [V.int x4, V.int (c + 2), V.int (c + 1), V.int (if c + 2 + d1 < 400 then c + 2 + d1 else 400)] d3 = some (.int v) ∧ 1 ≤ v ∧ v ≤ 400 := by
        obtain rfl | rfl | rfl | rfl : d3 = 0 ∨ d3 = 1 ∨ d3 = 2 ∨ d3 = 3 := by omega
        · exact ⟨x4, rfl, by omega, by omega⟩
        · exact ⟨c + 2, rfl, by omega, by omega⟩
        · exact ⟨c + 1, rfl, by omega, by omega⟩
        · exact ⟨_, rfl, by split <;> omega, by split <;> omega⟩
      obtain ⟨v, hv, v0, v1⟩ := pick
      have nl : l1 ≠ bg := hba.ne nl1
      have kk : Kp bg H' Hc := (ka.trans (Kp.new nl1)).trans kc
      have hd2 := kk _ _ nD hd
      refine ⟨l1, _, d3, .int v, rfl, rfl, SqL.of (kc _ _ nl upd_same), hv, _, rfl, D, _, 4, 4, rfl, rfl, hd2, rfl, ?_⟩
      refine ⟨_, rfl, ?_⟩
      exact q D ⟨x0, x1, x2, x3, v, x5⟩ _ (sm.free hD) nD upd_same ⟨b0, b1, b2, b3, ⟨v0, v1⟩, b5⟩ (hbc.upd nD) (((Same.kp sm).trans (k'.trans kk)).put (sm.free hD))
/-! _law_good_parts -/
theorem PaOk.rule {x : Ru} (h : PaOk x) (v : Int) (hv : v = mx x.e (claimT x.p x.g x.w + 2)) : RuOk { x with e := v } := by
  have cl := claim_le h.p h.g h.w
  have he := h.e
  have hm : v = x.e ∧ claimT x.p x.g x.w + 2 ≤ x.e ∨ v = claimT x.p x.g x.w + 2 ∧ x.e < claimT x.p x.g x.w + 2 := by
    rw [hv]
    unfold mx
    split
    · exact .inr ⟨rfl, by omega⟩
    · exact .inl ⟨rfl, by omega⟩
  exact ⟨h.p, h.g, h.w, h.r, by show 1 ≤ v ∧ v ≤ 400; omega, h.l, by show claimT x.p x.g x.w + 2 ≤ v; omega⟩
theorem ok__law_good_parts (T : Tx K mg a) : FnOk P w K mg base CX0 3 a.f__law_good_parts a.d__law_good_parts ["_law_bag_here"] (spParts RuOk) := by
  refine T.F__law_good_parts.ok sc__law_good_parts (fun vs H Q E h => ?_) (fun cdv A outer s H vs Q E hr h => ?_)
  · obtain ⟨b, rfl, _⟩ := h
    rfl
  · obtain ⟨bg, rfl, hb, q⟩ := h
    refine ⟨_, (pss_cons (ps_set (i := 1) sc__law_good_parts.nd rfl (.inl rfl) (pe_call (ok__law_parts T) (hr.mono (by decide)) (by rfl) T.g__law_parts T.F__law_parts.kp T.b__law_parts .nil pass0 (pa_cons (pv 0) pa_nil)))
      (pss_cons (ps_asg (pe_callB (call_max2 rfl) (by rfl) T.m_max (by decide +kernel) (pa_cons (pe_ix ix_list (pv 1) pe_int (fun _ _ => rfl)) (pa_cons (pe_op op_add (pe_op op_add (pe_op op_mul (pe_callB (call_max2 rfl) (by rfl) T.m_max (by decide +kernel) (pa_cons pe_int (pa_cons (pe_op op_sub (pe_ix ix_list (pv 1) pe_int (fun _ _ => rfl)) pe_int) pa_nil))) (pe_ix ix_list (pv 1) pe_int (fun _ _ => rfl))) (pe_ix ix_list (pv 1) pe_int (fun _ _ => rfl))) pe_int) pa_nil))) (pg_sub (pv 1) pe_int set_list))
      (pss_one (ps_ret (pv 1))))), ?_⟩
    refine ⟨_, rfl, bg, rfl, hb, fun l x H1 nl nb hl ok hb1 k1 => ?_⟩
    have hp := ok.p
    refine ⟨_, rfl, l, _, 4, .int x.e, rfl, rfl, SqL.of hl, rfl, _, rfl, l, _, 0, .int x.p, rfl, rfl, SqL.of hl, rfl, x.p, 1, rfl, rfl, 0, x.p - 1, rfl, _, rfl, l, _, 1, .int x.g, rfl, rfl, SqL.of hl, rfl, _, x.g, rfl, rfl, .inl ⟨by split <;> omega, by split <;> omega⟩, _, rfl, l, _, 2, .int x.w, rfl, rfl, SqL.of hl, rfl, _, x.w, rfl, rfl, _, 2, rfl, rfl, x.e, _, rfl, _, rfl, l, _, 4, 4, rfl, rfl, hl, rfl, ?_⟩
    refine ⟨_, rfl, ?_⟩
    have ec : mx 0 (x.p - 1) * x.g + x.w = claimT x.p x.g x.w := by rw [mx_comm]; rfl
    refine q l { x with e := mx x.e (mx 0 (x.p - 1) * x.g + x.w + 2) } _ nl nb upd_same (ok.rule _ (by rw [ec])) (hb1.upd nb) (k1.put nl)
/-! _law_is_rule -/
def ranges (x : Ru) : List Bool := [within x.p 0 9, within x.g 1 5, within x.w 0 99, within x.r 0 9, within x.e 1 400, within x.l 1 400]
def ruleB (x : Ru) : Bool := (ranges x).all id && decide (claimT x.p x.g x.w + 2 ≤ x.e)
theorem of_within {t lo hi : Int} (h : within t lo hi = true) : lo ≤ t ∧ t ≤ hi := by
  unfold within at h
  simp only [Bool.and_eq_true, decide_eq_true_eq] at h
  exact h
theorem rule_iff {x : Ru} : ruleB x = true ↔ RuOk x := by
  unfold ruleB ranges
  simp only [List.all_cons, List.all_nil, Bool.and_true, Bool.and_eq_true, decide_eq_true_eq, id]
  constructor
  · rintro ⟨⟨h1, h2, h3, h4, h5, h6⟩, h7⟩
    exact ⟨of_within h1, of_within h2, of_within h3, of_within h4, of_within h5, of_within h6, h7⟩
  · intro h
    exact ⟨⟨within_of h.p, within_of h.g, within_of h.w, within_of h.r, within_of h.e, within_of h.l⟩, h.c⟩
def rng6 (x : Ru) : List (Int × (Int × Int)) := [(x.p, (0, 9)), (x.g, (1, 5)), (x.w, (0, 99)), (x.r, (0, 9)), (x.e, (1, 400)), (x.l, (1, 400))]
theorem six_at {x : Ru} {v : V} {r : Int × Int} : ∀ {i : Nat}, i < 6 → (six x)[i]? = some v → ends[i]? = some r → ∃ t, v = .int t ∧ (ranges x)[i]? = some (within t r.1 r.2)
  | 0, _, h, e => by cases h; cases e; exact ⟨_, rfl, rfl⟩
  | 1, _, h, e => by cases h; cases e; exact ⟨_, rfl, rfl⟩
  | 2, _, h, e => by cases h; cases e; exact ⟨_, rfl, rfl⟩
  | 3, _, h, e => by cases h; cases e; exact ⟨_, rfl, rfl⟩
  | 4, _, h, e => by cases h; cases e; exact ⟨_, rfl, rfl⟩
  | 5, _, h, e => by cases h; cases e; exact ⟨_, rfl, rfl⟩
  | n + 6, h, _, _ => absurd h (by omega)
def spIsR (K : PySem.W.Frag) : Sp := fun vs H Q _ => ∃ (l : Addr) (x : Ru), vs = [.ref l] ∧ SqL K H l (six x) ∧ big x.p ∧ ∀ H', Same H H' → Q (.bl (ruleB x)) H'
theorem ok__law_is_rule (T : Tx K mg a) : FnOk P w K mg base CX0 2 a.f__law_is_rule a.d__law_is_rule ["_law_parts_here"] (spIsR K) := by
  refine T.F__law_is_rule.ok sc__law_is_rule (fun vs H Q E h => ?_) (fun cdv A outer s H vs Q E hr h => ?_)
  · obtain ⟨l, x, rfl, _⟩ := h
    rfl
  · obtain ⟨l, x, rfl, hl, bp, q⟩ := h
    refine ⟨_, (pss_cons (ps_set (i := 1) sc__law_is_rule.nd rfl (.inl rfl) (pe_lst (pa_cons (pe_tup (pa_cons pe_int (pa_cons pe_int pa_nil))) (pa_cons (pe_tup (pa_cons pe_int (pa_cons pe_int pa_nil))) (pa_cons (pe_tup (pa_cons pe_int (pa_cons pe_int pa_nil))) (pa_cons (pe_tup (pa_cons pe_int (pa_cons pe_int pa_nil))) (pa_cons (pe_tup (pa_cons pe_int (pa_cons pe_int pa_nil))) (pa_cons (pe_tup (pa_cons pe_int (pa_cons pe_int pa_nil))) pa_nil))))))))
      (pss_cons (ps_if (pt_not (pt_val (pe_callB (cr_all rfl) (by rfl) T.m_all (by decide +kernel) (pa_cons (pe_lc (own := [("_law_one", 2), ("_law_low", 3), ("_law_high", 4)]) (g := gTup K 2 (gCons (gName 2) (gCons (gTup K 2 (gCons (gName 3) (gCons (gName 4) gNil))) gNil))) rfl sc__law_is_rule.nd (pi_zip (by rfl) T.m_zip (pa_cons (pv 0) (pa_cons (pv 1) pa_nil))) (blkOk_by (N := ["_law_parts_here", "_law_ends", "_law_one", "_law_low", "_law_high"]) (sc := defScope sIsR) (by decide +kernel)) (fun _ _ _ _ _ => (pg_tup rfl (pgs_cons (pg_name (i := 2) sc__law_is_rule.nd rfl (.inl rfl)) (pgs_cons (pg_tup rfl (pgs_cons (pg_name (i := 3) sc__law_is_rule.nd rfl (.inl rfl)) (pgs_cons (pg_name (i := 4) sc__law_is_rule.nd rfl (.inl rfl)) pgs_nil))) pgs_nil)))) (fun _ _ _ _ _ => pts_nil) (fun _ _ _ _ _ => (pe_and (pe_call (ok__law_is_whole T) (hr.mono (by decide)) (by rfl) T.g__law_is_whole T.F__law_is_whole.kp T.b__law_is_whole .nil pass0 (pa_cons (pv 2) pa_nil)) (pe_one (pe_chain op_le op_le (pv 3) (pv 2) (pv 4)))))) pa_nil)))) (pss_one (ps_ret pe_bl)) pss_nil)
      (pss_one (ps_ret (pe_cmpR op_ge (pe_ix ix_list (pv 0) pe_int (fun _ _ => rfl)) (pe_op op_add (pe_op op_add (pe_op op_mul (pe_callB (call_max2 rfl) (by rfl) T.m_max (by decide +kernel) (pa_cons pe_int (pa_cons (pe_op op_sub (pe_ix ix_list (pv 0) pe_int (fun _ _ => rfl)) pe_int) pa_nil))) (pe_ix ix_list (pv 0) pe_int (fun _ _ => rfl))) (pe_ix ix_list (pv 0) pe_int (fun _ _ => rfl))) pe_int) (nomark _)))))), ?_⟩
    refine ⟨by show 2 ≤ sizeLine; decide, fun t1 n1 => ?_⟩
    generalize e1 : upd H t1 _ = H1
    obtain ⟨s1, f1⟩ := fresh n1 e1
    refine ⟨by show 2 ≤ sizeLine; decide, fun t2 n2 => ?_⟩
    generalize e2 : upd H1 t2 _ = H2
    obtain ⟨s2, f2⟩ := fresh n2 e2
    refine ⟨by show 2 ≤ sizeLine; decide, fun t3 n3 => ?_⟩
    generalize e3 : upd H2 t3 _ = H3
    obtain ⟨s3, f3⟩ := fresh n3 e3
    refine ⟨by show 2 ≤ sizeLine; decide, fun t4 n4 => ?_⟩
    generalize e4 : upd H3 t4 _ = H4
    obtain ⟨s4, f4⟩ := fresh n4 e4
    refine ⟨by show 2 ≤ sizeLine; decide, fun t5 n5 => ?_⟩
    generalize e5 : upd H4 t5 _ = H5
    obtain ⟨s5, f5⟩ := fresh n5 e5
    refine ⟨by show 2 ≤ sizeLine; decide, fun t6 n6 => ?_⟩
    generalize e6 : upd H5 t6 _ = H6
    obtain ⟨s6, f6⟩ := fresh n6 e6
    refine ⟨by show 6 ≤ sizeLine; decide, fun en n7 => ?_⟩
    generalize e7 : upd H6 en _ = H7
    obtain ⟨s7, f7⟩ := fresh n7 e7
    have s27 := s2.trans (s3.trans (s4.trans (s5.trans (s6.trans s7))))
    have sm : Same H H7 := s1.trans s27
    have pr : Prs H7 ends [.ref t1, .ref t2, .ref t3, .ref t4, .ref t5, .ref t6] := .cons (s27 _ _ f1) (.cons (s3.trans (s4.trans (s5.trans (s6.trans s7))) _ _ f2) (.cons (s4.trans (s5.trans (s6.trans s7)) _ _ f3) (.cons (s5.trans (s6.trans s7) _ _ f4) (.cons (s6.trans s7 _ _ f5) (.cons (s7 _ _ f6) .nil)))))
    clear s2 s3 s4 s5 s6 s7 s27 s1 e1 e2 e3 e4 e5 e6 e7
    have hl7 : SqL K H7 l (six x) := sm.seq hl
    refine ⟨_, rfl, _, rfl, l, en, _, _, rfl, hl7, SqL.of f7, fun D hD => ?_⟩
    refine lc_it (walk_zip (xs := six x) (ys := [.ref t1, .ref t2, .ref t3, .ref t4, .ref t5, .ref t6]) (n := 6) rfl) (fun i H' => Same H7 H' ∧ H' D = some (.lst (((ranges x).take i).map V.bl))) ⟨same_upd hD, by rw [upd_same]; rfl⟩ (fun i H' _ hP => ⟨hP.1.seq hl7, SqL.of (hP.1 _ _ f7)⟩) (fun i z Hx Hy hi hP hY => ?_) (fun Hx hP => ?_)
    · obtain ⟨sx, hd⟩ := hP
      obtain ⟨Tt, v, y, rfl, hT, rfl, h1, h2⟩ := hY
      obtain ⟨p, r, rfl, hre, hp⟩ := pr.get h2
      obtain ⟨t, rfl, ht⟩ := six_at hi h1 hre
      have nT : D ≠ Tt := ne_of_none hd hT
      have hp' : (upd Hx Tt (.tup [.int t, .ref p])) p = some (.tup [.int r.1, .int r.2]) := (same_upd hT) _ _ (sx _ _ hp)
      refine ⟨Tt, _, rfl, SqT.of upd_same, rfl, _, _, rfl, _, _, rfl, p, _, rfl, SqT.of hp', rfl, _, _, rfl, _, _, rfl, rfl, rfl, rfl, ?_⟩
      have go : ∀ b : Bool, b = within t r.1 r.2 → ∃ acc, (upd Hx Tt (.tup [.int t, .ref p])) D = some (.lst acc) ∧ acc.length < sizeLine ∧ Same H7 (upd (upd Hx Tt (.tup [.int t, .ref p])) D (.lst (acc ++ [V.bl b]))) ∧ (upd (upd Hx Tt (.tup [.int t, .ref p])) D (.lst (acc ++ [V.bl b]))) D = some (.lst (((ranges x).take (i + 1)).map V.bl)) := by
        rintro b rfl
        refine ⟨_, by rw [upd_ne nT]; exact hd, ?_, ?_, ?_⟩
        · rw [List.length_map, List.length_take]
          exact small1000 (by omega)
        · intro b o e
          rw [upd_ne (ne_of_none e hD)]
          exact (same_upd hT) _ _ (sx _ _ e)
        · rw [upd_same, List.take_add_one, ht, List.map_append]
          rfl
      refine ⟨_, rfl, t, rfl, true, rfl, iteT ⟨_, rfl, _, rfl, r.1, t, rfl, rfl, _, rfl, ite2 (fun e => ?_) (fun e => ?_)⟩⟩
      · refine ⟨_, rfl, t, r.2, rfl, rfl, go _ ?_⟩
        unfold within
        rw [e, Bool.true_and]
      · refine go _ ?_
        unfold within
        rw [Bool.not_eq_true _ |>.mp e, Bool.false_and]
    · obtain ⟨sx, hd⟩ := hP
      have hd : Hx D = some (.lst ((ranges x).map V.bl)) := hd
      have sH : Same H Hx := sm.trans sx
      have hlx : SqL K Hx l (six x) := sx.seq hl7
      refine ⟨D, ranges x, rfl, SqL.of hd, _, rfl, ?_⟩
      cases e : (ranges x).all id with
      | false =>
        refine iteT ?_
        have := q _ sH
        unfold ruleB at this
        rw [e, Bool.false_and] at this
        exact this
      | true =>
        refine iteF ?_
        obtain ⟨h1, h2⟩ := bp
        refine ⟨_, rfl, l, _, 4, .int x.e, rfl, rfl, hlx, rfl, _, rfl, l, _, 0, .int x.p, rfl, rfl, hlx, rfl, x.p, 1, rfl, rfl, 0, x.p - 1, rfl, _, rfl, l, _, 1, .int x.g, rfl, rfl, hlx, rfl, _, x.g, rfl, rfl, .inl ⟨by split <;> omega, by split <;> omega⟩, _, rfl, l, _, 2, .int x.w, rfl, rfl, hlx, rfl, _, x.w, rfl, rfl, _, 2, rfl, rfl, x.e, _, rfl, rfl, ?_⟩
        have ec : claimT x.p x.g x.w = mx 0 (x.p - 1) * x.g + x.w := by rw [mx_comm]; rfl
        have := q _ sH
        unfold ruleB at this
        rw [e, Bool.true_and, ec] at this
        exact this
/-! _law_near_parts -/
structure NeOk (x : Ru) (n : Nat) : Prop where
  p : 0 ≤ x.p ∧ x.p ≤ 4 + 9 * n
  g : 1 ≤ x.g ∧ x.g ≤ 5
  w : 0 ≤ x.w ∧ x.w ≤ 25 + 9 * n
  r : 0 ≤ x.r ∧ x.r ≤ 3 + 9 * n
  e : 1 ≤ x.e ∧ x.e ≤ 42 + 9 * n
  l : 1 ≤ x.l ∧ x.l ≤ 80 + 9 * n
def mn (i j : Int) : Int := if j < i then j else i
def fld (r : Ru) : Nat → Int
  | 0 => r.p
  | 1 => r.g
  | 2 => r.w
  | 3 => r.r
  | 4 => r.e
  | _ => r.l
def setF (r : Ru) (w : Int) : Nat → Ru
  | 0 => { r with p := w }
  | 1 => { r with g := w }
  | 2 => { r with w := w }
  | 3 => { r with r := w }
  | 4 => { r with e := w }
  | _ => { r with l := w }
theorem six_get {r : Ru} {j : Nat} (h : j = 0 ∨ j = 2 ∨ j = 3 ∨ j = 4 ∨ j = 5) : atI (six r) (j : Int) = some (.int (fld r j)) := by
  rcases h with rfl | rfl | rfl | rfl | rfl <;> rfl
theorem six_set {r : Ru} {j : Nat} {w : Int} (h : j = 0 ∨ j = 2 ∨ j = 3 ∨ j = 4 ∨ j = 5) : (six r).set j (.int w) = six (setF r w j) := by
  rcases h with rfl | rfl | rfl | rfl | rfl <;> rfl
theorem mx_b (i j : Int) : (mx i j = i ∨ mx i j = j) ∧ i ≤ mx i j := by
  unfold mx
  split
  · exact ⟨.inr rfl, by omega⟩
  · exact ⟨.inl rfl, Int.le_refl _⟩
theorem ne_step {r : Ru} {n j : Nat} {w u : Int} (h : NeOk r n) (hj : j = 0 ∨ j = 2 ∨ j = 3 ∨ j = 4 ∨ j = 5) (hu : -1 ≤ u ∧ u ≤ 9) (hw : w = mx (if decide (3 < (j : Int)) = true then 1 else 0) (fld r j + u)) : NeOk (setF r w j) (n + 1) := by
  have h1 := h.p
  have h2 := h.g
  have h3 := h.w
  have h4 := h.r
  have h5 := h.e
  have h6 := h.l
  rcases hj with rfl | rfl | rfl | rfl | rfl
  · have hw : w = mx 0 (r.p + u) := hw
    have b := mx_b 0 (r.p + u)
    rw [← hw] at b
    exact ⟨by show 0 ≤ w ∧ w ≤ 4 + 9 * ((n + 1 : Nat) : Int); omega, h2, by show 0 ≤ r.w ∧ r.w ≤ 25 + 9 * ((n + 1 : Nat) : Int); omega, by show 0 ≤ r.r ∧ r.r ≤ 3 + 9 * ((n + 1 : Nat) : Int); omega, by show 1 ≤ r.e ∧ r.e ≤ 42 + 9 * ((n + 1 : Nat) : Int); omega, by show 1 ≤ r.l ∧ r.l ≤ 80 + 9 * ((n + 1 : Nat) : Int); omega⟩
  · have hw : w = mx 0 (r.w + u) := hw
    have b := mx_b 0 (r.w + u)
    rw [← hw] at b
    exact ⟨by show 0 ≤ r.p ∧ r.p ≤ 4 + 9 * ((n + 1 : Nat) : Int); omega, h2, by show 0 ≤ w ∧ w ≤ 25 + 9 * ((n + 1 : Nat) : Int); omega, by show 0 ≤ r.r ∧ r.r ≤ 3 + 9 * ((n + 1 : Nat) : Int); omega, by show 1 ≤ r.e ∧ r.e ≤ 42 + 9 * ((n + 1 : Nat) : Int); omega, by show 1 ≤ r.l ∧ r.l ≤ 80 + 9 * ((n + 1 : Nat) : Int); omega⟩
  · have hw : w = mx 0 (r.r + u) := hw
    have b := mx_b 0 (r.r + u)
    rw [← hw] at b
    exact ⟨by show 0 ≤ r.p ∧ r.p ≤ 4 + 9 * ((n + 1 : Nat) : Int); omega, h2, by show 0 ≤ r.w ∧ r.w ≤ 25 + 9 * ((n + 1 : Nat) : Int); omega, by show 0 ≤ w ∧ w ≤ 3 + 9 * ((n + 1 : Nat) : Int); omega, by show 1 ≤ r.e ∧ r.e ≤ 42 + 9 * ((n + 1 : Nat) : Int); omega, by show 1 ≤ r.l ∧ r.l ≤ 80 + 9 * ((n + 1 : Nat) : Int); omega⟩
  · have hw : w = mx 1 (r.e + u) := hw
    have b := mx_b 1 (r.e + u)
    rw [← hw] at b
    exact ⟨by show 0 ≤ r.p ∧ r.p ≤ 4 + 9 * ((n + 1 : Nat) : Int); omega, h2, by show 0 ≤ r.w ∧ r.w ≤ 25 + 9 * ((n + 1 : Nat) : Int); omega, by show 0 ≤ r.r ∧ r.r ≤ 3 + 9 * ((n + 1 : Nat) : Int); omega, by show 1 ≤ w ∧ w ≤ 42 + 9 * ((n + 1 : Nat) : Int); omega, by show 1 ≤ r.l ∧ r.l ≤ 80 + 9 * ((n + 1 : Nat) : Int); omega⟩
  · have hw : w = mx 1 (r.l + u) := hw
    have b := mx_b 1 (r.l + u)
    rw [← hw] at b
    exact ⟨by show 0 ≤ r.p ∧ r.p ≤ 4 + 9 * ((n + 1 : Nat) : Int); omega, h2, by show 0 ≤ r.w ∧ r.w ≤ 25 + 9 * ((n + 1 : Nat) : Int); omega, by show 0 ≤ r.r ∧ r.r ≤ 3 + 9 * ((n + 1 : Nat) : Int); omega, by show 1 ≤ r.e ∧ r.e ≤ 42 + 9 * ((n + 1 : Nat) : Int); omega, by show 1 ≤ w ∧ w ≤ 80 + 9 * ((n + 1 : Nat) : Int); omega⟩
def spNear : Sp := fun vs H Q _ => ∃ (b : Addr) (x y : Int), vs = [.ref b, .int x, .int y] ∧ Bag H b ∧ BdOk x y ∧ ∀ (l : Addr) (r : Ru) (H' : Hp), H l = none → l ≠ b → H' l = some (.lst (six r)) → RuOk r → Bag H' b → Kp b H H' → Q (.ref l) H'
theorem ok__law_near_parts (T : Tx K mg a) : FnOk P w K mg base CX0 4 a.f__law_near_parts a.d__law_near_parts ["_law_bag_here", "_law_few", "_law_old"] spNear := by
  refine T.F__law_near_parts.ok sc__law_near_parts (fun vs H Q E h => ?_) (fun cdv A outer s H vs Q E hr h => ?_)
  · obtain ⟨b, x, y, rfl, _⟩ := h
    rfl
  · obtain ⟨bg, x, y, rfl, hb, o1, q⟩ := h
    refine ⟨_, (pss_cons (ps_if (pt_cmpR op_eq (pe_call (ok__law_take T) (hr.mono (by decide)) (by rfl) T.g__law_take T.F__law_take.kp T.b__law_take .nil pass0 (pa_cons (pv 0) (pa_cons pe_int pa_nil))) pe_int (nomark _)) (pss_one (ps_ret (pe_call (ok__law_good_parts T) (hr.mono (by decide)) (by rfl) T.g__law_good_parts T.F__law_good_parts.kp T.b__law_good_parts .nil pass0 (pa_cons (pv 0) pa_nil)))) pss_nil)
      (pss_cons (ps_set (i := 3) sc__law_near_parts.nd rfl (.inl rfl) (pe_callTy call_list_of (by rfl) T.m_list (by decide +kernel) (pa_cons (pe_call (ok__law_least T) (hr.mono (by decide)) (by rfl) T.g__law_least T.F__law_least.kp T.b__law_least .nil pass0 (pa_cons (pv 1) (pa_cons (pv 2) (pa_cons (pe_op op_add pe_int (pe_call (ok__law_take T) (hr.mono (by decide)) (by rfl) T.g__law_take T.F__law_take.kp T.b__law_take .nil pass0 (pa_cons (pv 0) (pa_cons pe_int pa_nil)))) pa_nil)))) pa_nil)))
      (pss_cons (ps_for PassesOwn.never rfl (pi_range1 rfl T.m_range (pa_cons (pe_call (ok__law_take T) (hr.mono (by decide)) (by rfl) T.g__law_take T.F__law_take.kp T.b__law_take .nil pass0 (pa_cons (pv 0) (pa_cons pe_int pa_nil))) pa_nil)) (pg_name (i := 4) sc__law_near_parts.nd rfl (.inl rfl)) (pss_cons (ps_set (i := 5) sc__law_near_parts.nd rfl (.inl rfl) (pe_ix ix_list (pe_lst (pa_cons pe_int (pa_cons pe_int (pa_cons pe_int (pa_cons pe_int (pa_cons pe_int pa_nil)))))) (pe_call (ok__law_take T) (hr.mono (by decide)) (by rfl) T.g__law_take T.F__law_take.kp T.b__law_take .nil pass0 (pa_cons (pv 0) (pa_cons pe_int pa_nil))) (fun _ _ => rfl)))
      (pss_one (ps_asg (pe_callB (call_max2 rfl) (by rfl) T.m_max (by decide +kernel) (pa_cons (pe_callTy call_int1 (by rfl) T.m_int (by decide +kernel) (pa_cons (pe_cmpR op_gt (pv 5) pe_int (nomark _)) pa_nil)) (pa_cons (pe_op op_add (pe_ix ix_list (pv 3) (pv 5) (fun _ _ => rfl)) (pe_ix ix_list (pe_lst (pa_cons pe_int (pa_cons (pe_un un_neg pe_int) (pa_cons pe_int (pa_cons pe_int pa_nil))))) (pe_call (ok__law_take T) (hr.mono (by decide)) (by rfl) T.g__law_take T.F__law_take.kp T.b__law_take .nil pass0 (pa_cons (pv 0) (pa_cons pe_int pa_nil))) (fun _ _ => rfl))) pa_nil))) (pg_sub (pv 3) (pv 5) set_list)))))
      (pss_cons (ps_asg (pe_tup (pa_cons (pe_callB (call_min2 rfl) (by rfl) T.m_min (by decide +kernel) (pa_cons pe_int (pa_cons (pe_ix ix_list (pv 3) pe_int (fun _ _ => rfl)) pa_nil))) (pa_cons (pe_callB (call_min2 rfl) (by rfl) T.m_min (by decide +kernel) (pa_cons pe_int (pa_cons (pe_ix ix_list (pv 3) pe_int (fun _ _ => rfl)) pa_nil))) (pa_cons (pe_callB (call_min2 rfl) (by rfl) T.m_min (by decide +kernel) (pa_cons pe_int (pa_cons (pe_ix ix_list (pv 3) pe_int (fun _ _ => rfl)) pa_nil))) pa_nil)))) (pg_tup rfl (pgs_cons (pg_sub (pv 3) pe_int set_list) (pgs_cons (pg_sub (pv 3) pe_int set_list) (pgs_cons (pg_sub (pv 3) pe_int set_list) pgs_nil)))))
      (pss_cons (ps_asg (pe_callB (call_max2 rfl) (by rfl) T.m_max (by decide +kernel) (pa_cons (pe_ix ix_list (pv 3) pe_int (fun _ _ => rfl)) (pa_cons (pe_op op_add (pe_call (ok__law_claiming T) (hr.mono (by decide)) (by rfl) T.g__law_claiming T.F__law_claiming.kp T.b__law_claiming .nil pass0 (pa_cons (pv 3) pa_nil)) pe_int) pa_nil))) (pg_sub (pv 3) pe_int set_list))
      (pss_one (ps_ret (pv 3)))))))), ?_⟩
    refine ⟨_, rfl, bg, 4, rfl, hb, ⟨by decide, by decide⟩, fun d H1 d0 d1 hb1 k1 => ⟨rfl, _, rfl, ite2 (fun _ => ?_) (fun _ => ?_)⟩⟩
    · exact ⟨_, rfl, bg, rfl, hb1, fun l r H2 nl nb hl ok hb2 k2 => q l r H2 (k1.free hb1 nl) nb hl ok hb2 (k1.trans k2)⟩
    refine ⟨_, rfl, _, rfl, _, rfl, bg, 5, rfl, hb1, ⟨by decide, by decide⟩, fun g H2 g0 g1 hb2 k2 => ?_⟩
    refine ⟨1, g, rfl, rfl, x, y, 1 + g, rfl, o1, ⟨by omega, by omega⟩, fun tp ntp => ?_⟩
    refine ⟨tp, _, rfl, .inr (SqT.of upd_same), fun l nl => ?_⟩
    generalize e3 : upd (upd H2 tp _) l _ = H3
    obtain ⟨s3, f3⟩ := fresh nl e3
    have s23 : Same H2 H3 := (same_upd ntp).trans s3
    have nlb : l ≠ bg := by
      obtain ⟨o, ho⟩ := hb2.some
      exact (ne_of_none ((same_upd ntp) _ _ ho) nl).symm
    have nl2 : H2 l = none := (same_upd ntp).free nl
    have hb3 : Bag H3 bg := by
      obtain ⟨g, m, e, r⟩ := hb2
      exact ⟨g, m, s23 _ _ e, r⟩
    have k3 : Kp bg H H3 := (k1.trans k2).trans (Same.kp s23)
    have nlH : H l = none := (k1.trans k2).free hb2 nl2
    have ne0 : NeOk (leastR x y (1 + g)) 0 := by
      have hx := o1.x
      have hy := o1.y
      have e1 : mx (x + 1 - 1) 0 = x := by
        unfold mx
        split <;> omega
      rcases five (g := 1 + g) ⟨by omega, by omega⟩ with h | h | h | h | h <;> rw [h] <;>
        exact ⟨by unfold leastR; dsimp only; omega, by unfold leastR; dsimp only; omega, by unfold leastR waitT; dsimp only; omega, by unfold leastR; dsimp only; omega, by unfold leastR claimT waitT; dsimp only; rw [e1]; omega, by unfold leastR askT; dsimp only; omega⟩
    refine ⟨_, rfl, bg, 4, rfl, hb3, ⟨by decide, by decide⟩, fun m H4 m0 m1 hb4 k4 => ?_⟩
    refine ⟨m, rfl, by omega, by omega, for_range (n := m.toNat) (fun n σ H5 => ∃ (r : Ru) (y4 y5 : Option V), σ = [some (.ref bg), some (.int x), some (.int y), some (.ref l), y4, y5] ∧ H5 l = some (.lst (six r)) ∧ NeOk r n ∧ Bag H5 bg ∧ Kp bg H H5) ⟨_, _, _, rfl, k4 _ _ nlb f3, ne0, hb4, k3.trans k4⟩ (fun n σ H5 hn hW => ?_) (fun σ H5 hW => ?_)⟩
    · obtain ⟨r, y4, y5, rfl, hl, ne, hb5, k5⟩ := hW
      refine ⟨by show 5 ≤ sizeLine; decide, fun l1 nl1 => ?_⟩
      refine ⟨_, rfl, bg, 5, rfl, hb5.new nl1, ⟨by decide, by decide⟩, fun d H6 d0 d1 hb6 k6 => ?_⟩
      have nl1b : l1 ≠ bg := hb5.ne nl1
      have pick : ∃ j : Nat, atI [V.int 0, V.int 2, V.int 3, V.int 4, V.int 5] d = some (.int (j : Int)) ∧ (j = 0 ∨ j = 2 ∨ j = 3 ∨ j = 4 ∨ j = 5) := by
        obtain rfl | rfl | rfl | rfl | rfl : d = 0 ∨ d = 1 ∨ d = 2 ∨ d = 3 ∨ d = 4 := by omega
        · exact ⟨0, rfl, .inl rfl⟩
        · exact ⟨2, rfl, .inr (.inl rfl)⟩
        · exact ⟨3, rfl, .inr (.inr (.inl rfl))⟩
        · exact ⟨4, rfl, .inr (.inr (.inr (.inl rfl)))⟩
        · exact ⟨5, rfl, .inr (.inr (.inr (.inr rfl)))⟩
      obtain ⟨j, hj, hj5⟩ := pick
      refine ⟨l1, _, d, .int (j : Int), rfl, rfl, SqL.of (k6 _ _ nl1b upd_same), hj, ?_⟩
      have k56 : Kp bg H5 H6 := (Kp.new nl1).trans k6
      have hl6 := k56 _ _ nlb hl
      refine ⟨_, rfl, (j : Int), 3, rfl, rfl, .inr ⟨_, rfl, _, rfl, _, rfl, l, _, (j : Int), _, rfl, rfl, SqL.of hl6, six_get hj5, 1, rfl, by show 4 ≤ sizeLine; decide, fun l2 nl2 => ?_⟩⟩
      refine ⟨_, rfl, bg, 4, rfl, hb6.new nl2, ⟨by decide, by decide⟩, fun e H7 e0 e1 hb7 k7 => ?_⟩
      have nl2b : l2 ≠ bg := hb6.ne nl2
      have pick2 : ∃ u : Int, atI [V.int 1, V.int (-1), V.int 2, V.int 9] e = some (.int u) ∧ -1 ≤ u ∧ u ≤ 9 := by
        obtain rfl | rfl | rfl | rfl : e = 0 ∨ e = 1 ∨ e = 2 ∨ e = 3 := by omega
        · exact ⟨1, rfl, by decide, by decide⟩
        · exact ⟨-1, rfl, by decide, by decide⟩
        · exact ⟨2, rfl, by decide, by decide⟩
        · exact ⟨9, rfl, by decide, by decide⟩
      obtain ⟨u, hu, u0, u1⟩ := pick2
      have k57 : Kp bg H5 H7 := (k56.trans (Kp.new nl2)).trans k7
      have hl7 := k57 _ _ nlb hl
      refine ⟨l2, _, e, .int u, rfl, rfl, SqL.of (k7 _ _ nl2b upd_same), hu, fld r j, u, rfl, rfl, _, _, rfl, _, rfl, _, rfl, l, _, (j : Int), j, rfl, rfl, hl7, ?_, ?_⟩
      · rcases hj5 with rfl | rfl | rfl | rfl | rfl <;> rfl
      · rw [six_set hj5]
        exact ⟨_, _, _, rfl, upd_same, ne_step ne hj5 ⟨u0, u1⟩ rfl, hb7.upd nlb, (k5.trans k57).put nlH⟩
    · obtain ⟨r, y4, y5, rfl, hl, ne, hb5, k5⟩ := hW
      have hm : (m.toNat : Int) ≤ 3 := by omega
      have np := ne.p
      have nw := ne.w
      have nr := ne.r
      have n4 := ne.e
      have n5 := ne.l
      refine ⟨_, rfl, l, _, 0, .int r.p, rfl, rfl, SqL.of hl, rfl, 9, r.p, rfl, _, rfl, l, _, 2, .int r.w, rfl, rfl, SqL.of hl, rfl, 99, r.w, rfl, _, rfl, l, _, 3, .int r.r, rfl, rfl, SqL.of hl, rfl, 9, r.r, rfl, by show 3 ≤ sizeLine; decide, fun tq ntq => ?_⟩
      generalize e6 : upd H5 tq _ = H6
      obtain ⟨s6, f6⟩ := fresh ntq e6
      have hl6 := s6 _ _ hl
      refine ⟨tq, _, rfl, SqT.of f6, rfl, _, _, rfl, _, rfl, l, _, 0, 0, rfl, rfl, hl6, rfl, _, _, rfl, _, rfl, l, _, 2, 2, rfl, rfl, upd_same, rfl, _, _, rfl, _, rfl, l, _, 3, 3, rfl, rfl, upd_same, rfl, rfl, ?_⟩
      rw [upd_upd, upd_upd]
      show tSeq _ _ _ _ (upd H6 l (.lst (six ⟨mn 9 r.p, r.g, mn 99 r.w, mn 9 r.r, r.e, r.l⟩)))
      have c1 : 0 ≤ mn 9 r.p ∧ mn 9 r.p ≤ 9 := by
        unfold mn
        split <;> omega
      have c2 : 0 ≤ mn 99 r.w ∧ mn 99 r.w ≤ 99 := by
        unfold mn
        split <;> omega
      have c3 : 0 ≤ mn 9 r.r ∧ mn 9 r.r ≤ 9 := by
        unfold mn
        split <;> omega
      generalize mn 9 r.p = p' at c1
      generalize mn 99 r.w = w' at c2
      generalize mn 9 r.r = r' at c3
      have cl := claim_le c1 ne.g c2
      refine ⟨_, rfl, l, _, 4, .int r.e, rfl, rfl, SqL.of upd_same, rfl, _, rfl, l, _, rfl, SqL.of upd_same, ⟨by show -1000000 ≤ p'; omega, by show p' ≤ 1000000; omega⟩, _, 2, rfl, rfl, r.e, _, rfl, _, rfl, l, _, 4, 4, rfl, rfl, upd_same, rfl, ?_⟩
      rw [upd_upd]
      refine ⟨_, rfl, ?_⟩
      have pa : PaOk ⟨p', r.g, w', r', r.e, r.l⟩ := ⟨c1, ne.g, c2, c3, by show 1 ≤ r.e ∧ r.e ≤ 400; omega, by show 1 ≤ r.l ∧ r.l ≤ 400; omega⟩
      have hb6 : Bag H6 bg := by
        obtain ⟨g, m, e, q⟩ := hb5
        exact ⟨g, m, s6 _ _ e, q⟩
      exact q l _ _ nlH nlb upd_same (pa.rule _ rfl) (hb6.upd nlb) ((k5.trans (Same.kp s6)).put nlH)
/-! _law_more_right -/
theorem mx_up (p : Int) : mx (p - 1) 0 ≤ mx (p + 1 - 1) 0 ∧ 0 ≤ mx (p - 1) 0 := by
  unfold mx
  constructor <;> (repeat' split) <;> omega
theorem claim_up {p g w : Int} (hg : 1 ≤ g ∧ g ≤ 5) : claimT p g w ≤ claimT (p + 1) g w := by
  have h := mx_up p
  unfold claimT
  generalize mx (p - 1) 0 = m at h
  generalize mx (p + 1 - 1) 0 = n at h
  rcases five hg with rfl | rfl | rfl | rfl | rfl <;> omega
theorem mend_le {x y : Int} {r s : Ru} (hx : 0 ≤ x ∧ x ≤ 3) (hc : claimT r.p r.g r.w ≤ claimT s.p s.g s.w) (he : r.e ≤ s.e) : mendT x y r ≤ mendT x y s := by
  unfold mendT
  have h : (x + 1) * r.e ≤ (x + 1) * s.e := Int.mul_le_mul_of_nonneg_left he (by omega)
  omega
theorem en_up {x y : Int} {r : Ru} {j : Nat} (hj : j = 0 ∨ j = 2 ∨ j = 4 ∨ j = 5) (h : enB x y r = true) : enB x y (setF r (fld r j + 1) j) = true := by
  unfold enB fitsB at h ⊢
  simp only [Bool.and_eq_true, decide_eq_true_eq] at h ⊢
  obtain ⟨h1, h2, h3, h4⟩ := h
  rcases hj with rfl | rfl | rfl | rfl
  · exact ⟨h1, by show x + 1 ≤ r.p + 1; omega, h3, h4⟩
  · exact ⟨h1, h2, h3, by show waitT x y r.g ≤ r.w + 1; omega⟩
  · exact ⟨h1, h2, h3, h4⟩
  · exact ⟨by show 2 * askT y r.r r.g ≤ r.l + 1; omega, h2, h3, h4⟩
theorem up_le {r : Ru} {j : Nat} (hg : 1 ≤ r.g ∧ r.g ≤ 5) (hj : j = 0 ∨ j = 2 ∨ j = 4 ∨ j = 5) : claimT r.p r.g r.w ≤ claimT (setF r (fld r j + 1) j).p (setF r (fld r j + 1) j).g (setF r (fld r j + 1) j).w ∧ r.e ≤ (setF r (fld r j + 1) j).e := by
  rcases hj with rfl | rfl | rfl | rfl
  · exact ⟨claim_up hg, Int.le_refl _⟩
  · exact ⟨by show mx (r.p - 1) 0 * r.g + r.w ≤ mx (r.p - 1) 0 * r.g + (r.w + 1); omega, Int.le_refl _⟩
  · exact ⟨Int.le_refl _, by show r.e ≤ r.e + 1; omega⟩
  · exact ⟨Int.le_refl _, Int.le_refl _⟩
theorem six_up {r : Ru} {j : Nat} {v : Int} (hj : j = 0 ∨ j = 2 ∨ j = 4 ∨ j = 5) : (cutV (six r) none (some (j : Int)) ++ [.int v]) ++ cutV (six r) (some ((j : Int) + 1)) none = six (setF r v j) := by
  rcases hj with rfl | rfl | rfl | rfl <;> rfl
def spMore (K : PySem.W.Frag) (C : Addr) : Sp := fun vs H Q _ => ∃ (b l : Addr) (x y : Int) (r : Ru), vs = [.ref b, .ref l] ∧ BAt C H b x y ∧ BdOk x y ∧ SqL K H l (six r) ∧ RuOk r ∧ ∀ H', Same H H' → Q (.bl true) H'
theorem ok__law_more_right (T : Tx K mg a) : FnOk P w K mg base CX0 7 a.f__law_more_right a.d__law_more_right ["_law_held", "_law_parts_here"] (spMore K a.C_Bounds) := by
  refine T.F__law_more_right.ok sc__law_more_right (fun vs H Q E h => ?_) (fun cdv A outer s H vs Q E hr h => ?_)
  · obtain ⟨b, l, x, y, r, rfl, _⟩ := h
    rfl
  · obtain ⟨b, l, x, y, r, rfl, hb, o1, hl, ok, q⟩ := h
    refine ⟨_, (pss_cons (ps_set (i := 2) sc__law_more_right.nd rfl (.inl rfl) (pe_call (ok__law_made_rule T) (hr.mono (by decide)) (by rfl) T.g__law_made_rule T.F__law_made_rule.kp T.b__law_made_rule .nil pass0 (pa_cons (pv 1) pa_nil)))
      (pss_cons (ps_for PassesOwn.never rfl (pi_list (pe_lst (pa_cons pe_int (pa_cons pe_int (pa_cons pe_int (pa_cons pe_int pa_nil)))))) (pg_name (i := 3) sc__law_more_right.nd rfl (.inl rfl)) (pss_cons (ps_set (i := 4) sc__law_more_right.nd rfl (.inl rfl) (pe_op op_cat (pe_op op_cat (pe_slice sl_list (pv 1) po_none (po_some (pv 3))) (pe_lst (pa_cons (pe_op op_add (pe_ix ix_list (pv 1) (pv 3) (fun _ _ => rfl)) pe_int) pa_nil))) (pe_slice sl_list (pv 1) (po_some (pe_op op_add (pv 3) pe_int)) po_none)))
      (pss_one (ps_if (pt_val (pe_call (ok__law_is_rule T) (hr.mono (by decide)) (by rfl) T.g__law_is_rule T.F__law_is_rule.kp T.b__law_is_rule .nil pass0 (pa_cons (pv 4) pa_nil))) (pss_cons (ps_set (i := 5) sc__law_more_right.nd rfl (.inl rfl) (pe_call (ok__law_made_rule T) (hr.mono (by decide)) (by rfl) T.g__law_made_rule T.F__law_made_rule.kp T.b__law_made_rule .nil pass0 (pa_cons (pv 4) pa_nil)))
      (pss_cons (ps_if (PW.pt (pw_and (pt_val (pe_call (ok_is_enough T) (hr.mono (by decide)) (by rfl) T.g_is_enough T.F_is_enough.kp T.b_is_enough .nil pass0 (pa_cons (pv 0) (pa_cons (pv 2) pa_nil)))) (pw_and1 (pt_not (pt_val (pe_call (ok_is_enough T) (hr.mono (by decide)) (by rfl) T.g_is_enough T.F_is_enough.kp T.b_is_enough .nil pass0 (pa_cons (pv 0) (pa_cons (pv 5) pa_nil)))))))) (pss_one (ps_ret pe_bl)) pss_nil)
      (pss_one (ps_if (PW.pt (pw_or (pt_cmpR op_lt (pe_call (ok_mending_time T) (hr.mono (by decide)) (by rfl) T.g_mending_time T.F_mending_time.kp T.b_mending_time .nil pass0 (pa_cons (pv 0) (pa_cons (pv 5) pa_nil))) (pe_call (ok_mending_time T) (hr.mono (by decide)) (by rfl) T.g_mending_time T.F_mending_time.kp T.b_mending_time .nil pass0 (pa_cons (pv 0) (pa_cons (pv 2) pa_nil))) (nomark _)) (pw_or1 (pt_cmpR op_lt (pe_call (ok_claiming_time T) (hr.mono (by decide)) (by rfl) T.g_claiming_time T.F_claiming_time.kp T.b_claiming_time .nil pass0 (pa_cons (pv 5) pa_nil)) (pe_call (ok_claiming_time T) (hr.mono (by decide)) (by rfl) T.g_claiming_time T.F_claiming_time.kp T.b_claiming_time .nil pass0 (pa_cons (pv 2) pa_nil)) (nomark _))))) (pss_one (ps_ret pe_bl)) pss_nil)))) pss_nil))))
      (pss_one (ps_ret pe_bl)))), ?_⟩
    refine ⟨_, rfl, l, r, rfl, hl, ok, fun pm H1 s1 nm rm => ?_⟩
    refine ⟨by show 4 ≤ sizeLine; decide, fun ls nls => ?_⟩
    generalize e2 : upd H1 ls _ = H2
    obtain ⟨s2, f2⟩ := fresh nls e2
    have s02 : Same H H2 := s1.trans s2
    refine ⟨ls, rfl, ⟨_, SqL.of f2⟩, for_list (xs := [.int 0, .int 2, .int 4, .int 5]) (fun _ σ H3 => ∃ y3 y4 y5, σ = [some (.ref b), some (.ref l), some (.ref pm), y3, y4, y5] ∧ Same H2 H3) ⟨_, _, _, rfl, Same.refl _⟩ (fun n σ H3 _ hW => ?_) (fun n v σ H3 hv hW => ?_) (fun σ H3 hW => ?_)⟩
    · obtain ⟨_, _, _, _, s3⟩ := hW
      exact SqL.of (s3 _ _ f2)
    · obtain ⟨y3, y4, y5, rfl, s3⟩ := hW
      obtain ⟨j, rfl, hj⟩ : ∃ j : Nat, v = .int (j : Int) ∧ (j = 0 ∨ j = 2 ∨ j = 4 ∨ j = 5) := by
        have hm := List.mem_of_getElem? hv
        simp only [List.mem_cons, List.not_mem_nil, or_false] at hm
        rcases hm with rfl | rfl | rfl | rfl
        · exact ⟨0, rfl, .inl rfl⟩
        · exact ⟨2, rfl, .inr (.inl rfl)⟩
        · exact ⟨4, rfl, .inr (.inr (.inl rfl))⟩
        · exact ⟨5, rfl, .inr (.inr (.inr rfl))⟩
      have hj5 : j = 0 ∨ j = 2 ∨ j = 3 ∨ j = 4 ∨ j = 5 := by omega
      have s03 := s02.trans s3
      have hl3 := s03.seq hl
      -- more
      refine ⟨_, rfl, _, rfl, (j : Int), rfl, l, _, rfl, hl3, fun p1 np1 => ?_⟩
      generalize e4 : upd H3 p1 _ = H4
      obtain ⟨s4, f4⟩ := fresh np1 e4
      have hl4 := s4.seq hl3
      refine ⟨_, rfl, _, rfl, l, _, (j : Int), _, rfl, rfl, hl4, six_get hj5, fld r j, 1, rfl, rfl, by show 1 ≤ sizeLine; decide, fun p2 np2 => ?_⟩
      generalize e5 : upd H4 p2 _ = H5
      obtain ⟨s5, f5⟩ := fresh np2 e5
      have small6 : ∀ lo hi : Option Int, (cutV (six r) lo hi).length ≤ 6 := fun lo hi => cutV_length (six r) lo hi
      have z1 := small6 none (some (j : Int))
      have z2 := small6 (some ((j : Int) + 1)) none
      refine ⟨p1, p2, _, _, rfl, rfl, s5 _ _ f4, f5, ?_, fun p3 np3 => ?_⟩
      · simp only [List.length_singleton]
        exact Nat.le_of_lt (small1000 (by omega))
      generalize e6 : upd H5 p3 _ = H6
      obtain ⟨s6, f6⟩ := fresh np3 e6
      have hl6 := s6.seq (s5.seq hl4)
      refine ⟨_, rfl, _, rfl, (j : Int), 1, rfl, rfl, _, rfl, l, _, rfl, hl6, fun p4 np4 => ?_⟩
      generalize e7 : upd H6 p4 _ = H7
      obtain ⟨s7, f7⟩ := fresh np4 e7
      refine ⟨p3, p4, _, _, rfl, rfl, s7 _ _ f6, f7, ?_, fun p5 np5 => ?_⟩
      · rw [List.length_append, List.length_singleton]
        exact Nat.le_of_lt (small1000 (by omega))
      rw [six_up hj]
      generalize e8 : upd H7 p5 _ = H8
      obtain ⟨s8, f8⟩ := fresh np5 e8
      have s38 : Same H3 H8 := s4.trans (s5.trans (s6.trans (s7.trans s8)))
      have hp := ok.p
      have hw := ok.w
      -- is it a rule
      refine ⟨_, rfl, p5, _, rfl, SqL.of f8, ?_, fun H9 s9 => ⟨_, rfl, ite2 (fun e => ?_) (fun e => ?_)⟩⟩
      · rcases hj with rfl | rfl | rfl | rfl
        · exact ⟨by show -1000000 ≤ r.p + 1; omega, by show r.p + 1 ≤ 1000000; omega⟩
        · exact ⟨by show -1000000 ≤ r.p; omega, by show r.p ≤ 1000000; omega⟩
        · exact ⟨by show -1000000 ≤ r.p; omega, by show r.p ≤ 1000000; omega⟩
        · exact ⟨by show -1000000 ≤ r.p; omega, by show r.p ≤ 1000000; omega⟩
      · have ok2 := rule_iff.mp e
        refine ⟨_, rfl, p5, _, rfl, SqL.of (s9 _ _ f8), ok2, fun pg H10 s10 ng rg => ?_⟩
        have s310 : Same H3 H10 := s38.trans (s9.trans s10)
        have hbx : BAt a.C_Bounds H10 b x y := hb.same (s03.trans s310)
        have rmx : RAt a.C_Rule H10 pm r := rm.same (s2.trans (s3.trans s310))
        obtain ⟨u1, u2⟩ := up_le ok.g hj
        have m1 := mend_le (y := y) o1.x u1 u2
        have fin : ∃ y3 y4 y5, [some (V.ref b), some (V.ref l), some (V.ref pm), some (V.int (j : Int)), some (V.ref p5), some (V.ref pg)] = [some (.ref b), some (.ref l), some (.ref pm), y3, y4, y5] ∧ Same H2 H10 := ⟨_, _, _, rfl, s3.trans s310⟩
        refine ⟨_, rfl, _, rfl, b, pm, x, y, r, rfl, hbx, rmx, o1, ok, _, rfl, ite2 (fun e1 => ?_) (fun e1 => iteF ?_)⟩
        · refine ⟨_, rfl, _, rfl, b, pg, x, y, _, rfl, hbx, rg, o1, ok2, true, congrArg V.bl (en_up hj e1), iteF ?_⟩
          refine ⟨_, rfl, _, rfl, b, pg, x, y, _, rfl, hbx, rg, o1, ok2, _, rfl, _, rfl, b, pm, x, y, r, rfl, hbx, rmx, o1, ok, _, _, rfl, rfl, _, rfl, ?_⟩
          rw [decide_eq_false (by omega)]
          refine iteF ?_
          refine ⟨_, rfl, pg, _, rfl, rg, ok2, _, rfl, pm, r, rfl, rmx, ok, _, _, rfl, rfl, _, rfl, ?_⟩
          rw [decide_eq_false (by omega)]
          exact iteF fin
        · refine ⟨_, rfl, _, rfl, b, pg, x, y, _, rfl, hbx, rg, o1, ok2, _, rfl, _, rfl, b, pm, x, y, r, rfl, hbx, rmx, o1, ok, _, _, rfl, rfl, _, rfl, ?_⟩
          rw [decide_eq_false (by omega)]
          refine iteF ?_
          refine ⟨_, rfl, pg, _, rfl, rg, ok2, _, rfl, pm, r, rfl, rmx, ok, _, _, rfl, rfl, _, rfl, ?_⟩
          rw [decide_eq_false (by omega)]
          exact iteF fin
      · exact ⟨_, _, _, rfl, s3.trans (s38.trans s9)⟩
    · obtain ⟨y3, y4, y5, rfl, s3⟩ := hW
      exact q _ (s02.trans s3)
/-! the law -/
theorem BAt.kp {C bg : Addr} {H H' : Hp} {b : Addr} {x y : Int} (h : BAt C H b x y) (k : Kp bg H H') (hb : Bag H bg) : BAt C H' b x y := by
  obtain ⟨dx, e⟩ := h
  obtain ⟨g, m, z, _⟩ := hb
  exact ⟨dx, k _ _ (ne_of e z (fun q => nomatch q)) e⟩
theorem ask_le {y z : Int} {r : Ru} (h : z ≤ y) : askT z r.r r.g ≤ askT y r.r r.g := by
  unfold askT
  omega
theorem en_less {x y u v : Int} {r : Ru} (hg : 1 ≤ r.g ∧ r.g ≤ 5) (hu : 0 ≤ u ∧ u ≤ x) (hv : 1 ≤ v ∧ v ≤ y) (h : enB x y r = true) : enB u v r = true := by
  unfold enB fitsB at h ⊢
  simp only [Bool.and_eq_true, decide_eq_true_eq] at h ⊢
  obtain ⟨h1, h2, h3, h4⟩ := h
  have a1 := ask_le (r := r) hv.2
  refine ⟨by omega, by omega, by omega, ?_⟩
  unfold waitT at h4 ⊢
  have h5 : u * r.g ≤ x * r.g := Int.mul_le_mul_of_nonneg_right hu.2 (by omega)
  omega
theorem mend_less {x y u v : Int} {r : Ru} (he : 1 ≤ r.e) (hu : u ≤ x) (hv : v ≤ y) : mendT u v r ≤ mendT x y r := by
  unfold mendT
  have h : (u + 1) * r.e ≤ (x + 1) * r.e := Int.mul_le_mul_of_nonneg_right (by omega) (by omega)
  omega
def dueB (x y : Int) (r : Ru) : Bool := decide (x + 1 ≤ r.p) && (decide (x ≤ r.r) && decide (waitT x y r.g ≤ r.w))
def spLaw (K : PySem.W.Frag) : Sp := fun vs H Q _ => ∃ (a : Addr) (ns : List Int), vs = [.ref a] ∧ SqL K H a (ns.map V.int) ∧ ns.length ≤ 63 ∧ ∀ H', Q (.bl true) H'
theorem ok_law (T : Tx K mg a) : FnG P w K mg base CX0 8 a.f_law a.d_law ["_law_script"] (spLaw K) := by
  refine fnG0 T.F_law sc_law (fun vs H Q E h => ?_) (fun cdv A outer s H vs Q E gd hr h => ?_)
  · obtain ⟨l, ns, rfl, _⟩ := h
    rfl
  · obtain ⟨al, ns, rfl, hS, hlen, q⟩ := h
    refine ⟨_, (pss_cons (ps_for PassesOwn.never rfl (pi_range1 rfl T.m_range (pa_cons (pe_callB (call_max2 rfl) (by rfl) T.m_max (by decide +kernel) (pa_cons pe_int (pa_cons (pe_callB (call_min2 rfl) (by rfl) T.m_min (by decide +kernel) (pa_cons pe_int (pa_cons (pe_callB call_len_seq (by rfl) T.m_len PySem.boot_len (pa_cons (pv 0) pa_nil)) pa_nil))) pa_nil))) pa_nil)) (pg_name (i := 1) sc_law.nd rfl (.inl rfl)) (pss_cons (ps_set (i := 2) sc_law.nd rfl (.inl rfl) (pe_call (ok__law_bag T) (hr.mono (by decide)) (by rfl) T.g__law_bag T.F__law_bag.kp T.b__law_bag .nil pass0 (pa_cons (pv 0) (pa_cons (pv 1) pa_nil))))
      (pss_cons (ps_par (i := 3) (j := 4) rfl sc_law.nd rfl rfl (by decide) rfl rfl (pa_cons (pe_call (ok__law_take T) (hr.mono (by decide)) (by rfl) T.g__law_take T.F__law_take.kp T.b__law_take .nil pass0 (pa_cons (pv 2) (pa_cons pe_int pa_nil))) (pa_cons (pe_op op_add pe_int (pe_call (ok__law_take T) (hr.mono (by decide)) (by rfl) T.g__law_take T.F__law_take.kp T.b__law_take .nil pass0 (pa_cons (pv 2) (pa_cons pe_int pa_nil)))) pa_nil)) rfl)
      (pss_cons (ps_set (i := 5) sc_law.nd rfl (.inl rfl) (pe_makeK0 T.mk_Bounds (ok_binit T) (hr.mono (by decide)) (by rfl) T.g_Bounds T.q_B1 pass0 (pk_cons (pv 3) (pk_cons (pv 4) pk_nil))))
      (pss_cons (ps_set (i := 6) sc_law.nd rfl (.inl rfl) (pe_makeK0 T.mk_Bounds (ok_binit T) (hr.mono (by decide)) (by rfl) T.g_Bounds T.q_B1 pass0 (pk_cons (pe_call (ok__law_take T) (hr.mono (by decide)) (by rfl) T.g__law_take T.F__law_take.kp T.b__law_take .nil pass0 (pa_cons (pv 2) (pa_cons (pe_op op_add (pv 3) pe_int) pa_nil))) (pk_cons (pe_op op_add pe_int (pe_call (ok__law_take T) (hr.mono (by decide)) (by rfl) T.g__law_take T.F__law_take.kp T.b__law_take .nil pass0 (pa_cons (pv 2) (pa_cons (pv 4) pa_nil)))) pk_nil))))
      (pss_one (ps_for PassesOwn.never rfl (pi_range1 rfl T.m_range (pa_cons pe_int pa_nil)) (pg_name (i := 7) sc_law.nd rfl (.inl rfl)) (pss_cons (ps_set (i := 8) sc_law.nd rfl (.inl rfl) (pe_call (ok__law_near_parts T) (hr.mono (by decide)) (by rfl) T.g__law_near_parts T.F__law_near_parts.kp T.b__law_near_parts .nil pass0 (pa_cons (pv 2) (pa_cons (pv 3) (pa_cons (pv 4) pa_nil)))))
      (pss_cons (ps_set (i := 9) sc_law.nd rfl (.inl rfl) (pe_call (ok__law_made_rule T) (hr.mono (by decide)) (by rfl) T.g__law_made_rule T.F__law_made_rule.kp T.b__law_made_rule .nil pass0 (pa_cons (pv 8) pa_nil)))
      (pss_cons (ps_set (i := 10) sc_law.nd rfl (.inl rfl) (pe_callN (ok_least_rule T) (hr.mono (by decide)) (by rfl) T.g_least_rule T.F_least_rule.kp T.q_L1 pass0 (pa_cons (pv 5) pa_nil) (pk_cons (pe_ix ix_list (pv 8) pe_int (fun _ _ => rfl)) pk_nil)))
      (C8.pss_cut (ps_set (i := 11) sc_law.nd rfl (.inl rfl) (pe_and (pe_cmpR op_ge (pe_fld (pv 9) rfl) (pe_fld (pv 10) rfl) (nomark _)) (pe_and (pe_cmpR op_ge (pe_fld (pv 9) rfl) (pe_fld (pv 10) rfl) (nomark _)) (pe_one (pe_cmpR op_ge (pe_fld (pv 9) rfl) (pe_fld (pv 10) rfl) (nomark _))))))
      (C8.pss_cut (ps_set (i := 11) sc_law.nd rfl (.inl rfl) (pe_and (pv 11) (pe_one (pe_cmpR op_ge (pe_fld (pv 9) rfl) (pe_op op_mul pe_int (pe_call (ok_asking_time T) (hr.mono (by decide)) (by rfl) T.g_asking_time T.F_asking_time.kp T.b_asking_time .nil pass0 (pa_cons (pv 5) (pa_cons (pv 9) pa_nil)))) (nomark _)))))
      (C8.pss_cut (ps_if (PW.pt (pw_or (pt_cmpR op_ne (pe_call (ok_is_enough T) (hr.mono (by decide)) (by rfl) T.g_is_enough T.F_is_enough.kp T.b_is_enough .nil pass0 (pa_cons (pv 5) (pa_cons (pv 9) pa_nil))) (pv 11) (nomark _)) (pw_or1 (PW.pt (pw_and (pt_val (pv 11)) (pw_and1 (PW.pt (pw_or (pt_not (pt_val (pe_call (ok_fits T) (hr.mono (by decide)) (by rfl) T.g_fits T.F_fits.kp T.b_fits .nil pass0 (pa_cons (pv 5) (pa_cons (pv 9) pa_nil))))) (pw_or1 (pt_not (pt_val (pe_call (ok_is_enough T) (hr.mono (by decide)) (by rfl) T.g_is_enough T.F_is_enough.kp T.b_is_enough .nil pass0 (pa_cons (pv 6) (pa_cons (pv 9) pa_nil)))))))))))))) (pss_one (ps_ret pe_bl)) pss_nil)
      (pss_cons (ps_if (PW.pt (pw_or (pt_cmpR op_gt (pe_call (ok_asking_time T) (hr.mono (by decide)) (by rfl) T.g_asking_time T.F_asking_time.kp T.b_asking_time .nil pass0 (pa_cons (pv 6) (pa_cons (pv 9) pa_nil))) (pe_call (ok_asking_time T) (hr.mono (by decide)) (by rfl) T.g_asking_time T.F_asking_time.kp T.b_asking_time .nil pass0 (pa_cons (pv 5) (pa_cons (pv 9) pa_nil))) (nomark _)) (pw_or1 (pt_not (pt_val (pe_call (ok__law_more_right T) (hr.mono (by decide)) (by rfl) T.g__law_more_right T.F__law_more_right.kp T.b__law_more_right .nil pass0 (pa_cons (pv 5) (pa_cons (pv 8) pa_nil)))))))) (pss_one (ps_ret pe_bl)) pss_nil)
      (pss_one (ps_if (pt_cmpR op_gt (pe_call (ok_mending_time T) (hr.mono (by decide)) (by rfl) T.g_mending_time T.F_mending_time.kp T.b_mending_time .nil pass0 (pa_cons (pv 6) (pa_cons (pv 9) pa_nil))) (pe_call (ok_mending_time T) (hr.mono (by decide)) (by rfl) T.g_mending_time T.F_mending_time.kp T.b_mending_time .nil pass0 (pa_cons (pv 5) (pa_cons (pv 9) pa_nil))) (nomark _)) (pss_one (ps_ret pe_bl)) pss_nil))))))))))))))))
      (pss_one (ps_ret pe_bl))), ?_⟩
    have tn := turns (L := (ns.map V.int).length) (m := 4) (by decide)
    refine ⟨_, rfl, al, _, rfl, .inl hS, 4, _, rfl, 1, _, rfl, _, rfl, by omega, by omega, for_range (n := _) (fun _ σ H3 => ∃ y1 y2 y3 y4 y5 y6 y7 y8 y9 y10 y11, σ = [some (.ref al), y1, y2, y3, y4, y5, y6, y7, y8, y9, y10, y11] ∧ SqL K H3 al (ns.map V.int)) ⟨_, _, _, _, _, _, _, _, _, _, _, rfl, hS⟩ (fun i σ H1 hi hW => ?_) (fun σ H1 _ => q _)⟩
    obtain ⟨y1, y2, y3, y4, y5, y6, y7, y8, y9, y10, y11, rfl, hS1⟩ := hW
    rw [Int.zero_add]
    refine ⟨_, rfl, _, rfl, al, ns, i, rfl, hS1, by omega, fun H2 bg sm nb hb => ?_⟩
    -- few, old
    refine ⟨_, rfl, bg, 4, rfl, hb, ⟨by decide, by decide⟩, fun x H3 x0 x1 hb3 k3 => ?_⟩
    refine ⟨_, rfl, bg, 5, rfl, hb3, ⟨by decide, by decide⟩, fun o H4 o0 o1 hb4 k4 => ?_⟩
    obtain ⟨y, ey⟩ : ∃ y : Int, y = 1 + o := ⟨_, rfl⟩
    refine ⟨1, o, rfl, rfl, .int x, .int y, by rw [ey], ?_⟩
    have okB : BdOk x y := ⟨by omega, by omega⟩
    -- held
    refine ⟨_, rfl, _, rfl, rfl, rfl, fun hp hd nh nhd nhe => ⟨hp, hd, x, y, rfl, upd_same, okB, rfl, ?_⟩⟩
    generalize e5 : upd (upd (upd H4 hd (.own hp)) hp (.ins a.C_Bounds hd [])) hp (.ins a.C_Bounds hd (bF x y)) = H5
    have s5 : Same H4 H5 := e5 ▸ same_made nh nhd
    have b5 : BAt a.C_Bounds H5 hp x y := ⟨hd, by rw [← e5]; exact upd_same⟩
    have hb5 : Bag H5 bg := by
      obtain ⟨g, m, e, r⟩ := hb4
      exact ⟨g, m, s5 _ _ e, r⟩
    -- lesser
    refine ⟨_, rfl, _, rfl, x, 1, rfl, rfl, bg, _, rfl, hb5, ⟨by omega, by omega⟩, fun u H6 u0 u1 hb6 k6 => ?_⟩
    refine ⟨_, rfl, _, rfl, bg, y, rfl, hb6, ⟨by omega, by omega⟩, fun v' H7 v0 v1 hb7 k7 => ?_⟩
    obtain ⟨v, ev⟩ : ∃ v : Int, v = 1 + v' := ⟨_, rfl⟩
    refine ⟨1, v', rfl, rfl, rfl, rfl, fun lp ld nlp nld nle => ⟨lp, ld, u, v, by rw [ev]; rfl, upd_same, ⟨by omega, by omega⟩, rfl, ?_⟩⟩
    have okL : BdOk u v := ⟨by omega, by omega⟩
    generalize e8 : upd (upd (upd H7 ld (.own lp)) lp (.ins a.C_Bounds ld [])) lp (.ins a.C_Bounds ld (bF u v)) = H8
    have s8 : Same H7 H8 := e8 ▸ same_made nlp nld
    have l8 : BAt a.C_Bounds H8 lp u v := ⟨ld, by rw [← e8]; exact upd_same⟩
    have hb8 : Bag H8 bg := by
      obtain ⟨g, m, e, r⟩ := hb7
      exact ⟨g, m, s8 _ _ e, r⟩
    have b8 : BAt a.C_Bounds H8 hp x y := (b5.kp (k6.trans k7) hb5).same s8
    have k8 : Kp bg H1 H8 := (Same.kp sm).trans (k3.trans (k4.trans ((Same.kp s5).trans ((k6.trans k7).trans (Same.kp s8)))))
    clear e5 e8
    -- eight turns
    refine ⟨8, rfl, by decide, by decide, for_range (n := 8) (fun _ σ H9 => ∃ y7 y8 y9 y10 y11, σ = [some (.ref al), some (.int (i : Int)), some (.ref bg), some (.int x), some (.int y), some (.ref hp), some (.ref lp), y7, y8, y9, y10, y11] ∧ Kp bg H1 H9 ∧ Bag H9 bg ∧ BAt a.C_Bounds H9 hp x y ∧ BAt a.C_Bounds H9 lp u v) ⟨_, _, _, _, _, rfl, k8, hb8, b8, l8⟩ (fun n σ H9 _ hW => ?_) (fun σ H9 hW => ?_)⟩
    · obtain ⟨z7, z8, z9, z10, z11, rfl, k9, hb9, b9, l9⟩ := hW
      refine ⟨_, rfl, _, rfl, _, rfl, bg, x, y, rfl, hb9, okB, fun l r HA nl nlb hl okr hbA kA => ?_⟩
      have bA := b9.kp kA hb9
      have lA := l9.kp kA hb9
      refine ⟨_, rfl, l, r, rfl, SqL.of hl, okr, fun pm HB sB nm rm => ?_⟩
      refine ⟨_, rfl, _, rfl, l, _, 1, .int r.g, rfl, rfl, SqL.of (sB _ _ hl), rfl, rfl, rfl, hp, x, y, r.g, rfl, bA.same sB, okB, okr.g, fun pl HC sC npl rl => ?_⟩
      have sAC : Same HA HC := sB.trans sC
      have bC := bA.same sAC
      have lC := lA.same sAC
      have rC := rm.same sC
      have hbC : Bag HC bg := by
        obtain ⟨g, m, e, q⟩ := hbA
        exact ⟨g, m, sAC _ _ e, q⟩
      have kC : Kp bg H1 HC := (k9.trans kA).trans (Same.kp sAC)
      have hlC : SqL K HC l (six r) := SqL.of (sAC _ _ hl)
      obtain ⟨dm, em⟩ := id rC
      obtain ⟨dl, el⟩ := id rl
      -- due
      refine ⟨fun σ' H' => σ' = [some (.ref al), some (.int (i : Int)), some (.ref bg), some (.int x), some (.int y), some (.ref hp), some (.ref lp), some (.int (0 + (n : Int))), some (.ref l), some (.ref pm), some (.ref pl), some (.bl (dueB x y r))] ∧ HC = H', ?_, ?_⟩
      · refine ⟨_, rfl, pm, _, dm, _, _, rfl, em, T.cl_Rule, T.n_Rule_probes, rfl, _, rfl, pl, _, dl, _, _, rfl, el, T.cl_Rule, T.n_Rule_probes, rfl, _, _, rfl, rfl, _, rfl, ite2 (fun e => ?_) (fun e => ?_)⟩
        · have e : decide (x + 1 ≤ r.p) = true := e
          refine ⟨_, rfl, pm, _, dm, _, _, rfl, em, T.cl_Rule, T.n_Rule_repeats, rfl, _, rfl, pl, _, dl, _, _, rfl, el, T.cl_Rule, T.n_Rule_repeats, rfl, _, _, rfl, rfl, _, rfl, ite2 (fun e2 => ?_) (fun e2 => ?_)⟩
          · have e2 : decide (x ≤ r.r) = true := e2
            refine ⟨_, rfl, pm, _, dm, _, _, rfl, em, T.cl_Rule, T.n_Rule_wait, rfl, _, rfl, pl, _, dl, _, _, rfl, el, T.cl_Rule, T.n_Rule_wait, rfl, _, _, rfl, rfl, ?_, rfl⟩
            unfold dueB
            rw [e, e2, Bool.true_and, Bool.true_and]
            rfl
          · have e2 : ¬ decide (x ≤ r.r) = true := e2
            refine ⟨?_, rfl⟩
            unfold dueB
            rw [e, Bool.not_eq_true _ |>.mp e2, Bool.true_and, Bool.false_and]
            rfl
        · have e : ¬ decide (x + 1 ≤ r.p) = true := e
          refine ⟨?_, rfl⟩
          unfold dueB
          rw [Bool.not_eq_true _ |>.mp e, Bool.false_and]
          rfl
      · rintro σ' H' ⟨rfl, rfl⟩
        refine ⟨fun σ' H' => σ' = [some (.ref al), some (.int (i : Int)), some (.ref bg), some (.int x), some (.int y), some (.ref hp), some (.ref lp), some (.int (0 + (n : Int))), some (.ref l), some (.ref pm), some (.ref pl), some (.bl (enB x y r))] ∧ HC = H', ?_, ?_⟩
        · refine ⟨_, rfl, _, rfl, ite2 (fun e => ?_) (fun e => ?_)⟩
          · refine ⟨_, rfl, pm, _, dm, _, _, rfl, em, T.cl_Rule, T.n_Rule_life, rfl, _, rfl, _, rfl, hp, pm, x, y, r, rfl, bC, rC, okB, okr, 2, _, rfl, rfl, .inl ⟨by decide, by decide⟩, _, _, rfl, rfl, ?_, rfl⟩
            have z : enB x y r = decide (2 * askT y r.r r.g ≤ r.l) := by
              show (fitsB y r && dueB x y r) = _
              rw [e, Bool.and_true]
              rfl
            rw [z]
            rfl
          · refine ⟨?_, rfl⟩
            have z : enB x y r = false := by
              show (fitsB y r && dueB x y r) = _
              rw [Bool.not_eq_true _ |>.mp e, Bool.and_false]
            rw [z]
            rfl
        · rintro σ' H' ⟨rfl, rfl⟩
          have uv1 : 0 ≤ u ∧ u ≤ x := by omega
          have uv2 : 1 ≤ v ∧ v ≤ y := by omega
          have aq := ask_le (r := r) uv2.2
          have mq := mend_less (r := r) okr.e.1 uv1.2 uv2.2
          -- the first test
          refine ⟨fun σ' H' => σ' = [some (.ref al), some (.int (i : Int)), some (.ref bg), some (.int x), some (.int y), some (.ref hp), some (.ref lp), some (.int (0 + (n : Int))), some (.ref l), some (.ref pm), some (.ref pl), some (.bl (enB x y r))] ∧ HC = H', ?_, ?_⟩
          · refine ⟨_, rfl, _, rfl, hp, pm, x, y, r, rfl, bC, rC, okB, okr, _, rfl, rfl, _, rfl, iteNS rfl ?_⟩
            refine ⟨_, rfl, _, rfl, ite2 (fun e => ?_) (fun e => iteF ⟨rfl, rfl⟩)⟩
            have ef : fitsB y r = true := by
              have z : (fitsB y r && dueB x y r) = true := e
              rw [Bool.and_eq_true] at z
              exact z.1
            refine ⟨_, rfl, _, rfl, hp, pm, x, y, r, rfl, bC, rC, okB, okr, true, congrArg V.bl ef, iteF ?_⟩
            exact ⟨_, rfl, _, rfl, lp, pm, u, v, r, rfl, lC, rC, okL, okr, true, congrArg V.bl (en_less okr.g uv1 uv2 e), iteF ⟨rfl, rfl⟩⟩
          · rintro σ' H' ⟨rfl, rfl⟩
            -- the second
            refine ⟨_, rfl, _, rfl, lp, pm, u, v, r, rfl, lC, rC, okL, okr, _, rfl, _, rfl, hp, pm, x, y, r, rfl, bC, rC, okB, okr, _, _, rfl, rfl, _, rfl, ?_⟩
            rw [decide_eq_false (by omega)]
            refine iteF ?_
            refine ⟨_, rfl, _, rfl, hp, l, x, y, r, rfl, bC, okB, hlC, okr, fun HD sD => ⟨true, rfl, iteF ?_⟩⟩
            -- the third
            refine ⟨_, rfl, _, rfl, lp, pm, u, v, r, rfl, lC.same sD, rC.same sD, okL, okr, _, rfl, _, rfl, hp, pm, x, y, r, rfl, bC.same sD, rC.same sD, okB, okr, _, _, rfl, rfl, _, rfl, ?_⟩
            rw [decide_eq_false (by omega)]
            refine iteF ⟨_, _, _, _, _, rfl, kC.trans (Same.kp sD), ?_, bC.same sD, lC.same sD⟩
            obtain ⟨g, m, e, q⟩ := hbC
            exact ⟨g, m, sD _ _ e, q⟩
    · obtain ⟨z7, z8, z9, z10, z11, rfl, k9, hb9, b9, l9⟩ := hW
      exact ⟨_, _, _, _, _, _, _, _, _, _, _, rfl, k9.sqn nb hS1⟩
end
theorem all_mk {l : PySem.W.OpenLaw} {w : World} {K : PySem.W.Frag} {h : Heap} {mg : Str → Option Value} {fa C_Bounds C_Rule f_is_whole f_is_within f_is_gap f_claiming_ticks f_least_period f_asking_ticks f_check_bounds f_check_rule f_check_both f_claiming_time f_asking_time f_mending_time f_fits f_least_wait f_is_enough f_least_rule f__law_bag f__law_take f__law_is_whole f__law_least f__law_claiming f__law_parts f__law_good_parts f__law_is_rule f__law_made_rule f__law_near_parts f__law_more_right f_law f_Bounds___init__ f_Rule___init__ : Addr} (X : K.In h) (G : h.Ns mainGlobals mg) (hfa : mg "law" = some (.ref fa))
    {od_is_whole an_is_whole od_is_within an_is_within od_is_gap an_is_gap od_claiming_ticks an_claiming_ticks od_least_period an_least_period od_asking_ticks an_asking_ticks od_check_bounds an_check_bounds od_check_rule an_check_rule od_check_both an_check_both od_claiming_time an_claiming_time od_asking_time an_asking_time od_mending_time an_mending_time od_fits an_fits od_least_wait an_least_wait od_is_enough an_is_enough od_least_rule an_least_rule od__law_bag an__law_bag od__law_take an__law_take od__law_is_whole an__law_is_whole od__law_least an__law_least od__law_claiming an__law_claiming od__law_parts an__law_parts od__law_good_parts an__law_good_parts od__law_is_rule an__law_is_rule od__law_made_rule an__law_made_rule od__law_near_parts an__law_near_parts od__law_more_right an__law_more_right od_law an_law od_Bounds___init__ an_Bounds___init__ od_Rule___init__ an_Rule___init__ : Option Addr} {sl_is_whole sl_is_within sl_is_gap sl_claiming_ticks sl_least_period sl_asking_ticks sl_check_bounds sl_check_rule sl_check_both sl_claiming_time sl_asking_time sl_mending_time sl_fits sl_least_wait sl_is_enough sl_least_rule sl__law_bag sl__law_take sl__law_is_whole sl__law_least sl__law_claiming sl__law_parts sl__law_good_parts sl__law_is_rule sl__law_made_rule sl__law_near_parts sl__law_more_right sl_law sl_Bounds___init__ sl_Rule___init__ : Array (Option Value)} {oc_is_whole kV_is_whole dc_is_whole pm_is_whole cd_is_whole ct_is_whole oc_is_within kV_is_within dc_is_within pm_is_within cd_is_within ct_is_within oc_is_gap kV_is_gap dc_is_gap pm_is_gap cd_is_gap ct_is_gap oc_claiming_ticks kV_claiming_ticks dc_claiming_ticks pm_claiming_ticks cd_claiming_ticks ct_claiming_ticks oc_least_period kV_least_period dc_least_period pm_least_period cd_least_period ct_least_period oc_asking_ticks kV_asking_ticks dc_asking_ticks pm_asking_ticks cd_asking_ticks ct_asking_ticks oc_check_bounds kV_check_bounds dc_check_bounds pm_check_bounds cd_check_bounds ct_check_bounds oc_check_rule kV_check_rule dc_check_rule pm_check_rule cd_check_rule ct_check_rule oc_check_both kV_check_both dc_check_both pm_check_both cd_check_both ct_check_both oc_claiming_time kV_claiming_time dc_claiming_time pm_claiming_time cd_claiming_time ct_claiming_time oc_asking_time kV_asking_time dc_asking_time pm_asking_time cd_asking_time ct_asking_time oc_mending_time kV_mending_time dc_mending_time pm_mending_time cd_mending_time ct_mending_time oc_fits kV_fits dc_fits pm_fits cd_fits ct_fits oc_least_wait kV_least_wait dc_least_wait pm_least_wait cd_least_wait ct_least_wait oc_is_enough kV_is_enough dc_is_enough pm_is_enough cd_is_enough ct_is_enough oc_least_rule kV_least_rule dc_least_rule pm_least_rule cd_least_rule ct_least_rule oc__law_bag kV__law_bag dc__law_bag pm__law_bag cd__law_bag ct__law_bag oc__law_take kV__law_take dc__law_take pm__law_take cd__law_take ct__law_take oc__law_is_whole kV__law_is_whole dc__law_is_whole pm__law_is_whole cd__law_is_whole ct__law_is_whole oc__law_least kV__law_least dc__law_least pm__law_least cd__law_least ct__law_least oc__law_claiming kV__law_claiming dc__law_claiming pm__law_claiming cd__law_claiming ct__law_claiming oc__law_parts kV__law_parts dc__law_parts pm__law_parts cd__law_parts ct__law_parts oc__law_good_parts kV__law_good_parts dc__law_good_parts pm__law_good_parts cd__law_good_parts ct__law_good_parts oc__law_is_rule kV__law_is_rule dc__law_is_rule pm__law_is_rule cd__law_is_rule ct__law_is_rule oc__law_made_rule kV__law_made_rule dc__law_made_rule pm__law_made_rule cd__law_made_rule ct__law_made_rule oc__law_near_parts kV__law_near_parts dc__law_near_parts pm__law_near_parts cd__law_near_parts ct__law_near_parts oc__law_more_right kV__law_more_right dc__law_more_right pm__law_more_right cd__law_more_right ct__law_more_right oc_law kV_law dc_law pm_law cd_law ct_law oc_Bounds___init__ kV_Bounds___init__ dc_Bounds___init__ pm_Bounds___init__ cd_Bounds___init__ ct_Bounds___init__ oc_Rule___init__ kV_Rule___init__ dc_Rule___init__ pm_Rule___init__ cd_Rule___init__ ct_Rule___init__ : Value}
    (g_Bounds : PySem.W.nsIn K mainGlobals "Bounds" = some (some (.ref C_Bounds)))
    (pg_Bounds : PySem.W.plainGet K C_Bounds Str.empty = true)
    (hd_Bounds : PySem.W.hasDictIn K C_Bounds = true)
    (po_Bounds : PySem.W.plainOver K C_Bounds = true)
    (sa_Bounds : PySem.W.findIn K (.ref C_Bounds) "__setattr__" = some (some (.builtin "object.__setattr__")))
    (mi_Bounds : PySem.W.makesIn K C_Bounds = true)
    (kc_Bounds : PySem.W.keepIn K (.ref C_Bounds) = true)
    (n_Bounds_lost : PySem.W.findIn K (.ref C_Bounds) "lost" = some none)
    (n_Bounds_late : PySem.W.findIn K (.ref C_Bounds) "late" = some none)
    (ia_Bounds : PySem.W.findIn K (.ref C_Bounds) "__class__" = some (some (.builtin "object.__class__")))
    (ib_Bounds : PySem.W.specialIn K (.builtin "object.__class__") "__get__" = some (some (.builtin "getset_descriptor.__get__")))
    (ic_Bounds : PySem.W.takesIn K (.builtin "object.__class__") = some true)
    (id_Bounds : PySem.W.mroIn K C_Bounds (.type "object") = some true)
    (g_Rule : PySem.W.nsIn K mainGlobals "Rule" = some (some (.ref C_Rule)))
    (pg_Rule : PySem.W.plainGet K C_Rule Str.empty = true)
    (hd_Rule : PySem.W.hasDictIn K C_Rule = true)
    (po_Rule : PySem.W.plainOver K C_Rule = true)
    (sa_Rule : PySem.W.findIn K (.ref C_Rule) "__setattr__" = some (some (.builtin "object.__setattr__")))
    (mi_Rule : PySem.W.makesIn K C_Rule = true)
    (kc_Rule : PySem.W.keepIn K (.ref C_Rule) = true)
    (n_Rule_probes : PySem.W.findIn K (.ref C_Rule) "probes" = some none)
    (n_Rule_gap : PySem.W.findIn K (.ref C_Rule) "gap" = some none)
    (n_Rule_wait : PySem.W.findIn K (.ref C_Rule) "wait" = some none)
    (n_Rule_repeats : PySem.W.findIn K (.ref C_Rule) "repeats" = some none)
    (n_Rule_period : PySem.W.findIn K (.ref C_Rule) "period" = some none)
    (n_Rule_life : PySem.W.findIn K (.ref C_Rule) "life" = some none)
    (ia_Rule : PySem.W.findIn K (.ref C_Rule) "__class__" = some (some (.builtin "object.__class__")))
    (ib_Rule : PySem.W.specialIn K (.builtin "object.__class__") "__get__" = some (some (.builtin "getset_descriptor.__get__")))
    (ic_Rule : PySem.W.takesIn K (.builtin "object.__class__") = some true)
    (id_Rule : PySem.W.mroIn K C_Rule (.type "object") = some true)
    (a_is_whole : PySem.W.nsIn K mainGlobals "is_whole" = some (some (.ref f_is_whole)))
    (l_is_whole : K.lookup f_is_whole = some ⟨oc_is_whole, od_is_whole, .func (PySem.W.fnOf "is_whole" "is_whole" (defArgs sWhole) (defBody sWhole) (defScope sWhole) .none kV_is_whole dc_is_whole pm_is_whole an_is_whole cd_is_whole ct_is_whole), sl_is_whole⟩)
    (c_is_whole : PySem.W.codeIn K cd_is_whole "is_whole" = true)
    (k_is_whole : PySem.W.keepIn K (.ref f_is_whole) = true)
    (a_is_within : PySem.W.nsIn K mainGlobals "is_within" = some (some (.ref f_is_within)))
    (l_is_within : K.lookup f_is_within = some ⟨oc_is_within, od_is_within, .func (PySem.W.fnOf "is_within" "is_within" (defArgs sWithin) (defBody sWithin) (defScope sWithin) .none kV_is_within dc_is_within pm_is_within an_is_within cd_is_within ct_is_within), sl_is_within⟩)
    (c_is_within : PySem.W.codeIn K cd_is_within "is_within" = true)
    (k_is_within : PySem.W.keepIn K (.ref f_is_within) = true)
    (a_is_gap : PySem.W.nsIn K mainGlobals "is_gap" = some (some (.ref f_is_gap)))
    (l_is_gap : K.lookup f_is_gap = some ⟨oc_is_gap, od_is_gap, .func (PySem.W.fnOf "is_gap" "is_gap" (defArgs sGap) (defBody sGap) (defScope sGap) .none kV_is_gap dc_is_gap pm_is_gap an_is_gap cd_is_gap ct_is_gap), sl_is_gap⟩)
    (c_is_gap : PySem.W.codeIn K cd_is_gap "is_gap" = true)
    (k_is_gap : PySem.W.keepIn K (.ref f_is_gap) = true)
    (a_claiming_ticks : PySem.W.nsIn K mainGlobals "claiming_ticks" = some (some (.ref f_claiming_ticks)))
    (l_claiming_ticks : K.lookup f_claiming_ticks = some ⟨oc_claiming_ticks, od_claiming_ticks, .func (PySem.W.fnOf "claiming_ticks" "claiming_ticks" (defArgs sClaim) (defBody sClaim) (defScope sClaim) .none kV_claiming_ticks dc_claiming_ticks pm_claiming_ticks an_claiming_ticks cd_claiming_ticks ct_claiming_ticks), sl_claiming_ticks⟩)
    (c_claiming_ticks : PySem.W.codeIn K cd_claiming_ticks "claiming_ticks" = true)
    (k_claiming_ticks : PySem.W.keepIn K (.ref f_claiming_ticks) = true)
    (a_least_period : PySem.W.nsIn K mainGlobals "least_period" = some (some (.ref f_least_period)))
    (l_least_period : K.lookup f_least_period = some ⟨oc_least_period, od_least_period, .func (PySem.W.fnOf "least_period" "least_period" (defArgs sPeriod) (defBody sPeriod) (defScope sPeriod) .none kV_least_period dc_least_period pm_least_period an_least_period cd_least_period ct_least_period), sl_least_period⟩)
    (c_least_period : PySem.W.codeIn K cd_least_period "least_period" = true)
    (k_least_period : PySem.W.keepIn K (.ref f_least_period) = true)
    (a_asking_ticks : PySem.W.nsIn K mainGlobals "asking_ticks" = some (some (.ref f_asking_ticks)))
    (l_asking_ticks : K.lookup f_asking_ticks = some ⟨oc_asking_ticks, od_asking_ticks, .func (PySem.W.fnOf "asking_ticks" "asking_ticks" (defArgs sAsk) (defBody sAsk) (defScope sAsk) .none kV_asking_ticks dc_asking_ticks pm_asking_ticks an_asking_ticks cd_asking_ticks ct_asking_ticks), sl_asking_ticks⟩)
    (c_asking_ticks : PySem.W.codeIn K cd_asking_ticks "asking_ticks" = true)
    (k_asking_ticks : PySem.W.keepIn K (.ref f_asking_ticks) = true)
    (a_check_bounds : PySem.W.nsIn K mainGlobals "check_bounds" = some (some (.ref f_check_bounds)))
    (l_check_bounds : K.lookup f_check_bounds = some ⟨oc_check_bounds, od_check_bounds, .func (PySem.W.fnOf "check_bounds" "check_bounds" (defArgs sChB) (defBody sChB) (defScope sChB) .none kV_check_bounds dc_check_bounds pm_check_bounds an_check_bounds cd_check_bounds ct_check_bounds), sl_check_bounds⟩)
    (c_check_bounds : PySem.W.codeIn K cd_check_bounds "check_bounds" = true)
    (k_check_bounds : PySem.W.keepIn K (.ref f_check_bounds) = true)
    (a_check_rule : PySem.W.nsIn K mainGlobals "check_rule" = some (some (.ref f_check_rule)))
    (l_check_rule : K.lookup f_check_rule = some ⟨oc_check_rule, od_check_rule, .func (PySem.W.fnOf "check_rule" "check_rule" (defArgs sChR) (defBody sChR) (defScope sChR) .none kV_check_rule dc_check_rule pm_check_rule an_check_rule cd_check_rule ct_check_rule), sl_check_rule⟩)
    (c_check_rule : PySem.W.codeIn K cd_check_rule "check_rule" = true)
    (k_check_rule : PySem.W.keepIn K (.ref f_check_rule) = true)
    (a_check_both : PySem.W.nsIn K mainGlobals "check_both" = some (some (.ref f_check_both)))
    (l_check_both : K.lookup f_check_both = some ⟨oc_check_both, od_check_both, .func (PySem.W.fnOf "check_both" "check_both" (defArgs sCh2) (defBody sCh2) (defScope sCh2) .none kV_check_both dc_check_both pm_check_both an_check_both cd_check_both ct_check_both), sl_check_both⟩)
    (c_check_both : PySem.W.codeIn K cd_check_both "check_both" = true)
    (k_check_both : PySem.W.keepIn K (.ref f_check_both) = true)
    (a_claiming_time : PySem.W.nsIn K mainGlobals "claiming_time" = some (some (.ref f_claiming_time)))
    (l_claiming_time : K.lookup f_claiming_time = some ⟨oc_claiming_time, od_claiming_time, .func (PySem.W.fnOf "claiming_time" "claiming_time" (defArgs sCt) (defBody sCt) (defScope sCt) .none kV_claiming_time dc_claiming_time pm_claiming_time an_claiming_time cd_claiming_time ct_claiming_time), sl_claiming_time⟩)
    (c_claiming_time : PySem.W.codeIn K cd_claiming_time "claiming_time" = true)
    (k_claiming_time : PySem.W.keepIn K (.ref f_claiming_time) = true)
    (a_asking_time : PySem.W.nsIn K mainGlobals "asking_time" = some (some (.ref f_asking_time)))
    (l_asking_time : K.lookup f_asking_time = some ⟨oc_asking_time, od_asking_time, .func (PySem.W.fnOf "asking_time" "asking_time" (defArgs sAt) (defBody sAt) (defScope sAt) .none kV_asking_time dc_asking_time pm_asking_time an_asking_time cd_asking_time ct_asking_time), sl_asking_time⟩)
    (c_asking_time : PySem.W.codeIn K cd_asking_time "asking_time" = true)
    (k_asking_time : PySem.W.keepIn K (.ref f_asking_time) = true)
    (a_mending_time : PySem.W.nsIn K mainGlobals "mending_time" = some (some (.ref f_mending_time)))
    (l_mending_time : K.lookup f_mending_time = some ⟨oc_mending_time, od_mending_time, .func (PySem.W.fnOf "mending_time" "mending_time" (defArgs sMt) (defBody sMt) (defScope sMt) .none kV_mending_time dc_mending_time pm_mending_time an_mending_time cd_mending_time ct_mending_time), sl_mending_time⟩)
    (c_mending_time : PySem.W.codeIn K cd_mending_time "mending_time" = true)
    (k_mending_time : PySem.W.keepIn K (.ref f_mending_time) = true)
    (a_fits : PySem.W.nsIn K mainGlobals "fits" = some (some (.ref f_fits)))
    (l_fits : K.lookup f_fits = some ⟨oc_fits, od_fits, .func (PySem.W.fnOf "fits" "fits" (defArgs sFits) (defBody sFits) (defScope sFits) .none kV_fits dc_fits pm_fits an_fits cd_fits ct_fits), sl_fits⟩)
    (c_fits : PySem.W.codeIn K cd_fits "fits" = true)
    (k_fits : PySem.W.keepIn K (.ref f_fits) = true)
    (a_least_wait : PySem.W.nsIn K mainGlobals "least_wait" = some (some (.ref f_least_wait)))
    (l_least_wait : K.lookup f_least_wait = some ⟨oc_least_wait, od_least_wait, .func (PySem.W.fnOf "least_wait" "least_wait" (defArgs sLw) (defBody sLw) (defScope sLw) .none kV_least_wait dc_least_wait pm_least_wait an_least_wait cd_least_wait ct_least_wait), sl_least_wait⟩)
    (c_least_wait : PySem.W.codeIn K cd_least_wait "least_wait" = true)
    (k_least_wait : PySem.W.keepIn K (.ref f_least_wait) = true)
    (a_is_enough : PySem.W.nsIn K mainGlobals "is_enough" = some (some (.ref f_is_enough)))
    (l_is_enough : K.lookup f_is_enough = some ⟨oc_is_enough, od_is_enough, .func (PySem.W.fnOf "is_enough" "is_enough" (defArgs sEn) (defBody sEn) (defScope sEn) .none kV_is_enough dc_is_enough pm_is_enough an_is_enough cd_is_enough ct_is_enough), sl_is_enough⟩)
    (c_is_enough : PySem.W.codeIn K cd_is_enough "is_enough" = true)
    (k_is_enough : PySem.W.keepIn K (.ref f_is_enough) = true)
    (a_least_rule : PySem.W.nsIn K mainGlobals "least_rule" = some (some (.ref f_least_rule)))
    (l_least_rule : K.lookup f_least_rule = some ⟨oc_least_rule, od_least_rule, .func (PySem.W.fnOf "least_rule" "least_rule" (defArgs sLr) (defBody sLr) (defScope sLr) .none kV_least_rule dc_least_rule pm_least_rule an_least_rule cd_least_rule ct_least_rule), sl_least_rule⟩)
    (c_least_rule : PySem.W.codeIn K cd_least_rule "least_rule" = true)
    (k_least_rule : PySem.W.keepIn K (.ref f_least_rule) = true)
    (a__law_bag : PySem.W.nsIn K mainGlobals "_law_bag" = some (some (.ref f__law_bag)))
    (l__law_bag : K.lookup f__law_bag = some ⟨oc__law_bag, od__law_bag, .func (PySem.W.fnOf "_law_bag" "_law_bag" (defArgs sBag) (defBody sBag) (defScope sBag) .none kV__law_bag dc__law_bag pm__law_bag an__law_bag cd__law_bag ct__law_bag), sl__law_bag⟩)
    (c__law_bag : PySem.W.codeIn K cd__law_bag "_law_bag" = true)
    (k__law_bag : PySem.W.keepIn K (.ref f__law_bag) = true)
    (a__law_take : PySem.W.nsIn K mainGlobals "_law_take" = some (some (.ref f__law_take)))
    (l__law_take : K.lookup f__law_take = some ⟨oc__law_take, od__law_take, .func (PySem.W.fnOf "_law_take" "_law_take" (defArgs sTake) (defBody sTake) (defScope sTake) .none kV__law_take dc__law_take pm__law_take an__law_take cd__law_take ct__law_take), sl__law_take⟩)
    (c__law_take : PySem.W.codeIn K cd__law_take "_law_take" = true)
    (k__law_take : PySem.W.keepIn K (.ref f__law_take) = true)
    (a__law_is_whole : PySem.W.nsIn K mainGlobals "_law_is_whole" = some (some (.ref f__law_is_whole)))
    (l__law_is_whole : K.lookup f__law_is_whole = some ⟨oc__law_is_whole, od__law_is_whole, .func (PySem.W.fnOf "_law_is_whole" "_law_is_whole" (defArgs sLWhole) (defBody sLWhole) (defScope sLWhole) .none kV__law_is_whole dc__law_is_whole pm__law_is_whole an__law_is_whole cd__law_is_whole ct__law_is_whole), sl__law_is_whole⟩)
    (c__law_is_whole : PySem.W.codeIn K cd__law_is_whole "_law_is_whole" = true)
    (k__law_is_whole : PySem.W.keepIn K (.ref f__law_is_whole) = true)
    (a__law_least : PySem.W.nsIn K mainGlobals "_law_least" = some (some (.ref f__law_least)))
    (l__law_least : K.lookup f__law_least = some ⟨oc__law_least, od__law_least, .func (PySem.W.fnOf "_law_least" "_law_least" (defArgs sLeast) (defBody sLeast) (defScope sLeast) .none kV__law_least dc__law_least pm__law_least an__law_least cd__law_least ct__law_least), sl__law_least⟩)
    (c__law_least : PySem.W.codeIn K cd__law_least "_law_least" = true)
    (k__law_least : PySem.W.keepIn K (.ref f__law_least) = true)
    (a__law_claiming : PySem.W.nsIn K mainGlobals "_law_claiming" = some (some (.ref f__law_claiming)))
    (l__law_claiming : K.lookup f__law_claiming = some ⟨oc__law_claiming, od__law_claiming, .func (PySem.W.fnOf "_law_claiming" "_law_claiming" (defArgs sLClaim) (defBody sLClaim) (defScope sLClaim) .none kV__law_claiming dc__law_claiming pm__law_claiming an__law_claiming cd__law_claiming ct__law_claiming), sl__law_claiming⟩)
    (c__law_claiming : PySem.W.codeIn K cd__law_claiming "_law_claiming" = true)
    (k__law_claiming : PySem.W.keepIn K (.ref f__law_claiming) = true)
    (a__law_parts : PySem.W.nsIn K mainGlobals "_law_parts" = some (some (.ref f__law_parts)))
    (l__law_parts : K.lookup f__law_parts = some ⟨oc__law_parts, od__law_parts, .func (PySem.W.fnOf "_law_parts" "_law_parts" (defArgs sParts) (defBody sParts) (defScope sParts) .none kV__law_parts dc__law_parts pm__law_parts an__law_parts cd__law_parts ct__law_parts), sl__law_parts⟩)
    (c__law_parts : PySem.W.codeIn K cd__law_parts "_law_parts" = true)
    (k__law_parts : PySem.W.keepIn K (.ref f__law_parts) = true)
    (a__law_good_parts : PySem.W.nsIn K mainGlobals "_law_good_parts" = some (some (.ref f__law_good_parts)))
    (l__law_good_parts : K.lookup f__law_good_parts = some ⟨oc__law_good_parts, od__law_good_parts, .func (PySem.W.fnOf "_law_good_parts" "_law_good_parts" (defArgs sGoodP) (defBody sGoodP) (defScope sGoodP) .none kV__law_good_parts dc__law_good_parts pm__law_good_parts an__law_good_parts cd__law_good_parts ct__law_good_parts), sl__law_good_parts⟩)
    (c__law_good_parts : PySem.W.codeIn K cd__law_good_parts "_law_good_parts" = true)
    (k__law_good_parts : PySem.W.keepIn K (.ref f__law_good_parts) = true)
    (a__law_is_rule : PySem.W.nsIn K mainGlobals "_law_is_rule" = some (some (.ref f__law_is_rule)))
    (l__law_is_rule : K.lookup f__law_is_rule = some ⟨oc__law_is_rule, od__law_is_rule, .func (PySem.W.fnOf "_law_is_rule" "_law_is_rule" (defArgs sIsR) (defBody sIsR) (defScope sIsR) .none kV__law_is_rule dc__law_is_rule pm__law_is_rule an__law_is_rule cd__law_is_rule ct__law_is_rule), sl__law_is_rule⟩)
    (c__law_is_rule : PySem.W.codeIn K cd__law_is_rule "_law_is_rule" = true)
    (k__law_is_rule : PySem.W.keepIn K (.ref f__law_is_rule) = true)
    (a__law_made_rule : PySem.W.nsIn K mainGlobals "_law_made_rule" = some (some (.ref f__law_made_rule)))
    (l__law_made_rule : K.lookup f__law_made_rule = some ⟨oc__law_made_rule, od__law_made_rule, .func (PySem.W.fnOf "_law_made_rule" "_law_made_rule" (defArgs sMade) (defBody sMade) (defScope sMade) .none kV__law_made_rule dc__law_made_rule pm__law_made_rule an__law_made_rule cd__law_made_rule ct__law_made_rule), sl__law_made_rule⟩)
    (c__law_made_rule : PySem.W.codeIn K cd__law_made_rule "_law_made_rule" = true)
    (k__law_made_rule : PySem.W.keepIn K (.ref f__law_made_rule) = true)
    (a__law_near_parts : PySem.W.nsIn K mainGlobals "_law_near_parts" = some (some (.ref f__law_near_parts)))
    (l__law_near_parts : K.lookup f__law_near_parts = some ⟨oc__law_near_parts, od__law_near_parts, .func (PySem.W.fnOf "_law_near_parts" "_law_near_parts" (defArgs sNear) (defBody sNear) (defScope sNear) .none kV__law_near_parts dc__law_near_parts pm__law_near_parts an__law_near_parts cd__law_near_parts ct__law_near_parts), sl__law_near_parts⟩)
    (c__law_near_parts : PySem.W.codeIn K cd__law_near_parts "_law_near_parts" = true)
    (k__law_near_parts : PySem.W.keepIn K (.ref f__law_near_parts) = true)
    (a__law_more_right : PySem.W.nsIn K mainGlobals "_law_more_right" = some (some (.ref f__law_more_right)))
    (l__law_more_right : K.lookup f__law_more_right = some ⟨oc__law_more_right, od__law_more_right, .func (PySem.W.fnOf "_law_more_right" "_law_more_right" (defArgs sMore) (defBody sMore) (defScope sMore) .none kV__law_more_right dc__law_more_right pm__law_more_right an__law_more_right cd__law_more_right ct__law_more_right), sl__law_more_right⟩)
    (c__law_more_right : PySem.W.codeIn K cd__law_more_right "_law_more_right" = true)
    (k__law_more_right : PySem.W.keepIn K (.ref f__law_more_right) = true)
    (a_law : PySem.W.nsIn K mainGlobals "law" = some (some (.ref f_law)))
    (l_law : K.lookup f_law = some ⟨oc_law, od_law, .func (PySem.W.fnOf "law" "law" (defArgs sLaw) (defBody sLaw) (defScope sLaw) .none kV_law dc_law pm_law an_law cd_law ct_law), sl_law⟩)
    (c_law : PySem.W.codeIn K cd_law "law" = true)
    (k_law : PySem.W.keepIn K (.ref f_law) = true)
    (a_Bounds___init__ : PySem.W.findIn K (.ref C_Bounds) "__init__" = some (some (.ref f_Bounds___init__)))
    (i_Bounds___init__ : PySem.W.isFn K (.ref f_Bounds___init__) = true)
    (l_Bounds___init__ : K.lookup f_Bounds___init__ = some ⟨oc_Bounds___init__, od_Bounds___init__, .func (PySem.W.fnOf "__init__" "Bounds.__init__" (defArgs sBInit) (defBody sBInit) (defScope sBInit) .none kV_Bounds___init__ dc_Bounds___init__ pm_Bounds___init__ an_Bounds___init__ cd_Bounds___init__ ct_Bounds___init__), sl_Bounds___init__⟩)
    (c_Bounds___init__ : PySem.W.codeIn K cd_Bounds___init__ "Bounds.__init__" = true)
    (k_Bounds___init__ : PySem.W.keepIn K (.ref f_Bounds___init__) = true)
    (a_Rule___init__ : PySem.W.findIn K (.ref C_Rule) "__init__" = some (some (.ref f_Rule___init__)))
    (i_Rule___init__ : PySem.W.isFn K (.ref f_Rule___init__) = true)
    (l_Rule___init__ : K.lookup f_Rule___init__ = some ⟨oc_Rule___init__, od_Rule___init__, .func (PySem.W.fnOf "__init__" "Rule.__init__" (defArgs sRInit) (defBody sRInit) (defScope sRInit) .none kV_Rule___init__ dc_Rule___init__ pm_Rule___init__ an_Rule___init__ cd_Rule___init__ ct_Rule___init__), sl_Rule___init__⟩)
    (c_Rule___init__ : PySem.W.codeIn K cd_Rule___init__ "Rule.__init__" = true)
    (k_Rule___init__ : PySem.W.keepIn K (.ref f_Rule___init__) = true)
    (z_len : PySem.W.nsIn K mainGlobals "len" = some none)
    (z_abs : PySem.W.nsIn K mainGlobals "abs" = some none)
    (z_range : PySem.W.nsIn K mainGlobals "range" = some none)
    (z_max : PySem.W.nsIn K mainGlobals "max" = some none)
    (z_min : PySem.W.nsIn K mainGlobals "min" = some none)
    (z_isinstance : PySem.W.nsIn K mainGlobals "isinstance" = some none)
    (z_bool : PySem.W.nsIn K mainGlobals "bool" = some none)
    (z_int : PySem.W.nsIn K mainGlobals "int" = some none)
    (z_all : PySem.W.nsIn K mainGlobals "all" = some none)
    (z_zip : PySem.W.nsIn K mainGlobals "zip" = some none)
    (z_list : PySem.W.nsIn K mainGlobals "list" = some none) :
    ∃ fd : FuncData, (∀ (s : Shared) (v : Value), BindsTo s fd ⟨[v], []⟩ [("_law_script", v)]) ∧ ∀ base : Heap, K.In base → base.Ns mainGlobals mg → FnG l.prog w K mg base CX0 8 fa fd ["_law_script"] (spLaw K) := by
  have e := hfa.symm.trans (PySem.W.mg_of X G a_law)
  cases e
  let a : Adr := { f_is_whole := f_is_whole, d_is_whole := (PySem.W.fnOf "is_whole" "is_whole" (defArgs sWhole) (defBody sWhole) (defScope sWhole) .none kV_is_whole dc_is_whole pm_is_whole an_is_whole cd_is_whole ct_is_whole), f_is_within := f_is_within, d_is_within := (PySem.W.fnOf "is_within" "is_within" (defArgs sWithin) (defBody sWithin) (defScope sWithin) .none kV_is_within dc_is_within pm_is_within an_is_within cd_is_within ct_is_within), f_is_gap := f_is_gap, d_is_gap := (PySem.W.fnOf "is_gap" "is_gap" (defArgs sGap) (defBody sGap) (defScope sGap) .none kV_is_gap dc_is_gap pm_is_gap an_is_gap cd_is_gap ct_is_gap), f_claiming_ticks := f_claiming_ticks, d_claiming_ticks := (PySem.W.fnOf "claiming_ticks" "claiming_ticks" (defArgs sClaim) (defBody sClaim) (defScope sClaim) .none kV_claiming_ticks dc_claiming_ticks pm_claiming_ticks an_claiming_ticks cd_claiming_ticks ct_claiming_ticks), f_least_period := f_least_period, d_least_period := (PySem.W.fnOf "least_period" "least_period" (defArgs sPeriod) (defBody sPeriod) (defScope sPeriod) .none kV_least_period dc_least_period pm_least_period an_least_period cd_least_period ct_least_period), f_asking_ticks := f_asking_ticks, d_asking_ticks := (PySem.W.fnOf "asking_ticks" "asking_ticks" (defArgs sAsk) (defBody sAsk) (defScope sAsk) .none kV_asking_ticks dc_asking_ticks pm_asking_ticks an_asking_ticks cd_asking_ticks ct_asking_ticks), f_check_bounds := f_check_bounds, d_check_bounds := (PySem.W.fnOf "check_bounds" "check_bounds" (defArgs sChB) (defBody sChB) (defScope sChB) .none kV_check_bounds dc_check_bounds pm_check_bounds an_check_bounds cd_check_bounds ct_check_bounds), f_check_rule := f_check_rule, d_check_rule := (PySem.W.fnOf "check_rule" "check_rule" (defArgs sChR) (defBody sChR) (defScope sChR) .none kV_check_rule dc_check_rule pm_check_rule an_check_rule cd_check_rule ct_check_rule), f_check_both := f_check_both, d_check_both := (PySem.W.fnOf "check_both" "check_both" (defArgs sCh2) (defBody sCh2) (defScope sCh2) .none kV_check_both dc_check_both pm_check_both an_check_both cd_check_both ct_check_both), f_claiming_time := f_claiming_time, d_claiming_time := (PySem.W.fnOf "claiming_time" "claiming_time" (defArgs sCt) (defBody sCt) (defScope sCt) .none kV_claiming_time dc_claiming_time pm_claiming_time an_claiming_time cd_claiming_time ct_claiming_time), f_asking_time := f_asking_time, d_asking_time := (PySem.W.fnOf "asking_time" "asking_time" (defArgs sAt) (defBody sAt) (defScope sAt) .none kV_asking_time dc_asking_time pm_asking_time an_asking_time cd_asking_time ct_asking_time), f_mending_time := f_mending_time, d_mending_time := (PySem.W.fnOf "mending_time" "mending_time" (defArgs sMt) (defBody sMt) (defScope sMt) .none kV_mending_time dc_mending_time pm_mending_time an_mending_time cd_mending_time ct_mending_time), f_fits := f_fits, d_fits := (PySem.W.fnOf "fits" "fits" (defArgs sFits) (defBody sFits) (defScope sFits) .none kV_fits dc_fits pm_fits an_fits cd_fits ct_fits), f_least_wait := f_least_wait, d_least_wait := (PySem.W.fnOf "least_wait" "least_wait" (defArgs sLw) (defBody sLw) (defScope sLw) .none kV_least_wait dc_least_wait pm_least_wait an_least_wait cd_least_wait ct_least_wait), f_is_enough := f_is_enough, d_is_enough := (PySem.W.fnOf "is_enough" "is_enough" (defArgs sEn) (defBody sEn) (defScope sEn) .none kV_is_enough dc_is_enough pm_is_enough an_is_enough cd_is_enough ct_is_enough), f_least_rule := f_least_rule, d_least_rule := (PySem.W.fnOf "least_rule" "least_rule" (defArgs sLr) (defBody sLr) (defScope sLr) .none kV_least_rule dc_least_rule pm_least_rule an_least_rule cd_least_rule ct_least_rule), f__law_bag := f__law_bag, d__law_bag := (PySem.W.fnOf "_law_bag" "_law_bag" (defArgs sBag) (defBody sBag) (defScope sBag) .none kV__law_bag dc__law_bag pm__law_bag an__law_bag cd__law_bag ct__law_bag), f__law_take := f__law_take, d__law_take := (PySem.W.fnOf "_law_take" "_law_take" (defArgs sTake) (defBody sTake) (defScope sTake) .none kV__law_take dc__law_take pm__law_take an__law_take cd__law_take ct__law_take), f__law_is_whole := f__law_is_whole, d__law_is_whole := (PySem.W.fnOf "_law_is_whole" "_law_is_whole" (defArgs sLWhole) (defBody sLWhole) (defScope sLWhole) .none kV__law_is_whole dc__law_is_whole pm__law_is_whole an__law_is_whole cd__law_is_whole ct__law_is_whole), f__law_least := f__law_least, d__law_least := (PySem.W.fnOf "_law_least" "_law_least" (defArgs sLeast) (defBody sLeast) (defScope sLeast) .none kV__law_least dc__law_least pm__law_least an__law_least cd__law_least ct__law_least), f__law_claiming := f__law_claiming, d__law_claiming := (PySem.W.fnOf "_law_claiming" "_law_claiming" (defArgs sLClaim) (defBody sLClaim) (defScope sLClaim) .none kV__law_claiming dc__law_claiming pm__law_claiming an__law_claiming cd__law_claiming ct__law_claiming), f__law_parts := f__law_parts, d__law_parts := (PySem.W.fnOf "_law_parts" "_law_parts" (defArgs sParts) (defBody sParts) (defScope sParts) .none kV__law_parts dc__law_parts pm__law_parts an__law_parts cd__law_parts ct__law_parts), f__law_good_parts := f__law_good_parts, d__law_good_parts := (PySem.W.fnOf "_law_good_parts" "_law_good_parts" (defArgs sGoodP) (defBody sGoodP) (defScope sGoodP) .none kV__law_good_parts dc__law_good_parts pm__law_good_parts an__law_good_parts cd__law_good_parts ct__law_good_parts), f__law_is_rule := f__law_is_rule, d__law_is_rule := (PySem.W.fnOf "_law_is_rule" "_law_is_rule" (defArgs sIsR) (defBody sIsR) (defScope sIsR) .none kV__law_is_rule dc__law_is_rule pm__law_is_rule an__law_is_rule cd__law_is_rule ct__law_is_rule), f__law_made_rule := f__law_made_rule, d__law_made_rule := (PySem.W.fnOf "_law_made_rule" "_law_made_rule" (defArgs sMade) (defBody sMade) (defScope sMade) .none kV__law_made_rule dc__law_made_rule pm__law_made_rule an__law_made_rule cd__law_made_rule ct__law_made_rule), f__law_near_parts := f__law_near_parts, d__law_near_parts := (PySem.W.fnOf "_law_near_parts" "_law_near_parts" (defArgs sNear) (defBody sNear) (defScope sNear) .none kV__law_near_parts dc__law_near_parts pm__law_near_parts an__law_near_parts cd__law_near_parts ct__law_near_parts), f__law_more_right := f__law_more_right, d__law_more_right := (PySem.W.fnOf "_law_more_right" "_law_more_right" (defArgs sMore) (defBody sMore) (defScope sMore) .none kV__law_more_right dc__law_more_right pm__law_more_right an__law_more_right cd__law_more_right ct__law_more_right), f_law := fa, d_law := (PySem.W.fnOf "law" "law" (defArgs sLaw) (defBody sLaw) (defScope sLaw) .none kV_law dc_law pm_law an_law cd_law ct_law), C_Bounds := C_Bounds, f_Bounds___init__ := f_Bounds___init__, d_Bounds___init__ := (PySem.W.fnOf "__init__" "Bounds.__init__" (defArgs sBInit) (defBody sBInit) (defScope sBInit) .none kV_Bounds___init__ dc_Bounds___init__ pm_Bounds___init__ an_Bounds___init__ cd_Bounds___init__ ct_Bounds___init__), C_Rule := C_Rule, f_Rule___init__ := f_Rule___init__, d_Rule___init__ := (PySem.W.fnOf "__init__" "Rule.__init__" (defArgs sRInit) (defBody sRInit) (defScope sRInit) .none kV_Rule___init__ dc_Rule___init__ pm_Rule___init__ an_Rule___init__ cd_Rule___init__ ct_Rule___init__) }
  have T : Tx K mg a :=
    { F_is_whole := fun_mk (st := sWhole) l_is_whole c_is_whole k_is_whole
      g_is_whole := PySem.W.mg_of X G a_is_whole
      b_is_whole := (fun_mk (st := sWhole) l_is_whole c_is_whole k_is_whole).binds (ps := ["thing"]) fun _ _ _ _ _ _ us hl => match us, hl with | [_], _ => rfl
      F_is_within := fun_mk (st := sWithin) l_is_within c_is_within k_is_within
      g_is_within := PySem.W.mg_of X G a_is_within
      b_is_within := (fun_mk (st := sWithin) l_is_within c_is_within k_is_within).binds (ps := ["thing", "low", "high"]) fun _ _ _ _ _ _ us hl => match us, hl with | [_, _, _], _ => rfl
      F_is_gap := fun_mk (st := sGap) l_is_gap c_is_gap k_is_gap
      g_is_gap := PySem.W.mg_of X G a_is_gap
      b_is_gap := (fun_mk (st := sGap) l_is_gap c_is_gap k_is_gap).binds (ps := ["thing"]) fun _ _ _ _ _ _ us hl => match us, hl with | [_], _ => rfl
      F_claiming_ticks := fun_mk (st := sClaim) l_claiming_ticks c_claiming_ticks k_claiming_ticks
      g_claiming_ticks := PySem.W.mg_of X G a_claiming_ticks
      b_claiming_ticks := (fun_mk (st := sClaim) l_claiming_ticks c_claiming_ticks k_claiming_ticks).binds (ps := ["probes", "gap", "wait"]) fun _ _ _ _ _ _ us hl => match us, hl with | [_, _, _], _ => rfl
      F_least_period := fun_mk (st := sPeriod) l_least_period c_least_period k_least_period
      g_least_period := PySem.W.mg_of X G a_least_period
      b_least_period := (fun_mk (st := sPeriod) l_least_period c_least_period k_least_period).binds (ps := ["probes", "gap", "wait"]) fun _ _ _ _ _ _ us hl => match us, hl with | [_, _, _], _ => rfl
      F_asking_ticks := fun_mk (st := sAsk) l_asking_ticks c_asking_ticks k_asking_ticks
      g_asking_ticks := PySem.W.mg_of X G a_asking_ticks
      b_asking_ticks := (fun_mk (st := sAsk) l_asking_ticks c_asking_ticks k_asking_ticks).binds (ps := ["late", "repeats", "gap"]) fun _ _ _ _ _ _ us hl => match us, hl with | [_, _, _], _ => rfl
      F_check_bounds := fun_mk (st := sChB) l_check_bounds c_check_bounds k_check_bounds
      g_check_bounds := PySem.W.mg_of X G a_check_bounds
      b_check_bounds := (fun_mk (st := sChB) l_check_bounds c_check_bounds k_check_bounds).binds (ps := ["bounds"]) fun _ _ _ _ _ _ us hl => match us, hl with | [_], _ => rfl
      F_check_rule := fun_mk (st := sChR) l_check_rule c_check_rule k_check_rule
      g_check_rule := PySem.W.mg_of X G a_check_rule
      b_check_rule := (fun_mk (st := sChR) l_check_rule c_check_rule k_check_rule).binds (ps := ["rule"]) fun _ _ _ _ _ _ us hl => match us, hl with | [_], _ => rfl
      F_check_both := fun_mk (st := sCh2) l_check_both c_check_both k_check_both
      g_check_both := PySem.W.mg_of X G a_check_both
      b_check_both := (fun_mk (st := sCh2) l_check_both c_check_both k_check_both).binds (ps := ["bounds", "rule"]) fun _ _ _ _ _ _ us hl => match us, hl with | [_, _], _ => rfl
      F_claiming_time := fun_mk (st := sCt) l_claiming_time c_claiming_time k_claiming_time
      g_claiming_time := PySem.W.mg_of X G a_claiming_time
      b_claiming_time := (fun_mk (st := sCt) l_claiming_time c_claiming_time k_claiming_time).binds (ps := ["rule"]) fun _ _ _ _ _ _ us hl => match us, hl with | [_], _ => rfl
      F_asking_time := fun_mk (st := sAt) l_asking_time c_asking_time k_asking_time
      g_asking_time := PySem.W.mg_of X G a_asking_time
      b_asking_time := (fun_mk (st := sAt) l_asking_time c_asking_time k_asking_time).binds (ps := ["bounds", "rule"]) fun _ _ _ _ _ _ us hl => match us, hl with | [_, _], _ => rfl
      F_mending_time := fun_mk (st := sMt) l_mending_time c_mending_time k_mending_time
      g_mending_time := PySem.W.mg_of X G a_mending_time
      b_mending_time := (fun_mk (st := sMt) l_mending_time c_mending_time k_mending_time).binds (ps := ["bounds", "rule"]) fun _ _ _ _ _ _ us hl => match us, hl with | [_, _], _ => rfl
      F_fits := fun_mk (st := sFits) l_fits c_fits k_fits
      g_fits := PySem.W.mg_of X G a_fits
      b_fits := (fun_mk (st := sFits) l_fits c_fits k_fits).binds (ps := ["bounds", "rule"]) fun _ _ _ _ _ _ us hl => match us, hl with | [_, _], _ => rfl
      F_least_wait := fun_mk (st := sLw) l_least_wait c_least_wait k_least_wait
      g_least_wait := PySem.W.mg_of X G a_least_wait
      b_least_wait := (fun_mk (st := sLw) l_least_wait c_least_wait k_least_wait).binds (ps := ["bounds", "gap"]) fun _ _ _ _ _ _ us hl => match us, hl with | [_, _], _ => rfl
      F_is_enough := fun_mk (st := sEn) l_is_enough c_is_enough k_is_enough
      g_is_enough := PySem.W.mg_of X G a_is_enough
      b_is_enough := (fun_mk (st := sEn) l_is_enough c_is_enough k_is_enough).binds (ps := ["bounds", "rule"]) fun _ _ _ _ _ _ us hl => match us, hl with | [_, _], _ => rfl
      F_least_rule := fun_mk (st := sLr) l_least_rule c_least_rule k_least_rule
      g_least_rule := PySem.W.mg_of X G a_least_rule
      F__law_bag := fun_mk (st := sBag) l__law_bag c__law_bag k__law_bag
      g__law_bag := PySem.W.mg_of X G a__law_bag
      b__law_bag := (fun_mk (st := sBag) l__law_bag c__law_bag k__law_bag).binds (ps := ["_law_script", "_law_at"]) fun _ _ _ _ _ _ us hl => match us, hl with | [_, _], _ => rfl
      F__law_take := fun_mk (st := sTake) l__law_take c__law_take k__law_take
      g__law_take := PySem.W.mg_of X G a__law_take
      b__law_take := (fun_mk (st := sTake) l__law_take c__law_take k__law_take).binds (ps := ["_law_bag_here", "_law_many"]) fun _ _ _ _ _ _ us hl => match us, hl with | [_, _], _ => rfl
      F__law_is_whole := fun_mk (st := sLWhole) l__law_is_whole c__law_is_whole k__law_is_whole
      g__law_is_whole := PySem.W.mg_of X G a__law_is_whole
      b__law_is_whole := (fun_mk (st := sLWhole) l__law_is_whole c__law_is_whole k__law_is_whole).binds (ps := ["_law_thing"]) fun _ _ _ _ _ _ us hl => match us, hl with | [_], _ => rfl
      F__law_least := fun_mk (st := sLeast) l__law_least c__law_least k__law_least
      g__law_least := PySem.W.mg_of X G a__law_least
      b__law_least := (fun_mk (st := sLeast) l__law_least c__law_least k__law_least).binds (ps := ["_law_few", "_law_old", "_law_g"]) fun _ _ _ _ _ _ us hl => match us, hl with | [_, _, _], _ => rfl
      F__law_claiming := fun_mk (st := sLClaim) l__law_claiming c__law_claiming k__law_claiming
      g__law_claiming := PySem.W.mg_of X G a__law_claiming
      b__law_claiming := (fun_mk (st := sLClaim) l__law_claiming c__law_claiming k__law_claiming).binds (ps := ["_law_ru"]) fun _ _ _ _ _ _ us hl => match us, hl with | [_], _ => rfl
      F__law_parts := fun_mk (st := sParts) l__law_parts c__law_parts k__law_parts
      g__law_parts := PySem.W.mg_of X G a__law_parts
      b__law_parts := (fun_mk (st := sParts) l__law_parts c__law_parts k__law_parts).binds (ps := ["_law_bag_here"]) fun _ _ _ _ _ _ us hl => match us, hl with | [_], _ => rfl
      F__law_good_parts := fun_mk (st := sGoodP) l__law_good_parts c__law_good_parts k__law_good_parts
      g__law_good_parts := PySem.W.mg_of X G a__law_good_parts
      b__law_good_parts := (fun_mk (st := sGoodP) l__law_good_parts c__law_good_parts k__law_good_parts).binds (ps := ["_law_bag_here"]) fun _ _ _ _ _ _ us hl => match us, hl with | [_], _ => rfl
      F__law_is_rule := fun_mk (st := sIsR) l__law_is_rule c__law_is_rule k__law_is_rule
      g__law_is_rule := PySem.W.mg_of X G a__law_is_rule
      b__law_is_rule := (fun_mk (st := sIsR) l__law_is_rule c__law_is_rule k__law_is_rule).binds (ps := ["_law_parts_here"]) fun _ _ _ _ _ _ us hl => match us, hl with | [_], _ => rfl
      F__law_made_rule := fun_mk (st := sMade) l__law_made_rule c__law_made_rule k__law_made_rule
      g__law_made_rule := PySem.W.mg_of X G a__law_made_rule
      b__law_made_rule := (fun_mk (st := sMade) l__law_made_rule c__law_made_rule k__law_made_rule).binds (ps := ["_law_parts_here"]) fun _ _ _ _ _ _ us hl => match us, hl with | [_], _ => rfl
      F__law_near_parts := fun_mk (st := sNear) l__law_near_parts c__law_near_parts k__law_near_parts
      g__law_near_parts := PySem.W.mg_of X G a__law_near_parts
      b__law_near_parts := (fun_mk (st := sNear) l__law_near_parts c__law_near_parts k__law_near_parts).binds (ps := ["_law_bag_here", "_law_few", "_law_old"]) fun _ _ _ _ _ _ us hl => match us, hl with | [_, _, _], _ => rfl
      F__law_more_right := fun_mk (st := sMore) l__law_more_right c__law_more_right k__law_more_right
      g__law_more_right := PySem.W.mg_of X G a__law_more_right
      b__law_more_right := (fun_mk (st := sMore) l__law_more_right c__law_more_right k__law_more_right).binds (ps := ["_law_held", "_law_parts_here"]) fun _ _ _ _ _ _ us hl => match us, hl with | [_, _], _ => rfl
      F_law := fun_mk (st := sLaw) l_law c_law k_law
      g_law := PySem.W.mg_of X G a_law
      b_law := (fun_mk (st := sLaw) l_law c_law k_law).binds (ps := ["_law_script"]) fun _ _ _ _ _ _ us hl => match us, hl with | [_], _ => rfl
      g_Bounds := PySem.W.mg_of X G g_Bounds
      cl_Bounds := ⟨pg_Bounds, hd_Bounds, po_Bounds, sa_Bounds⟩
      n_Bounds_lost := n_Bounds_lost
      n_Bounds_late := n_Bounds_late
      is_Bounds := ⟨⟨pg_Bounds, hd_Bounds, po_Bounds, sa_Bounds⟩, ia_Bounds, ib_Bounds, ic_Bounds, id_Bounds, kit_self⟩
      F_Bounds___init__ := fun_mk (st := sBInit) l_Bounds___init__ c_Bounds___init__ k_Bounds___init__
      mk_Bounds := ⟨mi_Bounds, a_Bounds___init__, i_Bounds___init__, kc_Bounds⟩
      g_Rule := PySem.W.mg_of X G g_Rule
      cl_Rule := ⟨pg_Rule, hd_Rule, po_Rule, sa_Rule⟩
      n_Rule_probes := n_Rule_probes
      n_Rule_gap := n_Rule_gap
      n_Rule_wait := n_Rule_wait
      n_Rule_repeats := n_Rule_repeats
      n_Rule_period := n_Rule_period
      n_Rule_life := n_Rule_life
      is_Rule := ⟨⟨pg_Rule, hd_Rule, po_Rule, sa_Rule⟩, ia_Rule, ib_Rule, ic_Rule, id_Rule, kit_self⟩
      F_Rule___init__ := fun_mk (st := sRInit) l_Rule___init__ c_Rule___init__ k_Rule___init__
      mk_Rule := ⟨mi_Rule, a_Rule___init__, i_Rule___init__, kc_Rule⟩
      q_B1 := ⟨fun s us ws _ h1 h2 => match us, h1, ws, h2 with | [_], _, [_, _], _ => .of_eq rfl, pick_rel⟩
      q_R1 := ⟨fun s us ws _ h1 h2 => match us, h1, ws, h2 with | [_], _, [_, _, _, _, _, _], _ => .of_eq rfl, pick_rel⟩
      q_R2 := ⟨fun s us ws _ h1 h2 => match us, h1, ws, h2 with | [_], _, [_, _, _, _, _, _], _ => .of_eq rfl, pick_rel⟩
      q_L1 := ⟨fun s us ws _ h1 h2 => match us, h1, ws, h2 with | [_], _, [_], _ => .of_eq rfl, pick_rel⟩
      m_len := PySem.W.mg_none_of X G z_len
      m_abs := PySem.W.mg_none_of X G z_abs
      m_range := PySem.W.mg_none_of X G z_range
      m_max := PySem.W.mg_none_of X G z_max
      m_min := PySem.W.mg_none_of X G z_min
      m_isinstance := PySem.W.mg_none_of X G z_isinstance
      m_bool := PySem.W.mg_none_of X G z_bool
      m_int := PySem.W.mg_none_of X G z_int
      m_all := PySem.W.mg_none_of X G z_all
      m_zip := PySem.W.mg_none_of X G z_zip
      m_list := PySem.W.mg_none_of X G z_list }
  exact ⟨a.d_law, fun s v => .of_eq rfl, fun base _ _ => ok_law T⟩
end K09
open PySem PySem.W PyProof.Rows
set_option maxHeartbeats 0 in
theorem PySem.Challenge.cw_wirenames_k09_whole_enough_by_the_least_holds : PySem.Challenge.rw_wirenames_k09_whole_enough_by_the_least.Holds := by
  w_on; o_law; k_head; (case hw => w_witness2)
  k_fill
  refine Gd.walkG (l := PySem.Challenge.rw_wirenames_k09_whole_enough_by_the_least) (n := 63) (k := 8) (x := "_law_script") (sp := K09.spLaw) rfl (by decide) rfl ⟨rfl, by decide, by decide⟩ (fun w h Y => PySem.W.kIn_of Y) ?F (fun _ _ a ns hl hS => ⟨a, ns, rfl, hS, hl, fun _ => rfl⟩)
  case F =>
    intro w mg fa h KX G hmg
    refine' K09.all_mk KX G hmg ?g_Bounds ?pg_Bounds ?hd_Bounds ?po_Bounds ?sa_Bounds ?mi_Bounds ?kc_Bounds ?n_Bounds_lost ?n_Bounds_late ?ia_Bounds ?ib_Bounds ?ic_Bounds ?id_Bounds ?g_Rule ?pg_Rule ?hd_Rule ?po_Rule ?sa_Rule ?mi_Rule ?kc_Rule ?n_Rule_probes ?n_Rule_gap ?n_Rule_wait ?n_Rule_repeats ?n_Rule_period ?n_Rule_life ?ia_Rule ?ib_Rule ?ic_Rule ?id_Rule ?a_is_whole ?l_is_whole ?c_is_whole ?k_is_whole ?a_is_within ?l_is_within ?c_is_within ?k_is_within ?a_is_gap ?l_is_gap ?c_is_gap ?k_is_gap ?a_claiming_ticks ?l_claiming_ticks ?c_claiming_ticks ?k_claiming_ticks ?a_least_period ?l_least_period ?c_least_period ?k_least_period ?a_asking_ticks ?l_asking_ticks ?c_asking_ticks ?k_asking_ticks ?a_check_bounds ?l_check_bounds ?c_check_bounds ?k_check_bounds ?a_check_rule ?l_check_rule ?c_check_rule ?k_check_rule ?a_check_both ?l_check_both ?c_check_both ?k_check_both ?a_claiming_time ?l_claiming_time ?c_claiming_time ?k_claiming_time ?a_asking_time ?l_asking_time ?c_asking_time ?k_asking_time ?a_mending_time ?l_mending_time ?c_mending_time ?k_mending_time ?a_fits ?l_fits ?c_fits ?k_fits ?a_least_wait ?l_least_wait ?c_least_wait ?k_least_wait ?a_is_enough ?l_is_enough ?c_is_enough ?k_is_enough ?a_least_rule ?l_least_rule ?c_least_rule ?k_least_rule ?a__law_bag ?l__law_bag ?c__law_bag ?k__law_bag ?a__law_take ?l__law_take ?c__law_take ?k__law_take ?a__law_is_whole ?l__law_is_whole ?c__law_is_whole ?k__law_is_whole ?a__law_least ?l__law_least ?c__law_least ?k__law_least ?a__law_claiming ?l__law_claiming ?c__law_claiming ?k__law_claiming ?a__law_parts ?l__law_parts ?c__law_parts ?k__law_parts ?a__law_good_parts ?l__law_good_parts ?c__law_good_parts ?k__law_good_parts ?a__law_is_rule ?l__law_is_rule ?c__law_is_rule ?k__law_is_rule ?a__law_made_rule ?l__law_made_rule ?c__law_made_rule ?k__law_made_rule ?a__law_near_parts ?l__law_near_parts ?c__law_near_parts ?k__law_near_parts ?a__law_more_right ?l__law_more_right ?c__law_more_right ?k__law_more_right ?a_law ?l_law ?c_law ?k_law ?a_Bounds___init__ ?i_Bounds___init__ ?l_Bounds___init__ ?c_Bounds___init__ ?k_Bounds___init__ ?a_Rule___init__ ?i_Rule___init__ ?l_Rule___init__ ?c_Rule___init__ ?k_Rule___init__ ?z_len ?z_abs ?z_range ?z_max ?z_min ?z_isinstance ?z_bool ?z_int ?z_all ?z_zip ?z_list
    (case g_Bounds => k_is)
    (case pg_Bounds => k_is)
    (case hd_Bounds => k_is)
    (case po_Bounds => k_is)
    (case sa_Bounds => k_is)
    (case mi_Bounds => k_is)
    (case kc_Bounds => k_is)
    (case n_Bounds_lost => k_is)
    (case n_Bounds_late => k_is)
    (case ia_Bounds => k_is)
    (case ib_Bounds => k_is)
    (case ic_Bounds => k_is)
    (case id_Bounds => k_is)
    (case g_Rule => k_is)
    (case pg_Rule => k_is)
    (case hd_Rule => k_is)
    (case po_Rule => k_is)
    (case sa_Rule => k_is)
    (case mi_Rule => k_is)
    (case kc_Rule => k_is)
    (case n_Rule_probes => k_is)
    (case n_Rule_gap => k_is)
    (case n_Rule_wait => k_is)
    (case n_Rule_repeats => k_is)
    (case n_Rule_period => k_is)
    (case n_Rule_life => k_is)
    (case ia_Rule => k_is)
    (case ib_Rule => k_is)
    (case ic_Rule => k_is)
    (case id_Rule => k_is)
    (case a_is_whole => k_is)
    (case l_is_whole => k_is)
    (case c_is_whole => k_is)
    (case k_is_whole => k_is)
    (case a_is_within => k_is)
    (case l_is_within => k_is)
    (case c_is_within => k_is)
    (case k_is_within => k_is)
    (case a_is_gap => k_is)
    (case l_is_gap => k_is)
    (case c_is_gap => k_is)
    (case k_is_gap => k_is)
    (case a_claiming_ticks => k_is)
    (case l_claiming_ticks => k_is)
    (case c_claiming_ticks => k_is)
    (case k_claiming_ticks => k_is)
    (case a_least_period => k_is)
    (case l_least_period => k_is)
    (case c_least_period => k_is)
    (case k_least_period => k_is)
    (case a_asking_ticks => k_is)
    (case l_asking_ticks => k_is)
    (case c_asking_ticks => k_is)
    (case k_asking_ticks => k_is)
    (case a_check_bounds => k_is)
    (case l_check_bounds => k_is)
    (case c_check_bounds => k_is)
    (case k_check_bounds => k_is)
    (case a_check_rule => k_is)
    (case l_check_rule => k_is)
    (case c_check_rule => k_is)
    (case k_check_rule => k_is)
    (case a_check_both => k_is)
    (case l_check_both => k_is)
    (case c_check_both => k_is)
    (case k_check_both => k_is)
    (case a_claiming_time => k_is)
    (case l_claiming_time => k_is)
    (case c_claiming_time => k_is)
    (case k_claiming_time => k_is)
    (case a_asking_time => k_is)
    (case l_asking_time => k_is)
    (case c_asking_time => k_is)
    (case k_asking_time => k_is)
    (case a_mending_time => k_is)
    (case l_mending_time => k_is)
    (case c_mending_time => k_is)
    (case k_mending_time => k_is)
    (case a_fits => k_is)
    (case l_fits => k_is)
    (case c_fits => k_is)
    (case k_fits => k_is)
    (case a_least_wait => k_is)
    (case l_least_wait => k_is)
    (case c_least_wait => k_is)
    (case k_least_wait => k_is)
    (case a_is_enough => k_is)
    (case l_is_enough => k_is)
    (case c_is_enough => k_is)
    (case k_is_enough => k_is)
    (case a_least_rule => k_is)
    (case l_least_rule => k_is)
    (case c_least_rule => k_is)
    (case k_least_rule => k_is)
    (case a__law_bag => k_is)
    (case l__law_bag => k_is)
    (case c__law_bag => k_is)
    (case k__law_bag => k_is)
    (case a__law_take => k_is)
    (case l__law_take => k_is)
    (case c__law_take => k_is)
    (case k__law_take => k_is)
    (case a__law_is_whole => k_is)
    (case l__law_is_whole => k_is)
    (case c__law_is_whole => k_is)
    (case k__law_is_whole => k_is)
    (case a__law_least => k_is)
    (case l__law_least => k_is)
    (case c__law_least => k_is)
    (case k__law_least => k_is)
    (case a__law_claiming => k_is)
    (case l__law_claiming => k_is)
    (case c__law_claiming => k_is)
    (case k__law_claiming => k_is)
    (case a__law_parts => k_is)
    (case l__law_parts => k_is)
    (case c__law_parts => k_is)
    (case k__law_parts => k_is)
    (case a__law_good_parts => k_is)
    (case l__law_good_parts => k_is)
    (case c__law_good_parts => k_is)
    (case k__law_good_parts => k_is)
    (case a__law_is_rule => k_is)
    (case l__law_is_rule => k_is)
    (case c__law_is_rule => k_is)
    (case k__law_is_rule => k_is)
    (case a__law_made_rule => k_is)
    (case l__law_made_rule => k_is)
    (case c__law_made_rule => k_is)
    (case k__law_made_rule => k_is)
    (case a__law_near_parts => k_is)
    (case l__law_near_parts => k_is)
    (case c__law_near_parts => k_is)
    (case k__law_near_parts => k_is)
    (case a__law_more_right => k_is)
    (case l__law_more_right => k_is)
    (case c__law_more_right => k_is)
    (case k__law_more_right => k_is)
    (case a_law => k_is)
    (case l_law => k_is)
    (case c_law => k_is)
    (case k_law => k_is)
    (case a_Bounds___init__ => k_is)
    (case i_Bounds___init__ => k_is)
    (case l_Bounds___init__ => k_is)
    (case c_Bounds___init__ => k_is)
    (case k_Bounds___init__ => k_is)
    (case a_Rule___init__ => k_is)
    (case i_Rule___init__ => k_is)
    (case l_Rule___init__ => k_is)
    (case c_Rule___init__ => k_is)
    (case k_Rule___init__ => k_is)
    (case z_len => k_is)
    (case z_abs => k_is)
    (case z_range => k_is)
    (case z_max => k_is)
    (case z_min => k_is)
    (case z_isinstance => k_is)
    (case z_bool => k_is)
    (case z_int => k_is)
    (case z_all => k_is)
    (case z_zip => k_is)
    (case z_list => k_is)
