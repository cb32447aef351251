import PyProof.Rows.All
import Wide.All
import OpenK.AllK
import Wide.FinOn
import HandS.ForMost
import PyProof.ReprRoads
import PyProof.ReprBulk
import PyProof.Rows.RegStrFacts
import HandS.TupLe
import HandS.IsInst
import HandS.Defaults
import HandS.Walk
import HandS.Codes
import PyProof.Rows.StrStep
import PyProof.ListStr
import PySem.Challenge.RW_wirenames_k01_names_known
set_option Elab.async false
set_option linter.all false
set_option maxRecDepth 100000
set_option maxHeartbeats 4000000
namespace Gd
open PySem PySem.Spec PyProof.Rows L2
/-! data read off the abstract heap -/
mutual
inductive Sh (H : Hp) : V → PyData → Prop
  | non : Sh H .non .none
  | bl (b : Bool) : Sh H (.bl b) (.bool b)
  | int (i : Int) : Sh H (.int i) (.int i)
  | str (x : Str) : Sh H (.str x) (.str x)
  | lst {a : Addr} {xs : List V} {ds : List PyData} : H a = some (.lst xs) → Shs H xs ds → Sh H (.ref a) (.list ds)
  | tup {a : Addr} {xs : List V} {ds : List PyData} : H a = some (.tup xs) → Shs H xs ds → Sh H (.ref a) (.tuple ds)
inductive Shs (H : Hp) : List V → List PyData → Prop
  | nil : Shs H [] []
  | cons {x : V} {d : PyData} {xs : List V} {ds : List PyData} : Sh H x d → Shs H xs ds → Shs H (x :: xs) (d :: ds)
end
section
variable {P : Program} {w : World} {H : Hp} {h : Heap}
mutual
theorem Sh.reads (ok : HOk P w H h) : ∀ {v : V} {d : PyData} {u : Value}, Sh H v d → RelV v u → ∃ as, Reads h u d as
  | _, _, _, .non, r => by
    cases (show _ = Value.none from r)
    exact ⟨_, .none⟩
  | _, _, _, .bl b, r => by
    cases (show _ = Value.bool b from r)
    exact ⟨_, .bool b⟩
  | _, _, _, .int i, r => by
    obtain ⟨t, e⟩ := (show ∃ t, _ = Value.int i t from r)
    cases e
    exact ⟨_, .int i t⟩
  | _, _, _, .str x, r => by
    obtain ⟨t, e⟩ := (show ∃ t, _ = Value.str x t from r)
    cases e
    exact ⟨_, .str x t⟩
  | _, _, _, .lst (a := a) e hs, r => by
    cases (show _ = Value.ref a from r)
    obtain ⟨_, its, n, vs, g⟩ := ok a _ e
    obtain ⟨as, q⟩ := Shs.reads ok hs vs
    exact ⟨_, .list g rfl rfl q⟩
  | _, _, _, .tup (a := a) e hs, r => by
    cases (show _ = Value.ref a from r)
    obtain ⟨_, its, vs, o, g1, g2, n, g3⟩ := ok a _ e
    obtain ⟨as, q⟩ := Shs.reads ok hs vs
    exact ⟨_, .tuple g1 g2 g3 q⟩
theorem Shs.reads (ok : HOk P w H h) : ∀ {xs : List V} {ds : List PyData} {us : List Value}, Shs H xs ds → Vals xs us → ∃ as, ReadsAll h us ds as
  | _, _, _, .nil, r => by
    cases r
    exact ⟨_, .nil⟩
  | _, _, _, .cons h1 h2, r => by
    cases r with
    | cons r1 r2 =>
      obtain ⟨as, q⟩ := Sh.reads ok h1 r1
      obtain ⟨bs, q2⟩ := Shs.reads ok h2 r2
      exact ⟨_, .cons q q2⟩
end
mutual
theorem Sh.plain : ∀ {v : V} {d : PyData}, Sh H v d → d.hasDict = false
  | _, _, .non => rfl
  | _, _, .bl _ => rfl
  | _, _, .int _ => rfl
  | _, _, .str _ => rfl
  | _, _, .lst _ hs => by
    simp only [PyData.hasDict]
    exact Shs.plain hs
  | _, _, .tup _ hs => by
    simp only [PyData.hasDict]
    exact Shs.plain hs
theorem Shs.plain : ∀ {xs : List V} {ds : List PyData}, Shs H xs ds → PyData.hasDictAll ds = false
  | _, _, .nil => rfl
  | _, _, .cons h1 h2 => by
    simp only [PyData.hasDictAll, Sh.plain h1, Shs.plain h2, Bool.or_false]
end
end
mutual
theorem Sh.same {H H' : Hp} (s : Same H H') : ∀ {v : V} {d : PyData}, Sh H v d → Sh H' v d
  | _, _, .non => .non
  | _, _, .bl b => .bl b
  | _, _, .int i => .int i
  | _, _, .str x => .str x
  | _, _, .lst e h => .lst (s _ _ e) (Shs.same s h)
  | _, _, .tup e h => .tup (s _ _ e) (Shs.same s h)
theorem Shs.same {H H' : Hp} (s : Same H H') : ∀ {xs : List V} {ds : List PyData}, Shs H xs ds → Shs H' xs ds
  | _, _, .nil => .nil
  | _, _, .cons h t => .cons (Sh.same s h) (Shs.same s t)
end
mutual
/-- data whose repr is told here: ints of less than 1920 bits, texts of plain signs -/
def fine : PyData → Bool
  | .none => true
  | .bool _ => true
  | .int i => decide (i.natAbs.log2 < 1920)
  | .str x => x.cps.toList.all fun c => decide (c < 16 ^ 8)
  | .list xs => fineAll xs
  | .tuple xs => fineAll xs
  | .dict _ => false
def fineAll : List PyData → Bool
  | [] => true
  | x :: xs => fine x && fineAll xs
end
mutual
theorem fine_shows : ∀ d : PyData, fine d = true → d.showable = true ∧ d.leavesShort 1921 = true
  | .none, _ => ⟨rfl, rfl⟩
  | .bool _, _ => ⟨rfl, rfl⟩
  | .int i, h => by
    have h1 : i.natAbs.log2 < 1920 := by simpa only [fine, decide_eq_true_eq] using h
    exact ⟨by simpa only [PyData.showable, decide_eq_true_eq] using h1, by
      simp only [PyData.leavesShort, PyData.shown]
      exact decide_eq_true (int_text_len_1921 h1)⟩
  | .str x, h => ⟨rfl, by simpa only [PyData.leavesShort, fine] using h⟩
  | .list xs, h => by
    have q := fineAll_shows xs (by simpa only [fine] using h)
    exact ⟨by simpa only [PyData.showable] using q.1, by simpa only [PyData.leavesShort] using q.2⟩
  | .tuple xs, h => by
    have q := fineAll_shows xs (by simpa only [fine] using h)
    exact ⟨by simpa only [PyData.showable] using q.1, by simpa only [PyData.leavesShort] using q.2⟩
  | .dict _, h => by simp only [fine, Bool.false_eq_true] at h
theorem fineAll_shows : ∀ ds : List PyData, fineAll ds = true → PyData.showableAll ds = true ∧ PyData.leavesShortAll 1921 ds = true
  | [], _ => ⟨rfl, rfl⟩
  | d :: ds, h => by
    simp only [fineAll, Bool.and_eq_true] at h
    have q1 := fine_shows d h.1
    have q2 := fineAll_shows ds h.2
    exact ⟨by simp only [PyData.showableAll, q1.1, q2.1, Bool.and_self], by simp only [PyData.leavesShortAll, q1.2, q2.2, Bool.and_self]⟩
end
theorem shown_fits {d : PyData} (h : fine d = true) (hb : d.bulk ≤ 8000) : d.shown.length ≤ sizeLine := by
  have q := PyData.shown_le_bulk 1921 (by decide) d (fine_shows d h).2
  rw [sizeLine_eq]
  omega
section
variable {X : Cx}
/-- repr of data -/
def rRepr : List V → Hp → VK → Prop := fun xs H Q => ∃ v d, xs = [v] ∧ Sh H v d ∧ fine d = true ∧ d.depth ≤ 60 ∧ d.bulk ≤ 8000 ∧ Q (.str d.shown) H
theorem call_repr (hg : X.A.guards = some []) (hu : X.A.units + 64 < cLine) : CallR X (.builtin "repr") rRepr := by
  intro pins s σ H xs us Q I r ⟨v, d, ex, hd, hf, dp, bk, q⟩
  have hs := (fine_shows d hf).1
  have sz := shown_fits hf bk
  subst ex
  cases r with
  | cons r1 r2 =>
  cases r2
  rename_i u
  cases hd with
  | non =>
    cases (show u = Value.none from r1)
    exact PySem.P.repr_of_none ⟨.str _, H, I.tok _, ⟨_, rfl⟩, q⟩
  | bl b =>
    cases (show u = Value.bool b from r1)
    exact PySem.P.repr_of_bool ⟨.str _, H, I.tok _, ⟨_, rfl⟩, q⟩
  | int i =>
    obtain ⟨t, e⟩ := (show ∃ t, u = Value.int i t from r1)
    cases e
    exact PySem.P.repr_of_int (by simpa [PyData.showable] using hs) ⟨.str _, H, I.tok _, ⟨_, rfl⟩, q⟩
  | str x =>
    obtain ⟨t, e⟩ := (show ∃ t, u = Value.str x t from r1)
    cases e
    exact PySem.P.repr_of_str ⟨.str _, H, I.tok _, ⟨_, rfl⟩, q⟩ sz
  | lst e1 h1 =>
    rename_i a xs ds
    have hd : Sh H (.ref a) (.list ds) := .lst e1 h1
    obtain ⟨as, rd⟩ := hd.reads I.hok r1
    cases (show u = Value.ref a from r1)
    exact repr_of_reads' rd hs (PyData.noDict_hsm hd.plain) hg (by omega) (fun _ _ e => e) (fun h' t tk k => ⟨.str _, H, I.kept k, ⟨t, rfl⟩, q⟩) sz
  | tup e1 h1 =>
    rename_i a xs ds
    have hd : Sh H (.ref a) (.tuple ds) := .tup e1 h1
    obtain ⟨as, rd⟩ := hd.reads I.hok r1
    cases (show u = Value.ref a from r1)
    exact repr_of_reads' rd hs (PyData.noDict_hsm hd.plain) hg (by omega) (fun _ _ e => e) (fun h' t tk k => ⟨.str _, H, I.kept k, ⟨t, rfl⟩, q⟩) sz
end
/-! defs that may only be called where no repr is under way -/
structure FnG (P : Program) (w : World) (K : PySem.W.Frag) (mg : Str → Option Value) (base : Heap) (CX : CXT) (k : Nat) (f : Addr) (fd : FuncData) (ps : List Str) (sp : Sp) : Prop where
  len : ∀ {vs : List V} {H : Hp} {Q : VK} {E : XK}, sp vs H Q E → vs.length = ps.length
  go : ∀ {A : Around} {outer : List Env} {s : Shared} {H : Hp} {args : Args} {us : List Value} {vs : List V} {Q : VK} {E : XK}, A.guards = some [] → Room k A →
    Env0 P w K mg base A outer s H → BindsTo s fd args (ps.zip us) → Vals vs us → sp vs H Q E → codeAny (model P w) A (.call (.ref f) args) (CR CX outer P w H s Q E) s
theorem FnG.mono {P : Program} {w : World} {K : PySem.W.Frag} {mg : Str → Option Value} {base : Heap} {CX : CXT} {j k : Nat} {f : Addr} {fd : FuncData} {ps : List Str} {sp : Sp}
    (F : FnG P w K mg base CX j f fd ps sp) (h : j ≤ k) : FnG P w K mg base CX k f fd ps sp := ⟨F.len, fun g r => F.go g (r.mono h)⟩
section
variable {P : Program} {w : World} {K : PySem.W.Frag} {mg : Str → Option Value} {base : Heap} {CX : CXT}
theorem fnG_of {k : Nat} {f : Addr} {x qual : Str} {st : Stmt} {fd : FuncData} {N ps : List Str} {sp : Sp} (F : Fun K x qual st f fd) (S : FnScope N ps (defScope st)) (len : ∀ vs H Q E, sp vs H Q E → vs.length = ps.length)
    (body : ∀ (cdv : Value) (A : Around) (outer : List Env) (s : Shared) (H : Hp) (vs : List V) (Q : VK) (E : XK), A.guards = some [] → Room k (A.deeper (envOfC qual (defScope st) s.heap.objs.size f cdv)) → sp vs H Q E →
      ∃ t, PSs (cxOf CX P w K mg base N qual (defScope st) f cdv A outer s H E) (defBody st) t ∧ t { nx := fun _ H' => Q .non H', rt := Q } (start N vs) H) :
    FnG P w K mg base CX (k + 1) f fd ps sp := by
  obtain ⟨oc, od, kV, doc, pm, an, cdv, ct, osl, rfl, look, code⟩ := F.ex
  constructor
  · intro vs H Q E q
    exact len vs H Q E q
  · intro A outer s H args us vs Q E gd room env bind vals want
    have same : ∀ b o, base.get? b = some o → s.heap.get? b = some o := fun b o e => (env.bs b o e).1
    have kin : K.In s.heap := env.mod.kin.keeps same
    have slots : ∀ y ∈ ps.zip us, (defScope st).names.lookup y.1 = some .local ∨ ((defScope st).names.lookup y.1 = some .cell ∧ ((cellsFrom (s.heap.objs.size + 1) (defScope st).names []).lookup y.1).isSome = true) := by
      rintro ⟨y, v⟩ hy
      cases S.par y (List.of_mem_zip hy).1 with
      | inl q => exact .inl q
      | inr q => exact .inr ⟨q, PySem.W.cellsFrom_some _ _ _ (.inl q)⟩
    apply codeAny_call_function room.depth (kin _ _ look) rfl S.co S.gen rfl (PySem.W.codeRec_of kin code)
    apply bind
    apply wpAny_newFunctionEnv_cells S.kind slots
    rintro env' rfl s1 X1
    constructor
    · exact (env.mod.nolimit.keeps same).keeps X1.toInCall.keep
    apply codeAny_func
    obtain ⟨t, ht, hq⟩ := body cdv A outer s H vs Q E gd (room.deeper _) want
    have I := inv_start (CX := CX) (E := E) S room.hd env (len _ _ _ _ want) vals X1
    apply wpAny_mono (ht.run [] s1 _ H _ I hq)
    · intro flow s' hs
      cases flow with
      | ret u =>
        obtain ⟨v, _, H', J, rv, q⟩ := hs
        exact ⟨v, H', J.os, J.bare, J.base, J.hok, rv, q⟩
      | next =>
        obtain ⟨_, H', J, q⟩ := hs
        exact ⟨.non, H', J.os, J.bare, J.base, J.hok, rfl, q⟩
      | brk => exact hs.elim fun _ q => q.elim fun _ q => q.2.elim
      | cont => exact hs.elim fun _ q => q.elim fun _ q => q.2.elim
    · intro e s' hs
      exact hs
theorem fnG0 {k : Nat} {f : Addr} {x qual : Str} {st : Stmt} {fd : FuncData} {N ps : List Str} {sp : Sp} (F : Fun K x qual st f fd) (S : FnScope N ps (defScope st)) (len : ∀ vs H Q E, sp vs H Q E → vs.length = ps.length)
    (body : ∀ (cdv : Value) (A : Around) (outer : List Env) (s : Shared) (H : Hp) (vs : List V) (Q : VK) (E : XK), A.guards = some [] → Room k (A.deeper (envOfC qual (defScope st) s.heap.objs.size f cdv)) → sp vs H Q E →
      ∃ t, PSs (cxOf CX0 P w K mg base N qual (defScope st) f cdv A outer s H E).nox (defBody st) t ∧ t { nx := fun _ H' => Q .non H', rt := Q } (start N vs) H) :
    FnG P w K mg base CX0 (k + 1) f fd ps sp :=
  fnG_of F S len fun cdv A outer s H vs Q E g r q => (body cdv A outer s H vs Q E g r q).elim fun t h => ⟨t, h.1.nox, h.2⟩
end
section
variable {X : Cx} {CX : CXT} {k : Nat} {f : Addr} {fd : FuncData} {ps : List Str} {sp : Sp} {dvs : List V} {ds : List Value} {E : XK} {x : Str} {p pos : Pos} {e : Expr} {es : List Expr} {t : TA}
theorem goG {pins : List (Addr × Obj)} {σ : L2.St} {H : Hp} {s : Shared} {Q : VK} {us : List Value} {vs : List V} (F : FnG X.prog X.w X.K X.mg X.base CX k f fd ps sp) (gd : X.A.guards = some []) (hr : Room k X.A)
    (hb : Binds X.K fd ps ds) (hd : Vals dvs ds) (hx : Passes CX X E) (I : Inv X pins σ H s) (r : Vals vs us) (h : sp (vs ++ dvs) H Q E) : wpAny (model X.prog X.w) X.A (call (.ref f) us) (EP X pins σ Q) X.xe s := by
  have both := r.append hd
  have many : (us ++ ds).length = ps.length := both.length.symm.trans (F.len h)
  apply wpAny_call
  apply codeAny_mono (F.go gd hr I.env0 (hb s us I.kIn many) both h)
  intro res s' hq
  cases res with
  | error e => exact hx pins σ H s e s' I hq
  | ok flow =>
    cases flow with
    | ret u => exact I.after hq
    | next => exact hq.elim
    | brk => exact hq.elim
    | cont => exact hq.elim
/-- f(e, ..) of such a def -/
theorem pe_callG (F : FnG X.prog X.w X.K X.mg X.base CX k f fd ps sp) (gd : X.A.guards = some []) (hr : Room k X.A) (hg : Gl X x) (hm : X.mg x = some (.ref f)) (hk : PySem.W.keepIn X.K (.ref f) = true) (hb : Binds X.K fd ps ds) (hd : Vals dvs ds)
    (hx : Passes CX X E) (ha : PA X (e :: es) t) (hdb : (x == ("__debug__" : Str)) = false := by decide)
    (he : starEach (e :: es) X.env = (false, eval e X.env) :: starEach es X.env := by rfl) (hpl : (backTo pos (starEach es X.env)).any (·.1) = false := by rfl) :
    PE X (.Call (.Name x p) (e :: es) [] pos) (tCall sp dvs E t) := by
  constructor
  intro pins s σ H Q I h
  apply wpAny_Call_Name_kw
  apply ld_glob I hg hm _ hdb
  apply PySem.W.callWith_K (h₀ := X.base) I.ok.mod.kin hk _ he hpl
  apply thn (ha.run pos pins s σ H _ I h)
  rintro us s1 ⟨vs, H1, I1, r, q⟩
  exact ⟨I1.kIn, goG F gd hr hb hd hx I1 r q⟩
end
/-! the law's end, where the law's def calls repr -/
section
variable {P : Program} {w : World} {K : PySem.W.Frag} {mg mb : Str → Option Value} {CX : CXT} {k : Nat} {fa a : Addr} {fd : FuncData} {x : Str} {sp : Sp} {s : Shared} {vs : List Value} {ns : List Int}
abbrev Done (s : Shared) (r : Result) (s' : Shared) : Prop := r = .ok (.ret (.bool true)) ∧ OldK s.heap s'.heap ∧ s'.os = s.os ∧ AllBare s'.gens
theorem from_heap (kin : K.In s.heap) (gl : s.heap.Ns mainGlobals mg) (bn : s.heap.Ns builtinsNs mb) (bb : ∀ x : Str, x ≠ "__name__" → mb x = bootBuiltins x) (lim : s.heap.NoLimit) (gens : s.gens = #[])
    (ha : s.heap.get? a = some { cls := .type "list", data := .seq vs.toArray }) (hr : Room k callerA)
    (F : ∀ base : Heap, K.In base → base.Ns mainGlobals mg → FnG P w K mg base CX k fa fd [x] sp) (hbind : ∀ (s : Shared) (u : Value), BindsTo s fd ⟨[u], []⟩ [(x, u)])
    (hCX : ∀ H e s', CX [] H s (fun _ _ _ => False) e s' → False)
    (H : Hp) (only : Only H) (want : sp [.ref a] H (fun v _ => v = .bl true) fun _ _ _ => False) (ok : HOk P w H s.heap) (one : ∀ b, H b ≠ none → b = a) (out : H a ≠ none → K.lookup a = none) :
    codeAny (model P w) callerA (.call (.ref fa) ⟨[.ref a], []⟩) (Done s) s := by
  have dicts : ∀ {b : Addr} {m : Str → Option Value}, s.heap.Ns b m → (hidT s.heap H).Ns b m := by
    rintro b m ⟨o, es, ep, g, d, rest⟩
    refine ⟨o, es, ep, hidT_get g ?_, d, rest⟩
    apply Classical.byContradiction
    intro q
    cases one b q
    rw [ha] at g
    cases g
    cases (show Data.seq vs.toArray _ = Data.dict es ep from d)
  have kin' : K.In (hidT s.heap H) := by
    intro b o g
    refine hidT_get (kin b o g) ?_
    apply Classical.byContradiction
    intro q
    cases one b q
    rw [out q] at g
    cases g
  have env : Env0 P w K mg (hidT s.heap H) callerA [] s H :=
    { frames := rfl
      mod := ⟨kin', dicts gl, ⟨mb, dicts bn, bb⟩, lim.elim fun mc q => ⟨mc, dicts q.1, q.2⟩⟩
      bs := fun b o g => of_hidT g
      bsz := Nat.le_of_eq (hidT_size _ _)
      funs := trivial
      frf := fun b z => absurd (show b ∈ ([] : List Addr) from z) (by simp)
      hok := ok
      bare := .of_eq gens }
  apply codeAny_mono ((F _ kin' (dicts gl)).go rfl hr env (hbind s (.ref a)) (.cons rfl .nil : Vals [.ref a] [.ref a]) want)
  intro res s' got
  cases res with
  | error e => exact (hCX H e s' got).elim
  | ok flow =>
    cases flow with
    | next => exact got.elim
    | brk => exact got.elim
    | cont => exact got.elim
    | ret u =>
      obtain ⟨v, H', os, bare, un, ok', rv, q⟩ := got
      cases (show v = V.bl true from q)
      cases (show u = Value.bool true from rv)
      refine ⟨rfl, OldK.of_keep ?_, os, bare⟩
      intro b o g
      cases q : H b with
      | none => exact un.keep b o g q (fun z => absurd (show b ∈ ([] : List Addr) from z) (by simp)) (by simp)
      | some z =>
        cases only b with
        | inl n =>
          rw [n] at q
          cases q
        | inr n =>
          obtain ⟨ob, xs, n⟩ := n
          have g1 := (ok b _ n).1
          rw [g] at g1
          cases g1
          exact (ok' b _ (un.frzs b o _ n)).1
theorem lawG (kin : K.In s.heap) (gl : s.heap.Ns mainGlobals mg) (bn : s.heap.Ns builtinsNs mb) (bb : ∀ x : Str, x ≠ "__name__" → mb x = bootBuiltins x) (lim : s.heap.NoLimit) (gens : s.gens = #[])
    (ha : s.heap.get? a = some { cls := .type "list", data := .seq vs.toArray }) (hi : IntsAre vs ns) (hl : ns.length ≤ sizeLine) (hr : Room k callerA)
    (F : ∀ base : Heap, K.In base → base.Ns mainGlobals mg → FnG P w K mg base CX k fa fd [x] sp) (hbind : ∀ (s : Shared) (u : Value), BindsTo s fd ⟨[u], []⟩ [(x, u)])
    (hsp : ∀ H : Hp, SqL K H a (ns.map V.int) → sp [.ref a] H (fun v _ => v = .bl true) fun _ _ _ => False)
    (hCX : ∀ H e s', CX [] H s (fun _ _ _ => False) e s' → False) :
    codeAny (model P w) callerA (.call (.ref fa) ⟨[.ref a], []⟩) (Done s) s := by
  have rel := vals_ints hi
  cases look : K.lookup a with
  | some o =>
    have g := kin a o look
    rw [ha] at g
    cases g
    refine from_heap kin gl bn bb lim gens ha hr F hbind hCX (fun _ => none) (fun _ => .inl rfl) (hsp _ (.inr ⟨_, vs.toArray, _, look, rfl, rfl, rfl, ?_, by simpa using rel⟩)) (fun b u z => ?_) (fun b z => absurd rfl z) (fun z => absurd rfl z)
    · rw [List.size_toArray, hi.length]
      exact hl
    · cases (show (none : Option HO) = some u from z)
  | none =>
    let O : Obj := { cls := .type "list", data := .seq vs.toArray }
    have at_a : upd (fun _ => none) a (HO.frz O (.lst (ns.map V.int))) a = some (.frz O (.lst (ns.map V.int))) := upd_same
    refine from_heap kin gl bn bb lim gens ha hr F hbind hCX (upd (fun _ => none) a (.frz O (.lst (ns.map V.int)))) (fun b => ?_) (hsp _ (.inl (.inr ⟨O, at_a⟩))) (fun b u z => ?_) (fun b z => ?_) fun _ => look
    · by_cases e : b = a
      · subst e
        exact .inr ⟨_, _, at_a⟩
      · exact .inl (upd_ne e)
    · by_cases e : b = a
      · subst e
        cases Option.some.inj (at_a.symm.trans z)
        exact ⟨ha, by rw [List.length_map]; exact hl, vs, _, rel, ha⟩
      · rw [upd_ne e] at z
        cases z
    · by_cases e : b = a
      · exact e
      · exact absurd (upd_ne e) z
end
theorem walkG {l : PySem.W.OpenLaw} {n k : Nat} {q : Program} {loose : List Str} {XP : (Str → Option Value) → Heap → Prop} {YP : World → Heap → Prop} {d : DefRec} {K : Params → PySem.W.Frag} {sp : PySem.W.Frag → Sp} {x : Str}
    (hn : l.most = some n) (hn2 : n ≤ sizeLine) (hdf : d.params.defaults = []) (hr : Room k callerA) (hY : ∀ (w : World) (h : Heap), YP w h → (K w.params).In h)
    (F : ∀ (w : World) (mg : Str → Option Value) (fa : Addr) (h : Heap), (K w.params).In h → h.Ns mainGlobals mg → mg d.name = some (.ref fa) → ∃ fd : FuncData, (∀ (s : Shared) (u : Value), BindsTo s fd ⟨[u], []⟩ [(x, u)]) ∧
      ∀ base : Heap, (K w.params).In base → base.Ns mainGlobals mg → FnG l.prog w (K w.params) mg base CX0 k fa fd [x] (sp (K w.params)))
    (hsp : ∀ (K : PySem.W.Frag) (H : Hp) (a : Addr) (ns : List Int), ns.length ≤ n → SqL K H a (ns.map V.int) → sp K [.ref a] H (fun v _ => v = .bl true) fun _ _ _ => False) :
    PySem.W.WalkO q loose XP YP l.row.toRowW d [] (fun f vs => PySem.call f vs) := by
  apply Att.attach_call hn hdf
  intro w s₀ s₁ mg mb fa o pm cd doc a vs ns G Y ho hd hcd hmg hobj hints hlen hg
  obtain ⟨fd, hb, hF⟩ := F w mg fa _ (hY w _ Y) G.T.g hmg
  exact lawG (hY w _ Y) G.T.g G.T.b G.T.builtins G.T.nolimit hg hobj hints (Nat.le_trans hlen hn2) hr hF hb (fun H hS => hsp _ H a ns hlen hS) fun _ _ _ z => z
end Gd
namespace Gd
open PySem PySem.Spec PyProof.Rows L2
/-- what a law draws from: a list of two ints -/
def Bag (H : Hp) (a : Addr) : Prop := ∃ g m : Int, H a = some (.lst [.int g, .int m]) ∧ 0 ≤ m ∧ m < 2147483647
/-- all but what stands at a stays -/
def Kp (a : Addr) (H H' : Hp) : Prop := ∀ b o, b ≠ a → H b = some o → H' b = some o
theorem Kp.refl (a : Addr) (H : Hp) : Kp a H H := fun _ _ _ e => e
theorem Kp.trans {a : Addr} {H H1 H2 : Hp} (k : Kp a H H1) (l : Kp a H1 H2) : Kp a H H2 := fun b o n e => l b o n (k b o n e)
theorem Kp.at_bag {a : Addr} {H : Hp} {o : HO} : Kp a H (upd H a o) := fun b u n e => by
  rw [upd_ne n]
  exact e
theorem Kp.new {a p : Addr} {H : Hp} {o : HO} (h : H p = none) : Kp a H (upd H p o) := fun b u _ e => by
  rw [upd_ne (ne_of_none e h)]
  exact e
theorem Kp.put {a p : Addr} {H H' : Hp} {o : HO} (k : Kp a H H') (h : H p = none) : Kp a H (upd H' p o) := fun b u n e => by
  rw [upd_ne (ne_of_none e h)]
  exact k b u n e
theorem Same.kp {a : Addr} {H H' : Hp} (s : Same H H') : Kp a H H' := fun b o _ e => s b o e
theorem Bag.new {a p : Addr} {H : Hp} {o : HO} (b : Bag H a) (h : H p = none) : Bag (upd H p o) a := by
  obtain ⟨g, m, e, q⟩ := b
  exact ⟨g, m, by rw [upd_ne (ne_of_none e h)]; exact e, q⟩
theorem Bag.upd {a p : Addr} {H : Hp} {o : HO} (b : Bag H a) (h : p ≠ a) : Bag (L2.upd H p o) a := by
  obtain ⟨g, m, e, q⟩ := b
  exact ⟨g, m, by rw [upd_ne h.symm]; exact e, q⟩
theorem Bag.some {a : Addr} {H : Hp} (b : Bag H a) : ∃ o, H a = some o := ⟨_, b.choose_spec.choose_spec.1⟩
theorem Bag.ne {a p : Addr} {H : Hp} (b : Bag H a) (h : H p = none) : p ≠ a := by
  obtain ⟨g, m, e, q⟩ := b
  exact (ne_of_none e h).symm
/-- what is free behind was free ahead -/
theorem Kp.free {a p : Addr} {H H' : Hp} (k : Kp a H H') (b : Bag H' a) (h : H' p = none) : H p = none := by
  cases q : H p with
  | none => rfl
  | some o =>
    rw [k p o (b.ne h) q] at h
    cases h
theorem Kp.sq {K : PySem.W.Frag} {a b : Addr} {H H' : Hp} {xs : List V} (k : Kp a H H') (n : b ≠ a) (h : SqL K H b xs) : SqL K H' b xs := by
  rcases h with (h | ⟨o, h⟩) | h
  · exact .inl (.inl (k _ _ n h))
  · exact .inl (.inr ⟨o, k _ _ n h⟩)
  · exact .inr h
/-- a list of the module's or of the heap stays while the bag, new behind it, is drawn from -/
theorem Kp.sqn {K : PySem.W.Frag} {a b : Addr} {H H' : Hp} {xs : List V} (k : Kp a H H') (n : H a = none) (h : SqL K H b xs) : SqL K H' b xs := by
  rcases h with (h | ⟨o, h⟩) | h
  · exact .inl (.inl (k _ _ (ne_of_none h n) h))
  · exact .inl (.inr ⟨o, k _ _ (ne_of_none h n) h⟩)
  · exact .inr h
/-- tuples stay -/
def Tk (H H' : Hp) : Prop := ∀ p xs, H p = some (.tup xs) → H' p = some (.tup xs)
theorem Same.tk {H H' : Hp} (s : Same H H') : Tk H H' := fun p xs e => s p _ e
theorem Tk.trans {H H1 H2 : Hp} (k : Tk H H1) (l : Tk H1 H2) : Tk H H2 := fun p xs e => l p xs (k p xs e)
theorem Kp.tk {a : Addr} {H H' : Hp} (k : Kp a H H') (b : Bag H a) : Tk H H' := fun p xs e => by
  obtain ⟨g, m, h, _⟩ := b
  exact k p _ (ne_of e h (fun z => nomatch z)) e
theorem Tk.lst {p : Addr} {H : Hp} {xs ys : List V} (h : H p = some (.lst xs)) : Tk H (upd H p (.lst ys)) := fun b zs e => by
  rw [upd_ne (ne_of e h (fun z => nomatch z))]
  exact e
def spTake : Sp := fun vs H Q _ => ∃ (a : Addr) (n : Int), vs = [.ref a, .int n] ∧ Bag H a ∧ (0 < n ∧ n < 1073741824) ∧ ∀ (d : Int) (H' : Hp), 0 ≤ d → d < n → Bag H' a → Kp a H H' → Q (.int d) H'
def spBag (K : PySem.W.Frag) : Sp := fun vs H Q _ => ∃ (a : Addr) (ns : List Int) (i : Nat), vs = [.ref a, .int (i : Int)] ∧ SqL K H a (ns.map V.int) ∧ i ≤ 1000 ∧
  ∀ (H' : Hp) (p : Addr), Same H H' → H p = none → Bag H' p → Q (.ref p) H'
theorem turns {L : Nat} {m : Int} (hm : 1 ≤ m) : 1 ≤ (if (if (L : Int) < m then (L : Int) else m) > 1 then (if (L : Int) < m then (L : Int) else m) else 1) ∧ (if (if (L : Int) < m then (L : Int) else m) > 1 then (if (L : Int) < m then (L : Int) else m) else 1) ≤ m := by
  constructor <;> (repeat' split) <;> omega
theorem same_upd {H : Hp} {p : Addr} {o : HO} (h : H p = none) : Same H (upd H p o) := by
  intro b x e
  rw [upd_ne (ne_of_none e h)]
  exact e
theorem fresh {H H' : Hp} {p : Addr} {o : HO} (n : H p = none) (e : upd H p o = H') : Same H H' ∧ H' p = some o := by
  subst e
  exact ⟨same_upd n, upd_same⟩
section
variable {X : Cx}
/-- (i, j) > (k, l) -/
def gt2 (i j k l : Int) : Bool := decide (k < i ∨ (i = k ∧ l < j))
def rGt2 (K : PySem.W.Frag) : R2 := fun x y H Q => ∃ (a b : Addr) (i j k l : Int), x = .ref a ∧ y = .ref b ∧ SqT K H a [.int i, .int j] ∧ SqT K H b [.int k, .int l] ∧ Q (.bl (gt2 i j k l)) H
theorem eq_two {A : Around} {s : Shared} {i k : Int} {t u : Tok} : SeqAt.EqAt A s (.int i t) (.int k u) (decide (i = k)) := by
  have e : (i == k) = decide (i = k) := by
    by_cases q : i = k
    · rw [decide_eq_true q, q, beq_self_eq_true]
    · rw [decide_eq_false q, beq_eq_false_iff_ne.mpr q]
  rw [← e]
  exact SeqAt.EqAt.int_int _ _ _ _
theorem op_gt2 (hu : X.A.units < cLine) : OpR X (compareOp .Gt) (rGt2 X.K) := by
  rintro pins s σ H x y v u Q I rx ry ⟨a, b, i, j, k, l, rfl, rfl, ha, hb, q⟩
  cases rx
  cases ry
  obtain ⟨its, r1, p1, _⟩ := I.tuple ha
  obtain ⟨jts, r2, p2, _⟩ := I.tuple hb
  cases r1 with
  | cons a1 r1 =>
  cases r1 with
  | cons a2 r1 =>
  cases r1
  cases r2 with
  | cons b1 r2 =>
  cases r2 with
  | cons b2 r2 =>
  cases r2
  obtain ⟨t1, rfl⟩ := a1
  obtain ⟨t2, rfl⟩ := a2
  obtain ⟨t3, rfl⟩ := b1
  obtain ⟨t4, rfl⟩ := b2
  have R := Ob.RcOp.tuples_gt (A := X.A) (s := s) (e := fun n => if n = 0 then decide (i = k) else decide (j = l)) (r := fun n => if n = 0 then decide (k < i) else decide (l < j)) p1 p2 hu
    (fun n h1 h2 => match n, h1, h2 with
      | 0, _, _ => eq_two
      | 1, _, _ => eq_two
      | n + 2, h1, _ => absurd h1 (by simp))
    (fun n h1 h2 _ => match n, h1, h2 with
      | 0, _, _ => Ob.RcOp.gt_int _ _ _ _
      | 1, _, _ => Ob.RcOp.gt_int _ _ _ _
      | n + 2, h1, _ => absurd h1 (by simp))
  refine R _ _ _ _ ⟨.bl (gt2 i j k l), H, I, ?_, q⟩
  show Value.bool _ = Value.bool _
  congr 1
  show (if decide (i = k) = true then (if decide (j = l) = true then decide (2 > 2) else decide (l < j)) else decide (k < i)) = _
  unfold gt2
  by_cases e1 : i = k
  · rw [decide_eq_true e1, if_pos rfl]
    by_cases e2 : j = l
    · rw [decide_eq_true e2, if_pos rfl]
      rw [decide_eq_false (by omega), decide_eq_false (by omega)]
    · rw [decide_eq_false e2, if_neg Bool.false_ne_true]
      by_cases e3 : l < j
      · rw [decide_eq_true e3, decide_eq_true (by omega)]
      · rw [decide_eq_false e3, decide_eq_false (by omega)]
  · rw [decide_eq_false e1, if_neg Bool.false_ne_true]
    by_cases e3 : k < i
    · rw [decide_eq_true e3, decide_eq_true (.inl e3)]
    · rw [decide_eq_false e3, decide_eq_false (by omega)]
end
section
variable {X : Cx} {CX : CXT} {k : Nat} {f : Addr} {fd : FuncData} {ps ks : List Str} {sp : Sp} {E : XK} {x : Str} {p pos : Pos} {kws : List Keyword} {tk : TA} {g : List Value → List Value → List Value} {gV : List V → List V → List V}
def tCallK0 (n : Nat) (sp : Sp) (gV : List V → List V → List V) (E : XK) (tk : TA) : TE := fun σ H Q => tk σ H fun zs H2 => zs.length = n ∧ sp (gV [] zs) H2 Q E
/-- f(k = v, ..), keywords alone -/
theorem pe_callK0 (F : FnOk X.prog X.w X.K X.mg X.base CX k f fd ps sp) (hr : Room k X.A) (hg : Gl X x) (hm : X.mg x = some (.ref f)) (hk : PySem.W.keepIn X.K (.ref f) = true) (hb : KBn X.K fd ps 0 ks g gV) (hx : Passes CX X E) (hkw : PK X kws tk)
    (hall : (backToKw pos (keywordEach kws X.env)).all (·.1.isSome) = true := by rfl) (hks : (backToKw pos (keywordEach kws X.env)).filterMap (·.1) = ks := by rfl)
    (hdb : (x == ("__debug__" : Str)) = false := by decide) (hpl : ((backTo pos (starEach [] X.env)).any (·.1) || (backToKw pos (keywordEach kws X.env)).any (·.1.isNone)) = false := by rfl) :
    PE X (.Call (.Name x p) [] kws pos) (tCallK0 ks.length sp gV E tk) := by
  constructor
  intro pins s σ H Q I h
  apply wpAny_Call_Name_kw
  apply ld_glob I hg hm _ hdb
  apply PySem.W.callWith_KW0 (h₀ := X.base) I.ok.mod.kin hk hall _ hpl
  apply thn (hkw.run pos pins s σ H _ I h)
  rintro ws s2 ⟨zs, H2, I2, rz, l2, q2⟩
  refine ⟨I2.kIn, ?_⟩
  rw [hks]
  exact run_fnN F hr hb hx I2 .nil rz rfl l2 q2
end
end Gd
namespace Gd
open PySem PySem.Spec PyProof.Rows L2
/-- a text's signs, each a text -/
def signsV (l : List Nat) : List V := l.map fun c => .str ⟨#[c]⟩
theorem vals_signs {z : Str} : ∀ {acc : List Value} (l : List Nat), acc.length = l.length → (∀ (i : Nat) (v : Value), acc[i]? = some v → ∃ (c : Nat) (u : Tok), l[i]? = some c ∧ v = .str ⟨#[c]⟩ u) → Vals (signsV l) acc
  | [], [], _, _ => .nil
  | [], _ :: _, h, _ => absurd h (by simp)
  | _ :: _, [], h, _ => absurd h (by simp)
  | v :: acc, c :: l, h, q => by
    obtain ⟨c', u, e1, e2⟩ := q 0 v rfl
    cases Option.some.inj e1
    exact .cons ⟨u, e2⟩ (vals_signs (z := z) l (Nat.succ.inj h) fun i w hw => q (i + 1) w hw)
section
variable {X : Cx}
theorem list_of_str (hc : X.calm = true) : CallR X (.type "list") (fun xs H Q => ∃ z : Str, xs = [.str z] ∧ z.length ≤ sizeLine ∧ ∀ p, H p = none → Q (.ref p) (upd H p (.lst (signsV z.cps.toList)))) := by
  rintro pins s σ H xs us Q I r ⟨z, rfl, hz, q⟩
  obtain ⟨u, rfl, t, rfl⟩ := vals1 r
  apply PySem.call_list_str (I.ok.hd hc) z t _ hz
  intro h' tk acc c keep obj its
  refine ⟨.ref _, _, I.laid (t' := tk) (o := .lst (signsV z.cps.toList)) keep (Nat.le_refl _) ?_, rfl, q _ (I.hok.fresh (Nat.le_refl _))⟩
  refine ⟨?_, acc.toList, c, vals_signs (z := z) _ ?_ ?_, by simpa using obj⟩
  · unfold signsV
    rw [List.length_map, Array.length_toList]
    exact hz
  · rw [Array.length_toList, Array.length_toList]
    exact its.1
  · intro i v hv
    obtain ⟨c, u, h1, h2⟩ := its.2 i v (by simpa using hv)
    exact ⟨c, u, by simpa using h1, h2⟩
/-- e[::-1] of a text: some text of its signs, not longer -/
def tRevS (te : TE) : TE := fun σ H Q => te σ H fun x H1 => ∃ z : Str, x = .str z ∧ z.length ≤ sizeLine ∧ ∀ y : Str, y.length ≤ z.length → (∀ c ∈ y.cps.toList, c ∈ z.cps.toList) → Q (.str y) H1
theorem sliceBy_mem (x : Str) (l u : Option (Int × Tok)) (st : Int × Tok) : ∀ c ∈ (Txt.sliceBy x l u st).cps.toList, c ∈ x.cps.toList := by
  intro c hc
  unfold Txt.sliceBy at hc
  split at hc
  · exact hc
  · have h2 : c ∈ (List.filterMap (x.cps[·]?) (slicePicked x l u (some st))) := by simpa using hc
    obtain ⟨i, _, h3⟩ := List.mem_filterMap.mp h2
    obtain ⟨hi, e⟩ := Array.getElem?_eq_some_iff.mp h3
    rw [← e]
    simp
theorem pe_revS {e : Expr} {te : TE} {k : Nat} {p1 p2 p3 pos : Pos} (he : PE X e te) : PE X (.Subscript e (.Slice none none (some (.UnaryOp .USub (.Constant (.int 1) k p1) p2)) p3) pos) (tRevS te) := by
  constructor
  intro pins s σ H Q I h
  apply Subscript_
  apply thn (he.run pins s σ H _ I h)
  rintro v s1 ⟨x, H1, I1, r1, z, rfl, hz, q⟩
  obtain ⟨t, rfl⟩ := r1
  have step : PO X (some (.UnaryOp .USub (.Constant (.int 1) k p1) p2)) (tPart (tUn (rU fun i => .int (-i)) (tC (.int 1)))) := po_some (pe_un un_neg pe_int)
  apply wpAny_Slice
  apply thn (po_none.run pins s1 σ H1 (fun o H2 => o = none ∧ H2 = H1) I1 ⟨rfl, rfl⟩)
  rintro vl s2 ⟨l, H2, I2, pl, rfl, rfl⟩
  apply thn (po_none.run pins s2 σ H2 (fun o H3 => o = none ∧ H3 = H2) I2 ⟨rfl, rfl⟩)
  rintro vu s3 ⟨u, H3, I3, pu, rfl, rfl⟩
  apply thn (step.run pins s3 σ H3 (fun o H4 => o = some (-1) ∧ H4 = H3) I3 ⟨1, rfl, -1, rfl, rfl, rfl⟩)
  rintro vs s4 ⟨o, H4, I4, ps, rfl, rfl⟩
  obtain ⟨a1, rfl, e1⟩ := IsPart.raw pl
  obtain ⟨a2, rfl, e2⟩ := IsPart.raw pu
  obtain ⟨a3, rfl, e3⟩ := IsPart.raw ps
  have I5 := I4.kept (h' := s4.heap.push { cls := .type "slice", data := .fields #[partValue a1, partValue a2, partValue a3] }) (t' := s4.toks) fun b ob g => Heap.get?_push_of_some _ g
  cases a3 with
  | none => cases e3
  | some st =>
  refine tail_any (ops := [.ref s4.heap.objs.size, .str z t]) (typeIs_str _ _ _) F.slot_str_getitem.lookup ?_ (by with_unfolding_all rfl)
  have e4 : st.1 = -1 := Option.some.inj e3
  refine wpAny_getItem_str_slice (l := a1) (u := a2) (st := some st) ⟨_, Heap.get?_push_size _ rfl, rfl, rfl⟩ (by show (st.1 == 0) = false; rw [e4]; rfl) ?_
  have small := Txt.sliceBy_le z a1 a2 st (by rw [e4]; decide)
  exact post_val_or_str ⟨Nat.le_trans small hz, fun t' c => ⟨.str _, H4, I5.tok c, ⟨t', rfl⟩, q _ small (sliceBy_mem z a1 a2 st)⟩⟩
end
end Gd
namespace K01
open PySem PySem.Spec PyProof.Rows L2 Gd
def topS (i : Nat) : Stmt := PySem.Challenge.pw_wirenames_k01_names_known.main.body.getD i (.Pass ⟨0, 0, 0, 0⟩)
abbrev sStem : Stmt := topS 3
theorem scS : FnScope ["text"] ["text"] (defScope sStem) := ⟨rfl, rfl, rfl, by decide +kernel, rfl, by decide +kernel, by decide +kernel⟩
abbrev sIs : Stmt := topS 4
theorem scI : FnScope ["thing", "stem", "sign"] ["thing"] (defScope sIs) := ⟨rfl, rfl, rfl, by decide +kernel, rfl, by decide +kernel, by decide +kernel⟩
abbrev sBag : Stmt := topS 6
theorem scB : FnScope ["_law_script", "_law_at", "_law_cell", "_law_great", "_law_primes", "_law_mixed"] ["_law_script", "_law_at"] (defScope sBag) := ⟨rfl, rfl, rfl, by decide +kernel, rfl, by decide +kernel, by decide +kernel⟩
abbrev sTake : Stmt := topS 7
theorem scT : FnScope ["_law_bag_here", "_law_many", "_law_digit"] ["_law_bag_here", "_law_many"] (defScope sTake) := ⟨rfl, rfl, rfl, by decide +kernel, rfl, by decide +kernel, by decide +kernel⟩
abbrev sGood : Stmt := topS 8
theorem scG : FnScope ["_law_one", "_law_core", "_law_sign"] ["_law_one"] (defScope sGood) := ⟨rfl, rfl, rfl, by decide +kernel, rfl, by decide +kernel, by decide +kernel⟩
abbrev sDrawn : Stmt := topS 9
theorem scD : FnScope ["_law_bag_here", "_law_letters", "_law_found", "_law_spot"] ["_law_bag_here"] (defScope sDrawn) := ⟨rfl, rfl, rfl, by decide +kernel, rfl, by decide +kernel, by decide +kernel⟩
abbrev sOdd : Stmt := topS 10
theorem scO : FnScope ["_law_bag_here", "_law_name", "_law_signs", "_law_sign", "_law_spot", "_law_some"] ["_law_bag_here", "_law_name"] (defScope sOdd) := ⟨rfl, rfl, rfl, by decide +kernel, rfl, by decide +kernel, by decide +kernel⟩
abbrev sLaw : Stmt := topS 11
theorem scL : FnScope ["_law_script", "_law_at", "_law_bag_here", "_law_turn", "_law_name", "_law_one", "_law_shown", "_law_told"] ["_law_script"] (defScope sLaw) := ⟨rfl, rfl, rfl, by decide +kernel, rfl, by decide +kernel, by decide +kernel⟩
/-! names, by their signs -/
def figs : List Nat := [50, 51, 52, 53, 54, 55, 56, 57]
def stemL (l : List Nat) : List Nat := match l.getLast? with
  | some c => if c ∈ figs then l.dropLast else l
  | none => l
def low (c : Nat) : Bool := decide (97 ≤ c) && decide (c ≤ 122)
def nameL (l : List Nat) : Bool := decide (1 ≤ (stemL l).length) && decide ((stemL l).length ≤ 8) && (stemL l).all low
theorem stem_nil : stemL [] = [] := rfl
theorem stem_snoc (l : List Nat) (c : Nat) : stemL (l ++ [c]) = if c ∈ figs then l else l ++ [c] := by
  unfold stemL
  rw [List.getLast?_concat]
  simp only [List.dropLast_concat]
theorem stem_le (l : List Nat) : (stemL l).length ≤ l.length := by
  rcases List.eq_nil_or_concat l with rfl | ⟨m, c, rfl⟩
  · exact Nat.le_refl _
  · rw [List.concat_eq_append, stem_snoc]
    split
    · rw [List.length_append]
      omega
    · exact Nat.le_refl _
theorem figs_eq : (Str.ofString "23456789").cps.toList = figs := by decide
section
variable {P : Program} {w : World} {K : PySem.W.Frag} {mg : Str → Option Value} {base : Heap}
/-! _law_take -/
theorem ok_take {f : Addr} {fd : FuncData} {k : Nat} (F : Fun K "_law_take" "_law_take" sTake f fd) : FnOk P w K mg base CX0 (k + 1) f fd ["_law_bag_here", "_law_many"] spTake := by
  refine F.ok scT (fun vs H Q E h => ?_) (fun cdv A outer s H vs Q E hr h => ?_)
  · obtain ⟨a, n, rfl, _⟩ := h
    rfl
  · obtain ⟨a, n, rfl, ⟨g, m, ha, hm⟩, hn, q⟩ := h
    refine ⟨_, pss_cons (ps_if (pt_cmpR op_gt (pe_ix ix_list (pv 0) pe_int (fun _ _ => rfl)) pe_int (nomark _))
        (pss_cons (ps_set (i := 2) scT.nd rfl (.inl rfl) (pe_op op_mod (pe_ix ix_list (pv 0) pe_int (fun _ _ => rfl)) (pv 1)))
        (pss_cons (ps_asg (pe_op op_fdiv (pe_ix ix_list (pv 0) pe_int (fun _ _ => rfl)) (pv 1)) (pg_sub (pv 0) pe_int set_list))
        (pss_one (ps_ret (pv 2))))) pss_nil)
      (pss_cons (ps_asg (pe_op op_mod (pe_op op_add (pe_op op_mul (pe_ix ix_list (pv 0) pe_int (fun _ _ => rfl)) pe_int) pe_int) pe_int) (pg_sub (pv 0) pe_int set_list))
      (pss_one (ps_ret (pe_op op_mod (pe_op op_fdiv (pe_op op_mod (pe_op op_pow (pe_ix ix_list (pv 0) pe_int (fun _ _ => rfl)) pe_int) pe_int) pe_int) (pv 1))))), ?_⟩
    refine ⟨_, rfl, a, _, 0, .int g, rfl, rfl, SqL.of ha, rfl, g, 0, rfl, rfl, _, rfl, ite2 (fun e => ?_) (fun e => ?_)⟩
    · refine ⟨_, rfl, a, _, 0, .int g, rfl, rfl, SqL.of ha, rfl, _, rfl, g, n, rfl, rfl, hn.1, ?_⟩
      refine ⟨_, rfl, a, _, 0, .int g, rfl, rfl, SqL.of ha, rfl, _, rfl, g, n, rfl, rfl, hn, _, rfl, a, _, 0, 0, rfl, rfl, ha, rfl, ?_⟩
      exact ⟨_, rfl, q _ _ (Int.emod_nonneg _ (by omega)) (Int.emod_lt_of_pos _ hn.1) ⟨_, _, upd_same, hm⟩ Kp.at_bag⟩
    · have h0 : 0 ≤ (m * 69069 + 1327217) % 2147483647 := Int.emod_nonneg _ (by omega)
      have h1 : (m * 69069 + 1327217) % 2147483647 < 2147483647 := Int.emod_lt_of_pos _ (by omega)
      refine ⟨_, rfl, a, _, 1, .int m, rfl, rfl, SqL.of ha, rfl, m, 69069, rfl, rfl, .inl ⟨by omega, by omega⟩, _, 1327217, rfl, rfl, _, 2147483647, rfl, rfl, by show (0 : Int) < 2147483647; decide,
        _, rfl, a, _, 1, 1, rfl, rfl, ha, rfl, ?_⟩
      refine ⟨_, rfl, a, _, 1, _, rfl, rfl, SqL.of upd_same, rfl, _, 3, rfl, rfl, ⟨by decide, by decide, by omega⟩, _, 2147483629, rfl, rfl, by show (0 : Int) < 2147483629; decide,
        _, 16, rfl, rfl, ⟨by decide, by decide⟩, _, rfl, _, n, rfl, rfl, hn.1, ?_⟩
      exact q _ _ (Int.emod_nonneg _ (by omega)) (Int.emod_lt_of_pos _ hn.1) ⟨_, _, upd_same, h0, h1⟩ Kp.at_bag
/-! _law_bag -/
def primes : List V := [.int 2147483647, .int 2147483629, .int 2147483587, .int 2147483579, .int 2147483563, .int 2147483549, .int 2147483543, .int 2147483497]
theorem prime_at (i : Nat) : ∃ q : Int, primes[i % 8]? = some (.int q) ∧ 0 < q ∧ q ≤ 2147483647 := by
  have h : i % 8 < 8 := Nat.mod_lt _ (by decide)
  generalize i % 8 = j at h
  match j, h with
  | 0, _ => exact ⟨_, rfl, by decide, by decide⟩
  | 1, _ => exact ⟨_, rfl, by decide, by decide⟩
  | 2, _ => exact ⟨_, rfl, by decide, by decide⟩
  | 3, _ => exact ⟨_, rfl, by decide, by decide⟩
  | 4, _ => exact ⟨_, rfl, by decide, by decide⟩
  | 5, _ => exact ⟨_, rfl, by decide, by decide⟩
  | 6, _ => exact ⟨_, rfl, by decide, by decide⟩
  | 7, _ => exact ⟨_, rfl, by decide, by decide⟩
  | n + 8, h => exact absurd h (by omega)
theorem ok_bag {f : Addr} {fd : FuncData} {k : Nat} (F : Fun K "_law_bag" "_law_bag" sBag f fd) (ml : mg "len" = none) (ma : mg "abs" = none) : FnOk P w K mg base CX0 (k + 1) f fd ["_law_script", "_law_at"] (spBag K) := by
  refine F.ok scB (fun vs H Q E h => ?_) (fun cdv A outer s H vs Q E hr h => ?_)
  · obtain ⟨a, ns, i, rfl, _⟩ := h
    rfl
  · obtain ⟨a, ns, i, rfl, ha, hi, q⟩ := h
    refine ⟨_, pss_cons (ps_set (i := 2) scB.nd rfl (.inl rfl) pe_int)
      (C8.pss_cut (ps_if (pt_cmpR op_lt (pv 1) (pe_callB call_len_seq (by rfl) ml PySem.boot_len (pa_cons (pv 0) pa_nil)) (nomark _)) (pss_one (ps_set (i := 2) scB.nd rfl (.inl rfl) (pe_ix ix_list (pv 0) (pv 1) (fun _ _ => rfl)))) pss_nil)
      (pss_cons (ps_set (i := 3) scB.nd rfl (.inl rfl) pe_int)
      (C8.pss_cut (ps_if (pt_cmpR op_ge (pe_callB call_abs (by rfl) ma (by decide +kernel) (pa_cons (pv 2) pa_nil)) (pe_op op_pow pe_int pe_int) (nomark _)) (pss_one (ps_set (i := 3) scB.nd rfl (.inl rfl) (pe_callB call_abs (by rfl) ma (by decide +kernel) (pa_cons (pv 2) pa_nil)))) pss_nil)
      (pss_cons (ps_set (i := 4) scB.nd rfl (.inl rfl) (pe_lst (pa_cons pe_int (pa_cons pe_int (pa_cons pe_int (pa_cons pe_int (pa_cons pe_int (pa_cons pe_int (pa_cons pe_int (pa_cons pe_int pa_nil))))))))))
      (pss_cons (ps_set (i := 5) scB.nd rfl (.inl rfl) (pe_op op_add (pe_op op_add (pe_op op_add (pe_op op_mul (pe_op op_mod (pv 2) pe_int) pe_int) (pe_op op_mul (pe_op op_mul pe_int (pv 1)) (pv 1))) (pe_op op_mul pe_int (pv 1))) pe_int))
      (pss_one (ps_ret (pe_lst (pa_cons (pv 3) (pa_cons (pe_op op_mod (pv 5) (pe_ix ix_list (pv 4) (pe_op op_mod (pv 1) pe_int) (fun _ _ => rfl))) pa_nil)))))))))), ?_⟩
    refine ⟨fun σ' H' => ∃ c : Int, σ' = [some (.ref a), some (.int (i : Int)), some (.int c), none, none, none] ∧ H = H', ?_, ?_⟩
    · refine ⟨_, rfl, _, rfl, a, _, rfl, .inl ha, _, _, rfl, rfl, _, rfl, ite2 (fun e => ?_) (fun e => ⟨_, rfl, rfl⟩)⟩
      have h1 : i < ns.length := by
        have z := of_decide_eq_true e
        rw [List.length_map] at z
        omega
      refine ⟨_, rfl, _, rfl, a, _, _, .int ns[i], rfl, rfl, ha, atI_nat ?_, ⟨_, rfl, rfl⟩⟩
      rw [List.getElem?_map, List.getElem?_eq_getElem h1]
      rfl
    · rintro σ' H' ⟨c, rfl, rfl⟩
      refine ⟨fun σ' H' => ∃ g : Int, σ' = [some (.ref a), some (.int (i : Int)), some (.int c), some (.int g), none, none] ∧ H = H', ?_, ?_⟩
      · exact ⟨_, rfl, c, rfl, _, 18, rfl, rfl, ⟨by decide, by decide, by decide⟩, _, _, rfl, rfl, _, rfl, ite2 (fun e => ⟨_, rfl, c, rfl, ⟨_, rfl, rfl⟩⟩) (fun e => ⟨_, rfl, rfl⟩)⟩
      · rintro σ' H' ⟨g, rfl, rfl⟩
        refine ⟨by show 8 ≤ sizeLine; decide, fun p np => ?_⟩
        have s1 := same_upd (o := .lst primes) np
        obtain ⟨z, hz, z1, z2⟩ := prime_at i
        refine ⟨_, rfl, c, 2147483647, rfl, rfl, by show (0 : Int) < 2147483647; decide, _, 50021, rfl, rfl, .inr ⟨by decide, by decide⟩, _, rfl, 70001, (i : Int), rfl, rfl, .inl ⟨by decide, by decide⟩,
          _, rfl, _, (i : Int), rfl, rfl, .inr ⟨by omega, by omega⟩, _, _, rfl, rfl, _, rfl, 9001, (i : Int), rfl, rfl, .inl ⟨by decide, by decide⟩, _, _, rfl, rfl, _, 7717, rfl, rfl, ?_⟩
        refine ⟨_, rfl, _, rfl, _, rfl, _, rfl, (i : Int), 8, rfl, rfl, by show (0 : Int) < 8; decide, p, primes, ((i % 8 : Nat) : Int), .int z, rfl, ?_, SqL.of upd_same, atI_nat hz, _, z, rfl, rfl, z1, by show 2 ≤ sizeLine; decide, fun p2 np2 => ?_⟩
        · show V.int ((i : Int) % 8) = _
          rw [Int.natCast_emod]
          rfl
        exact q _ p2 (s1.trans (same_upd np2)) (s1.free np2) ⟨_, _, upd_same, Int.emod_nonneg _ (by omega), Int.lt_of_lt_of_le (Int.emod_lt_of_pos _ z1) z2⟩

/-! stem_of -/
def spStem : Sp := fun vs H Q _ => ∃ l : List Nat, vs = [.str (SX.S l)] ∧ l.length ≤ 1000 ∧ Q (.str (SX.S (stemL l))) H
theorem len1000 {l : List Nat} (h : l.length ≤ 1000) : (SX.S l).length ≤ sizeLine := by
  rw [SX.S_len]
  exact Nat.le_of_lt (small1000 h)
theorem ok_stem {f : Addr} {fd : FuncData} {k : Nat} (F : Fun K "stem_of" "stem_of" sStem f fd) {t : Tok} (gF : mg "FIGURES" = some (.str "23456789" t)) : FnOk P w K mg base CX0 (k + 1) f fd ["text"] spStem := by
  refine F.ok scS (fun vs H Q E h => ?_) (fun cdv A outer s H vs Q E hr h => ?_)
  · obtain ⟨l, rfl, _⟩ := h
    rfl
  · obtain ⟨l, rfl, hl, q⟩ := h
    refine ⟨_, (pss_cons (ps_if (PW.pt (pw_and (pt_truth (pv 0) (fun _ => rfl)) (pw_and1 (pt_cmpR op_in_sign (pe_ix ix_str (pv 0) (pe_un un_neg pe_int) (fun _ _ => rfl)) (pe_glob (v := .str "23456789") rfl gF ⟨_, rfl⟩) (by with_unfolding_all rfl))))) (pss_one (ps_ret (pe_slice C8.sl_txt (pv 0) po_none (po_some (pe_un un_neg pe_int))))) pss_nil)
      (pss_one (ps_ret (pv 0)))), ?_⟩
    have hz := len1000 hl
    rcases List.eq_nil_or_concat l with rfl | ⟨m, c, rfl⟩
    · exact ⟨_, rfl, false, ⟨hz, rfl⟩, iteF (iteF ⟨_, rfl, q⟩)⟩
    · rw [List.concat_eq_append] at q hz ⊢
      rw [stem_snoc] at q
      refine ⟨_, rfl, true, ⟨hz, ?_⟩, iteT ?_⟩
      · rw [SX.S_len, List.length_append]
        simp only [List.length_singleton]
        rw [bne_iff_ne.mpr (by omega)]
      · refine ⟨_, rfl, 1, rfl, SX.S (m ++ [c]), -1, c, rfl, rfl, hz, atI_last _ _, c, _, rfl, rfl, _, rfl, ite2 (fun e => ?_) (fun e => ?_)⟩
        · have e1 : c ∈ figs := by
            have := of_decide_eq_true e
            rw [figs_eq] at this
            exact this
          rw [if_pos e1] at q
          refine ⟨_, rfl, 1, rfl, -1, rfl, SX.S (m ++ [c]), rfl, hz, ?_⟩
          rw [SX.butlast_snoc]
          exact q
        · have e1 : ¬ c ∈ figs := fun z => e (decide_eq_true (by rw [figs_eq]; exact z))
          rw [if_neg e1] at q
          exact ⟨_, rfl, q⟩
/-! is_name -/
/-- things that a name is asked of -/
inductive Thing (H : Hp) : V → Prop
  | str (l : List Nat) : l.length ≤ 1000 → (∀ c ∈ l, c < 16 ^ 8) → Thing H (.str (SX.S l))
  | non : Thing H .non
  | bl (b : Bool) : Thing H (.bl b)
  | int (i : Int) : i.natAbs.log2 < 1920 → Thing H (.int i)
  | lst {a : Addr} {zs : List Str} : H a = some (.lst (zs.map V.str)) → fineAll (zs.map .str) = true → PyData.depthAll (zs.map .str) ≤ 50 → PyData.bulkAll (zs.map .str) ≤ 8000 → Thing H (.ref a)
  | tup {a : Addr} {zs : List Str} : H a = some (.tup (zs.map V.str)) → fineAll (zs.map .str) = true → PyData.depthAll (zs.map .str) ≤ 50 → PyData.bulkAll (zs.map .str) ≤ 8000 → Thing H (.ref a)
theorem shs_str {H : Hp} : ∀ zs : List Str, Shs H (zs.map V.str) (zs.map PyData.str)
  | [] => .nil
  | z :: zs => .cons (.str z) (shs_str zs)
theorem Thing.same {H H' : Hp} (s : Same H H') {v : V} (h : Thing H v) : Thing H' v := by
  cases h with
  | str l h1 h2 => exact .str l h1 h2
  | non => exact .non
  | bl b => exact .bl b
  | int i h => exact .int i h
  | lst e h1 h2 h3 => exact .lst (s _ _ e) h1 h2 h3
  | tup e h1 h2 h3 => exact .tup (s _ _ e) h1 h2 h3
theorem Thing.kp {H H' : Hp} {bg : Addr} {v : V} (h : Thing H v) (k : Kp bg H H') (n : v ≠ .ref bg) : Thing H' v := by
  cases h with
  | str l h1 h2 => exact .str l h1 h2
  | non => exact .non
  | bl b => exact .bl b
  | int i h => exact .int i h
  | lst e h1 h2 h3 => exact .lst (k _ _ (fun z => n (by rw [z])) e) h1 h2 h3
  | tup e h1 h2 h3 => exact .tup (k _ _ (fun z => n (by rw [z])) e) h1 h2 h3
theorem Thing.shown {H : Hp} {v : V} (h : Thing H v) : ∃ d, Sh H v d ∧ fine d = true ∧ d.depth ≤ 60 ∧ d.bulk ≤ 8000 := by
  cases h with
  | str l h1 h2 => exact ⟨_, .str _, by simpa only [fine, List.all_eq_true, decide_eq_true_eq] using h2, by simp only [PyData.depth]; decide, by simp only [PyData.bulk]; simp; omega⟩
  | non => exact ⟨_, .non, rfl, by decide, by decide⟩
  | bl b => exact ⟨_, .bl b, rfl, by simp only [PyData.depth]; decide, by simp only [PyData.bulk]; decide⟩
  | int i h => exact ⟨_, .int i, by simpa only [fine, decide_eq_true_eq] using h, by simp only [PyData.depth]; decide, by simp only [PyData.bulk]; decide⟩
  | lst e h1 h2 h3 => exact ⟨_, .lst e (shs_str _), by simpa only [fine] using h1, by simp only [PyData.depth]; omega, by simpa only [PyData.bulk] using h3⟩
  | tup e h1 h2 h3 => exact ⟨_, .tup e (shs_str _), by simpa only [fine] using h1, by simp only [PyData.depth]; omega, by simpa only [PyData.bulk] using h3⟩
def told : V → Bool
  | .str z => nameL z.cps.toList
  | _ => false
def spIs : Sp := fun vs H Q _ => ∃ v : V, vs = [v] ∧ Thing H v ∧ ∀ H', Same H H' → Q (.bl (told v)) H'
theorem Thing.ty {H : Hp} {v : V} (h : Thing H v) : (∃ l : List Nat, v = .str (SX.S l) ∧ l.length ≤ 1000 ∧ ∀ c ∈ l, c < 16 ^ 8) ∨ (told v = false ∧ ∃ t : String, TyX K H v (.type t) ∧ kitB t "str" = some false) := by
  cases h with
  | str l h1 h2 => exact .inl ⟨l, rfl, h1, h2⟩
  | non => exact .inr ⟨rfl, "NoneType", .base .non, by decide +kernel⟩
  | bl b => exact .inr ⟨rfl, "bool", .base (.bl b), by decide +kernel⟩
  | int i _ => exact .inr ⟨rfl, "int", .base (.int i), by decide +kernel⟩
  | lst e _ _ _ => exact .inr ⟨rfl, "list", .base (.lst e), by decide +kernel⟩
  | tup e _ _ _ => exact .inr ⟨rfl, "tuple", .base (.tup e), by decide +kernel⟩
theorem low_le (c : Nat) : (!decide ((SX.S [c]).cps.toList < (Str.ofString "a").cps.toList)) = decide (97 ≤ c) := by
  have e : (Str.ofString "a").cps.toList = [97] := by decide
  rw [e]
  show (!decide ([c] < [97])) = decide (97 ≤ c)
  by_cases h : 97 ≤ c
  · rw [decide_eq_true h, decide_eq_false]
    · rfl
    · intro z
      have z2 : c < 97 := by simpa [List.cons_lt_cons_iff] using z
      omega
  · rw [decide_eq_false h, decide_eq_true]
    · rfl
    · have z2 : c < 97 := by omega
      simpa [List.cons_lt_cons_iff] using z2
theorem low_ge (c : Nat) : (!decide ((Str.ofString "z").cps.toList < (SX.S [c]).cps.toList)) = decide (c ≤ 122) := by
  have e : (Str.ofString "z").cps.toList = [122] := by decide
  rw [e]
  show (!decide ([122] < [c])) = decide (c ≤ 122)
  by_cases h : c ≤ 122
  · rw [decide_eq_true h, decide_eq_false]
    · rfl
    · intro z
      have z2 : 122 < c := by simpa [List.cons_lt_cons_iff] using z
      omega
  · rw [decide_eq_false h, decide_eq_true]
    · rfl
    · have z2 : 122 < c := by omega
      simpa [List.cons_lt_cons_iff] using z2
theorem ok_is {f f_stem_of : Addr} {fd fd_stem_of : FuncData} {k : Nat} (F : Fun K "is_name" "is_name" sIs f fd) (F_stem_of : Fun K "stem_of" "stem_of" sStem f_stem_of fd_stem_of) (b_stem_of : Binds K fd_stem_of ["text"] []) (g_stem_of : mg "stem_of" = some (.ref f_stem_of))
    {t u : Tok} (gF : mg "FIGURES" = some (.str "23456789" t)) (gM : mg "MOST_LETTERS" = some (.int 8 u)) (m_isinstance : mg "isinstance" = none) (m_str : mg "str" = none) (m_len : mg "len" = none) (m_all : mg "all" = none) : FnOk P w K mg base CX0 2 f fd ["thing"] spIs := by
  have G_stem_of : FnOk P w K mg base CX0 1 f_stem_of fd_stem_of ["text"] spStem := ok_stem F_stem_of gF
  refine F.ok scI (fun vs H Q E h => ?_) (fun cdv A outer s H vs Q E hr h => ?_)
  · obtain ⟨v, rfl, _⟩ := h
    rfl
  · obtain ⟨v, rfl, hT, q⟩ := h
    refine ⟨_, (pss_cons (ps_if (pt_not (pt_val (pe_callB call_isi (by rfl) m_isinstance (by decide +kernel) (pa_cons (pv 0) (pa_cons (pe_bltn (v := .ty "str") (by rfl) m_str (by decide +kernel) rfl) pa_nil))))) (pss_one (ps_ret pe_bl)) pss_nil)
      (pss_cons (ps_set (i := 1) scI.nd rfl (.inl rfl) (pe_call G_stem_of (hr.mono (by decide)) (by rfl) g_stem_of F_stem_of.kp b_stem_of .nil pass0 (pa_cons (pv 0) pa_nil)))
      (pss_one (ps_ret (pe_and (pe_chain op_le op_le pe_int (pe_callB call_len_str (by rfl) m_len PySem.boot_len (pa_cons (pv 1) pa_nil)) (pe_glob (v := .int 8) rfl gM ⟨_, rfl⟩)) (pe_one (pe_callB (cr_all rfl) (by rfl) m_all (by decide +kernel) (pa_cons (pe_lc (own := [("sign", 2)]) rfl scI.nd (pi_str (pv 1)) (blkOk_by (N := ["thing", "stem", "sign"]) (sc := defScope sIs) (by decide +kernel)) (fun _ _ _ _ _ => (pg_name (i := 2) scI.nd rfl (.inl rfl))) (fun _ _ _ _ _ => pts_nil) (fun _ _ _ _ _ => (pe_chain op_le_str op_le_str pe_str (pv 2) pe_str))) pa_nil)))))))), ?_⟩
    rcases hT.ty (K := K) with ⟨l, rfl, h1, h2⟩ | ⟨e, t, h1, h2⟩
    · refine ⟨_, rfl, _, _, _, _, true, rfl, .ty _, .base (.str _), kit_ty (by decide +kernel), true, rfl, iteF ?_⟩
      refine ⟨_, rfl, l, rfl, h1, ?_⟩
      have hz : (SX.S (stemL l)).length ≤ sizeLine := len1000 (Nat.le_trans (stem_le l) h1)
      have qn : ∀ b : Bool, nameL l = b → ∀ H', Same H H' → Q (.bl b) H' := fun b e H' s' => e ▸ q H' s'
      have hn : ((SX.S (stemL l)).length : Int) = ((stemL l).length : Int) := by rw [SX.S_len]
      refine ⟨_, rfl, _, rfl, hz, 1, _, rfl, rfl, _, rfl, ite2 (fun e1 => ?_) (fun e1 => ?_)⟩
      · have e1' : 1 ≤ (stemL l).length := by
          have := of_decide_eq_true e1
          omega
        refine ⟨_, 8, rfl, rfl, _, rfl, ite2 (fun e2 => ?_) (fun e2 => ?_)⟩
        · have e2' : (stemL l).length ≤ 8 := by
            have := of_decide_eq_true e2
            omega
          refine ⟨.str (SX.S (stemL l)), rfl, SX.S (stemL l), rfl, fun D hD => ?_⟩
          refine lc_it walk_str (fun i H' => Same H H' ∧ H' D = some (.lst (((stemL l).take i).map fun c => .bl (low c)))) ⟨same_upd hD, by rw [upd_same]; rfl⟩ (fun _ _ _ _ => trivial) (fun i x H1 H2 hi hP hY => ?_) (fun H1 hP => ?_)
          · obtain ⟨sm, hd⟩ := hP
            obtain ⟨rfl, c, hc, rfl⟩ := hY
            have hc' : (stemL l)[i]? = some c := by simpa using hc
            refine ⟨rfl, _, rfl, _, _, rfl, rfl, _, rfl, ?_⟩
            have go : ∀ b : Bool, b = low c → ∃ acc, H2 D = some (.lst acc) ∧ acc.length < sizeLine ∧ Same H (upd H2 D (.lst (acc ++ [V.bl b]))) ∧ (upd H2 D (.lst (acc ++ [V.bl b]))) D = some (.lst (((stemL l).take (i + 1)).map fun c => .bl (low c))) := by
              rintro b rfl
              refine ⟨_, hd, ?_, ?_, ?_⟩
              · rw [List.length_map, List.length_take]
                exact small1000 (by have := stem_le l; omega)
              · intro a o e
                rw [upd_ne (ne_of_none e hD)]
                exact sm a o e
              · rw [upd_same, List.take_add_one, hc', List.map_append]
                rfl
            rw [low_le]
            refine ite2 (fun e3 => ?_) (fun e3 => ?_)
            · refine ⟨_, _, rfl, rfl, ?_⟩
              rw [low_ge]
              refine go _ ?_
              unfold low
              rw [e3, Bool.true_and]
            · refine go _ ?_
              unfold low
              rw [Bool.not_eq_true _ |>.mp e3, Bool.false_and]
          · obtain ⟨sm, hd⟩ := hP
            have en : (SX.S (stemL l)).cps.size = (stemL l).length := by simp
            rw [en, List.take_length] at hd
            refine ⟨D, (stemL l).map low, rfl, SqL.of (by rw [hd, List.map_map]; rfl), qn _ ?_ _ sm⟩
            unfold nameL
            rw [decide_eq_true e1', decide_eq_true e2', List.all_map]
            rfl
        · refine qn _ ?_ _ (Same.refl _)
          have e2' : ¬ (stemL l).length ≤ 8 := fun z => e2 (decide_eq_true (by omega))
          unfold nameL
          rw [decide_eq_false e2', Bool.and_false, Bool.false_and]
      · refine ⟨_, rfl, ?_⟩
        refine qn _ ?_ _ (Same.refl _)
        have e1' : ¬ 1 ≤ (stemL l).length := fun z => e1 (decide_eq_true (by omega))
        unfold nameL
        rw [decide_eq_false e1', Bool.false_and, Bool.false_and]
    · refine ⟨_, rfl, _, _, _, _, false, rfl, .ty _, h1, kit_ty h2, false, rfl, iteT ?_⟩
      have := q _ (Same.refl _)
      rw [e] at this
      exact this
theorem in_signs (c : Nat) : ∀ l : List Nat, inV (.str ⟨#[c]⟩) (signsV l) = decide (c ∈ l)
  | [] => by simp [inV, signsV]
  | d :: l => by
    have ih := in_signs c l
    unfold inV signsV at ih ⊢
    rw [List.map_cons, List.any_cons, ih]
    have e : eqV (.str ⟨#[d]⟩) (.str ⟨#[c]⟩) = decide (d = c) := by
      show (SX.S [d] == SX.S [c]) = _
      rw [SX.S_beq_eq]
      by_cases h : d = c
      · rw [h, decide_eq_true rfl, decide_eq_true rfl]
      · rw [decide_eq_false h, decide_eq_false (fun z => h (List.cons.inj z).1)]
    rw [e]
    by_cases h : d = c
    · subst h
      rw [decide_eq_true rfl, decide_eq_true (List.mem_cons_self ..)]
      rfl
    · rw [decide_eq_false h, Bool.false_or]
      by_cases h2 : c ∈ l
      · rw [decide_eq_true h2, decide_eq_true (List.mem_cons_of_mem _ h2)]
      · rw [decide_eq_false h2, decide_eq_false (fun z => (List.mem_cons.mp z).elim (fun y => h y.symm) h2)]
def lows : List Nat := [97, 98, 99, 100, 101, 102, 103, 104, 105, 106, 107, 108, 109, 110, 111, 112, 113, 114, 115, 116, 117, 118, 119, 120, 121, 122]
theorem lows_eq : (Str.ofString "abcdefghijklmnopqrstuvwxyz").cps.toList = lows := by decide
theorem lows_low (c : Nat) : decide (c ∈ lows) = low c := by
  unfold low
  by_cases h : 97 ≤ c ∧ c ≤ 122
  · rw [decide_eq_true h.1, decide_eq_true h.2]
    apply decide_eq_true
    obtain ⟨h1, h2⟩ := h
    have : c = 97 + (c - 97) := by omega
    have h3 : c - 97 < 26 := by omega
    generalize c - 97 = d at this h3
    subst this
    have all : ∀ d : Nat, d < 26 → 97 + d ∈ lows := by decide
    exact all d h3
  · have hn : c ∉ lows := by
      intro z
      have all : ∀ d ∈ lows, 97 ≤ d ∧ d ≤ 122 := by decide
      exact h (all c z)
    rw [decide_eq_false hn]
    by_cases h1 : 97 ≤ c
    · rw [decide_eq_true h1, decide_eq_false (fun z => h ⟨h1, z⟩)]
      rfl
    · rw [decide_eq_false h1]
      rfl
/-! _law_good_name -/
theorem ok_good {f : Addr} {fd : FuncData} {k : Nat} (F : Fun K "_law_good_name" "_law_good_name" sGood f fd)
    (m_isinstance : mg "isinstance" = none) (m_str : mg "str" = none) (m_len : mg "len" = none) (m_all : mg "all" = none) (m_list : mg "list" = none) : FnOk P w K mg base CX0 (k + 1) f fd ["_law_one"] spIs := by
  refine F.ok scG (fun vs H Q E h => ?_) (fun cdv A outer s H vs Q E hr h => ?_)
  · obtain ⟨v, rfl, _⟩ := h
    rfl
  · obtain ⟨v, rfl, hT, q⟩ := h
    refine ⟨_, (pss_cons (ps_if (PW.pt (pw_or (pt_not (pt_val (pe_callB call_isi (by rfl) m_isinstance (by decide +kernel) (pa_cons (pv 0) (pa_cons (pe_bltn (v := .ty "str") (by rfl) m_str (by decide +kernel) rfl) pa_nil))))) (pw_or1 (pt_cmpR op_eq (pv 0) pe_str (nomark _))))) (pss_one (ps_ret pe_bl)) pss_nil)
      (pss_cons (ps_set (i := 1) scG.nd rfl (.inl rfl) (pv 0))
      (C8.pss_cut (ps_if (pt_cmpR op_in_seq (pe_ix ix_str (pv 0) (pe_un un_neg pe_int) (fun _ _ => rfl)) (pe_callTy (list_of_str rfl) (by rfl) m_list (by decide +kernel) (pa_cons pe_str pa_nil)) (by with_unfolding_all rfl)) (pss_one (ps_set (i := 1) scG.nd rfl (.inl rfl) (pe_slice C8.sl_txt (pv 0) po_none (po_some (pe_un un_neg pe_int))))) pss_nil)
      (pss_one (ps_ret (pe_and (pe_chain op_le op_le pe_int (pe_callB call_len_str (by rfl) m_len PySem.boot_len (pa_cons (pv 1) pa_nil)) pe_int) (pe_one (pe_callB (cr_all rfl) (by rfl) m_all (by decide +kernel) (pa_cons (pe_lc (own := [("_law_sign", 2)]) rfl scG.nd (pi_str (pv 1)) (blkOk_by (N := ["_law_one", "_law_core", "_law_sign"]) (sc := defScope sGood) (by decide +kernel)) (fun _ _ _ _ _ => (pg_name (i := 2) scG.nd rfl (.inl rfl))) (fun _ _ _ _ _ => pts_nil) (fun _ _ _ _ _ => (pe_cmpR (r := rIn K false) op_in_seq (pv 2) (pe_callTy (list_of_str rfl) (by rfl) m_list (by decide +kernel) (pa_cons pe_str pa_nil)) (by with_unfolding_all rfl)))) pa_nil))))))))), ?_⟩
    rcases hT.ty (K := K) with ⟨l, rfl, h1, h2⟩ | ⟨e, t, h1, h2⟩
    · refine ⟨_, rfl, _, _, _, _, true, rfl, .ty _, .base (.str _), kit_ty (by decide +kernel), true, rfl, iteF ?_⟩
      have qn : ∀ b : Bool, nameL l = b → ∀ H', Same H H' → Q (.bl b) H' := fun b e H' s' => e ▸ q H' s'
      have hz := len1000 h1
      refine ⟨_, rfl, rfl, _, rfl, ite2 (fun e => ?_) (fun e => ?_)⟩
      · have e1 : SX.S l = SX.S [] := V.str.inj (of_decide_eq_true e)
        have e2 := SX.S_inj e1
        subst e2
        exact qn _ rfl _ (Same.refl _)
      · have ne : l ≠ [] := fun z => e (decide_eq_true (by rw [z]; rfl))
        rcases List.eq_nil_or_concat l with rfl | ⟨m, c, rfl⟩
        · exact absurd rfl ne
        rw [List.concat_eq_append] at qn hz h1 h2 ⊢
        refine ⟨_, rfl, fun σ' H' => ∃ y2, σ' = [some (.str (SX.S (m ++ [c]))), some (.str (SX.S (stemL (m ++ [c])))), y2] ∧ Same H H', ?_, ?_⟩
        · refine ⟨_, rfl, 1, rfl, SX.S (m ++ [c]), -1, c, rfl, rfl, hz, atI_last _ _, _, rfl, by decide, fun p np => ?_⟩
          refine ⟨p, _, rfl, .inl (SqL.of upd_same), rfl, by decide, ?_⟩
          show ∃ k, V.bl (inV (.str ⟨#[c]⟩) (signsV (Str.ofString "23456789").cps.toList)) = .bl k ∧ _
          rw [figs_eq, in_signs]
          refine ⟨_, rfl, ite2 (fun e => ?_) (fun e => ?_)⟩
          · refine ⟨_, rfl, 1, rfl, -1, rfl, SX.S (m ++ [c]), rfl, hz, ?_⟩
            rw [SX.butlast_snoc]
            refine ⟨none, ?_, same_upd np⟩
            rw [stem_snoc, if_pos (of_decide_eq_true e)]
            rfl
          · refine ⟨none, ?_, same_upd np⟩
            rw [stem_snoc, if_neg fun z => e (decide_eq_true z)]
            rfl
        · rintro σ' H1 ⟨y2, rfl, sm1⟩
          generalize hL : m ++ [c] = L at *
          have hz : (SX.S (stemL L)).length ≤ sizeLine := len1000 (Nat.le_trans (stem_le L) h1)
          have hn : ((SX.S (stemL L)).length : Int) = ((stemL L).length : Int) := by rw [SX.S_len]
          refine ⟨_, rfl, _, rfl, hz, 1, _, rfl, rfl, _, rfl, ite2 (fun e1 => ?_) (fun e1 => ?_)⟩
          · have e1' : 1 ≤ (stemL L).length := by
              have := of_decide_eq_true e1
              omega
            refine ⟨_, 8, rfl, rfl, _, rfl, ite2 (fun e2 => ?_) (fun e2 => ?_)⟩
            · have e2' : (stemL L).length ≤ 8 := by
                have := of_decide_eq_true e2
                omega
              refine ⟨.str (SX.S (stemL L)), rfl, SX.S (stemL L), rfl, fun D hD => ?_⟩
              refine lc_it walk_str (fun i H' => Same H1 H' ∧ H' D = some (.lst (((stemL L).take i).map fun c => .bl (low c)))) ⟨same_upd hD, by rw [upd_same]; rfl⟩ (fun _ _ _ _ => trivial) (fun i x H2 H3 hi hP hY => ?_) (fun H2 hP => ?_)
              · obtain ⟨sm, hd⟩ := hP
                obtain ⟨rfl, c, hc, rfl⟩ := hY
                have hc' : (stemL L)[i]? = some c := by simpa using hc
                refine ⟨rfl, _, rfl, _, rfl, by decide, fun p np => ?_⟩
                refine ⟨p, _, rfl, .inl (SqL.of upd_same), rfl, by decide, ?_⟩
                show ∃ acc, _ ∧ _ ∧ _ ∧ (upd _ D (.lst (acc ++ [V.bl (inV (.str ⟨#[c]⟩) (signsV (Str.ofString "abcdefghijklmnopqrstuvwxyz").cps.toList))]))) D = _
                rw [lows_eq, in_signs, lows_low]
                have nD : D ≠ p := ne_of_none hd np
                refine ⟨_, by rw [upd_ne nD]; exact hd, ?_, ?_, ?_⟩
                · rw [List.length_map, List.length_take]
                  exact small1000 (by have := stem_le L; omega)
                · intro a o e
                  rw [upd_ne (ne_of_none e hD), upd_ne (ne_of_none (sm a o e) np)]
                  exact sm a o e
                · rw [upd_same, List.take_add_one, hc', List.map_append]
                  rfl
              · obtain ⟨sm, hd⟩ := hP
                have en : (SX.S (stemL L)).cps.size = (stemL L).length := by simp
                rw [en, List.take_length] at hd
                refine ⟨D, (stemL L).map low, rfl, SqL.of (by rw [hd, List.map_map]; rfl), qn _ ?_ _ (sm1.trans sm)⟩
                unfold nameL
                rw [decide_eq_true e1', decide_eq_true e2', List.all_map]
                rfl
            · refine qn _ ?_ _ sm1
              have e2' : ¬ (stemL L).length ≤ 8 := fun z => e2 (decide_eq_true (by omega))
              unfold nameL
              rw [decide_eq_false e2', Bool.and_false, Bool.false_and]
          · refine ⟨_, rfl, ?_⟩
            refine qn _ ?_ _ sm1
            have e1' : ¬ 1 ≤ (stemL L).length := fun z => e1 (decide_eq_true (by omega))
            unfold nameL
            rw [decide_eq_false e1', Bool.false_and, Bool.false_and]
    · refine ⟨_, rfl, _, _, _, _, false, rfl, .ty _, h1, kit_ty h2, false, rfl, iteT (iteT ?_)⟩
      have := q _ (Same.refl _)
      rw [e] at this
      exact this
/-! _law_drawn_name -/
def spDrawn : Sp := fun vs H Q _ => ∃ a : Addr, vs = [.ref a] ∧ Bag H a ∧ ∀ (l : List Nat) (H' : Hp), nameL l = true → l.length ≤ 9 → (∀ c ∈ l, c < 16 ^ 8) → Bag H' a → Kp a H H' → Q (.str (SX.S l)) H'
theorem at_of {α : Type} {xs : List α} {d : Int} (h0 : 0 ≤ d) (h1 : d < xs.length) : ∃ v, atI xs d = some v ∧ v ∈ xs := by
  obtain ⟨n, rfl⟩ := Int.eq_ofNat_of_zero_le h0
  have h2 : n < xs.length := by omega
  exact ⟨xs[n], atI_nat (List.getElem?_eq_getElem h2), List.getElem_mem h2⟩
theorem at_ofn {α : Type} {xs : List α} {d : Int} (n : Nat) (h0 : 0 ≤ d) (h1 : d < (n : Int)) (hn : xs.length = n) : ∃ v, atI xs d = some v ∧ v ∈ xs := at_of h0 (by rw [hn]; exact h1)
theorem joinL_one : ∀ l : List Nat, TL.joinL [] (l.map fun c => [c]) = l
  | [] => rfl
  | [c] => rfl
  | c :: d :: l => by
    have ih := joinL_one (d :: l)
    show [c] ++ ([] ++ TL.joinL [] ((d :: l).map fun c => [c])) = _
    rw [ih]
    rfl
theorem join_one (l : List Nat) : Txt.join (Str.ofString "") (l.map fun c => SX.S [c]) = SX.S l := by
  have e := SX.join_S [] (l.map fun c => [c])
  rw [List.map_map, joinL_one] at e
  exact e
theorem name_drawn {l t : List Nat} (h1 : 1 ≤ l.length) (h8 : l.length ≤ 8) (hl : ∀ c ∈ l, c ∈ lows) (ht : t = [] ∨ ∃ c ∈ figs, t = [c]) : nameL (l ++ t) = true := by
  have e : stemL (l ++ t) = l := by
    rcases ht with rfl | ⟨c, hc, rfl⟩
    · rw [List.append_nil]
      rcases List.eq_nil_or_concat l with rfl | ⟨m, c, rfl⟩
      · rfl
      · rw [List.concat_eq_append] at hl ⊢
        rw [stem_snoc, if_neg]
        have h := hl c (List.mem_append_right _ (List.mem_singleton.mpr rfl))
        intro z
        have all : ∀ d ∈ lows, d ∉ figs := by decide
        exact all c h z
    · rw [stem_snoc, if_pos hc]
  unfold nameL
  rw [e, decide_eq_true h1, decide_eq_true h8, List.all_eq_true.mpr]
  · rfl
  · intro c hc
    rw [← lows_low]
    exact decide_eq_true (hl c hc)
theorem ok_drawn {f f__law_take : Addr} {fd fd__law_take : FuncData} {k : Nat} (F : Fun K "_law_drawn_name" "_law_drawn_name" sDrawn f fd) (F__law_take : Fun K "_law_take" "_law_take" sTake f__law_take fd__law_take) (b__law_take : Binds K fd__law_take ["_law_bag_here", "_law_many"] [])
    (g__law_take : mg "_law_take" = some (.ref f__law_take)) (m_range : mg "range" = none) : FnOk P w K mg base CX0 2 f fd ["_law_bag_here"] spDrawn := by
  have G__law_take : FnOk P w K mg base CX0 1 f__law_take fd__law_take ["_law_bag_here", "_law_many"] spTake := ok_take F__law_take
  refine F.ok scD (fun vs H Q E h => ?_) (fun cdv A outer s H vs Q E hr h => ?_)
  · obtain ⟨v, rfl, _⟩ := h
    rfl
  · obtain ⟨bg, rfl, hb, q⟩ := h
    refine ⟨_, (pss_cons (ps_set (i := 1) scD.nd rfl (.inr rfl) pe_str)
      (pss_cons (ps_set (i := 2) scD.nd rfl (.inl rfl) (pe_bm PySem.F.plainAttrs_str PySem.F.slot_str_join PySem.F.type_str_join mt_join pe_str (pa_cons (pe_lc (own := [("_law_spot", 3)]) rfl scD.nd (pi_range1 rfl m_range (pa_cons (pe_op op_add pe_int (pe_call G__law_take (hr.mono (by decide)) (by rfl) g__law_take F__law_take.kp b__law_take .nil pass0 (pa_cons (pv 0) (pa_cons pe_int pa_nil)))) pa_nil)) (blkOk_by (N := ["_law_bag_here", "_law_letters", "_law_found", "_law_spot"]) (sc := defScope sDrawn) (by decide +kernel)) (fun _ _ _ _ _ => (pg_name (i := 3) scD.nd rfl (.inl rfl))) (fun _ _ _ _ _ => pts_nil) (fun _ _ _ _ _ => (pe_ix ix_str (pv 1) (pe_call G__law_take (hr.mono (by decide)) (by rfl) g__law_take F__law_take.kp b__law_take .nil pass0 (pa_cons (pv 0) (pa_cons pe_int pa_nil))) (fun _ _ => rfl)))) pa_nil)))
      (pss_one (ps_ret (pe_op op_add_str (pv 2) (pe_ix ix_list (pe_lst (pa_cons pe_str (pa_cons (pe_ix ix_str pe_str (pe_call G__law_take (hr.mono (by decide)) (by rfl) g__law_take F__law_take.kp b__law_take .nil pass0 (pa_cons (pv 0) (pa_cons pe_int pa_nil))) (fun _ _ => rfl)) pa_nil))) (pe_call G__law_take (hr.mono (by decide)) (by rfl) g__law_take F__law_take.kp b__law_take .nil pass0 (pa_cons (pv 0) (pa_cons pe_int pa_nil))) (fun _ _ => rfl))))))), ?_⟩
    -- the letters
    refine ⟨rfl, ?_⟩
    refine ⟨_, rfl, bg, 8, rfl, hb, ⟨by decide, by decide⟩, fun d H1 d0 d1 hb1 k1 => ?_⟩
    refine ⟨1, d, rfl, rfl, _, rfl, by omega, by omega, fun D hD => ?_⟩
    have nD : D ≠ bg := hb1.ne hD
    refine lc_it walk_range (fun i H' => ∃ l : List Nat, l.length = i ∧ (∀ c ∈ l, c ∈ lows) ∧ H' D = some (.lst (l.map fun c => .str (SX.S [c]))) ∧ Bag H' bg ∧ Kp bg H H') ⟨[], rfl, (fun _ h => nomatch h), by rw [upd_same]; rfl, hb1.new hD, k1.trans (Kp.new hD)⟩ (fun _ _ _ _ => trivial) (fun i x H2 H3 hi hP hY => ?_) (fun H2 hP => ?_)
    · obtain ⟨l, hl, hm, hd, hb2, k2⟩ := hP
      obtain ⟨rfl, rfl⟩ := hY
      refine ⟨rfl, _, rfl, _, rfl, bg, 26, rfl, hb2, ⟨by decide, by decide⟩, fun e H4 e0 e1 hb4 k4 => ?_⟩
      obtain ⟨c, hc, hcm⟩ := at_of (xs := (Str.ofString "abcdefghijklmnopqrstuvwxyz").cps.toList) e0 (by rw [lows_eq]; exact e1)
      refine ⟨_, e, c, rfl, rfl, by decide, hc, _, k4 _ _ nD hd, ?_, l ++ [c], ?_, ?_, ?_, ?_, ?_⟩
      · rw [List.length_map, hl]
        exact small1000 (by omega)
      · rw [List.length_append, hl]
        rfl
      · intro x hx
        rcases List.mem_append.mp hx with h | h
        · exact hm x h
        · rw [List.mem_singleton.mp h, ← lows_eq]
          exact hcm
      · rw [upd_same, List.map_append]
        rfl
      · exact hb4.upd nD
      · refine (k2.trans k4).put ?_
        exact k1.free hb1 hD
    · obtain ⟨l, hl, hm, hd, hb2, k2⟩ := hP
      have h1 : 1 ≤ l.length := by omega
      have h8 : l.length ≤ 8 := by omega
      refine ⟨_, D, l.map fun c => SX.S [c], rfl, rfl, .inl (SqL.of (by rw [hd, List.map_map]; rfl)), ?_, ?_⟩
      · have e0 : (Str.ofString "").length = 0 := rfl
        rw [e0, Nat.mul_zero, Nat.add_zero, List.map_map]
        have : ∀ m : List Nat, (m.map ((fun x : Str => x.length) ∘ fun c => SX.S [c])).sum = m.length := by
          intro m
          induction m with
          | nil => rfl
          | cons c m ih =>
            rw [List.map_cons, List.sum_cons, ih, List.length_cons]
            show 1 + m.length = m.length + 1
            omega
        rw [this]
        omega
      rw [join_one]
      -- the figure
      refine ⟨_, rfl, _, rfl, bg, 8, rfl, hb2, ⟨by decide, by decide⟩, fun e H3 e0 e1 hb3 k3 => ?_⟩
      obtain ⟨c, hc, hcm⟩ := at_of (xs := (Str.ofString "23456789").cps.toList) e0 (by rw [figs_eq]; exact e1)
      refine ⟨_, e, c, rfl, rfl, by decide, hc, by show 2 ≤ sizeLine; decide, fun p np => ?_⟩
      refine ⟨_, rfl, bg, 2, rfl, hb3.new np, ⟨by decide, by decide⟩, fun g H4 g0 g1 hb4 k4 => ?_⟩
      have np' : p ≠ bg := hb3.ne np
      have kk : Kp bg H H4 := ((k2.trans k3).trans (Kp.new np)).trans k4
      have fin : ∀ t : List Nat, (t = [] ∨ ∃ c ∈ figs, t = [c]) → (SX.S l).length + (SX.S t).length ≤ sizeLine ∧ Q (.str (SX.S l ++ SX.S t)) H4 := by
        intro t ht
        have lt : t.length ≤ 1 := by
          rcases ht with rfl | ⟨c, _, rfl⟩
          · exact Nat.zero_le _
          · exact Nat.le_refl _
        refine ⟨?_, ?_⟩
        · rw [SX.S_len, SX.S_len]
          exact Nat.le_of_lt (small1000 (by omega))
        · rw [SX.S_cat]
          refine q _ _ (name_drawn h1 h8 hm ht) (by rw [List.length_append]; omega) ?_ hb4 kk
          intro x hx
          have a1 : ∀ d ∈ lows, d < 16 ^ 8 := by decide
          have a2 : ∀ d ∈ figs, d < 16 ^ 8 := by decide
          rcases List.mem_append.mp hx with h | h
          · exact a1 x (hm x h)
          · rcases ht with rfl | ⟨c, hc, rfl⟩
            · exact nomatch h
            · rw [List.mem_singleton.mp h]
              exact a2 c hc
      rw [figs_eq] at hcm
      obtain rfl | rfl : g = 0 ∨ g = 1 := by omega
      · obtain ⟨z1, z2⟩ := fin [] (.inl rfl)
        exact ⟨p, _, 0, .str (SX.S []), rfl, rfl, SqL.of (k4 _ _ np' upd_same), rfl, _, _, rfl, rfl, z1, z2⟩
      · obtain ⟨z1, z2⟩ := fin [c] (.inr ⟨c, hcm, rfl⟩)
        exact ⟨p, _, 1, .str (SX.S [c]), rfl, rfl, SqL.of (k4 _ _ np' upd_same), rfl, _, _, rfl, rfl, z1, z2⟩
/-! _law_odd_name -/
structure Ok (n : Nat) (z : Str) : Prop where
  len : z.length ≤ n
  mem : ∀ c ∈ z.cps.toList, c < 16 ^ 8
theorem Ok.app {n m : Nat} {x y : Str} (a : Ok n x) (b : Ok m y) : Ok (n + m) (x ++ y) := by
  constructor
  · rw [strLen_append]
    exact Nat.add_le_add a.len b.len
  · intro c hc
    rw [show (x ++ y).cps.toList = x.cps.toList ++ y.cps.toList from TL.tl_append x y] at hc
    rcases List.mem_append.mp hc with h | h
    · exact a.mem c h
    · exact b.mem c h
theorem Ok.cut {n : Nat} {z : Str} (a : Ok n z) (lo hi : Option Int) : Ok n (cutS z lo hi) := by
  constructor
  · exact Nat.le_trans (cutS_length z lo hi) a.len
  · intro c hc
    exact a.mem c (List.mem_of_mem_drop (List.mem_of_mem_take hc))
theorem Ok.size {n : Nat} {z : Str} (a : Ok n z) (h : n ≤ 1000 := by decide) : z.length ≤ sizeLine := Nat.le_of_lt (small1000 (Nat.le_trans a.len h))
theorem Ok.two {n m : Nat} {x y : Str} (a : Ok n x) (b : Ok m y) (h : n + m ≤ 1000 := by decide) : x.length + y.length ≤ sizeLine := Nat.le_of_lt (small1000 (Nat.le_trans (Nat.add_le_add a.len b.len) h))
theorem Ok.thing {n : Nat} {z : Str} {H : Hp} (a : Ok n z) (h : n ≤ 1000 := by decide) : Thing H (.str z) := by
  rw [← SX.S_tl z]
  refine .str _ ?_ a.mem
  have := a.len
  rw [Array.length_toList]
  exact Nat.le_trans this h
theorem Ok.rev {n : Nat} {y z : Str} (a : Ok n z) (h1 : y.length ≤ z.length) (h2 : ∀ c ∈ y.cps.toList, c ∈ z.cps.toList) : Ok n y := ⟨Nat.le_trans h1 a.len, fun c hc => a.mem c (h2 c hc)⟩
theorem Ok.fine {n : Nat} {z : Str} (a : Ok n z) : fine (.str z) = true := by
  simp only [Gd.fine, List.all_eq_true, decide_eq_true_eq]
  exact a.mem
def okB (n : Nat) (z : Str) : Bool := decide (z.length ≤ n) && z.cps.toList.all fun c => decide (c < 16 ^ 8)
theorem Ok.of {n : Nat} {z : Str} (h : okB n z = true) : Ok n z := by
  simp only [okB, Bool.and_eq_true, decide_eq_true_eq, List.all_eq_true] at h
  exact ⟨h.1, h.2⟩
def spOdd : Sp := fun vs H Q _ => ∃ (a : Addr) (z : Str), vs = [.ref a, .str z] ∧ Bag H a ∧ Ok 9 z ∧ ∀ (v : V) (H' : Hp), Thing H' v → v ≠ .ref a → Bag H' a → Kp a H H' → Q v H'
theorem signs_ok : ∀ c ∈ (Str.ofString "abz0123456789 AZ-_.,").cps.toList, c < 16 ^ 8 := by decide
theorem ok_odd {f f__law_take : Addr} {fd fd__law_take : FuncData} {k : Nat} (F : Fun K "_law_odd_name" "_law_odd_name" sOdd f fd) (F__law_take : Fun K "_law_take" "_law_take" sTake f__law_take fd__law_take) (b__law_take : Binds K fd__law_take ["_law_bag_here", "_law_many"] [])
    (g__law_take : mg "_law_take" = some (.ref f__law_take)) (m_len : mg "len" = none) : FnOk P w K mg base CX0 2 f fd ["_law_bag_here", "_law_name"] spOdd := by
  have G__law_take : FnOk P w K mg base CX0 1 f__law_take fd__law_take ["_law_bag_here", "_law_many"] spTake := ok_take F__law_take
  refine F.ok scO (fun vs H Q E h => ?_) (fun cdv A outer s H vs Q E hr h => ?_)
  · obtain ⟨a, z, rfl, _⟩ := h
    rfl
  · obtain ⟨bg, z, rfl, hb, oz, q⟩ := h
    refine ⟨_, (pss_cons (ps_set (i := 2) scO.nd rfl (.inl rfl) pe_str)
      (pss_cons (ps_par (i := 3) (j := 4) rfl scO.nd rfl rfl (by decide) rfl rfl (pa_cons (pe_ix ix_str (pv 2) (pe_call G__law_take (hr.mono (by decide)) (by rfl) g__law_take F__law_take.kp b__law_take .nil pass0 (pa_cons (pv 0) (pa_cons pe_int pa_nil))) (fun _ _ => rfl)) (pa_cons (pe_call G__law_take (hr.mono (by decide)) (by rfl) g__law_take F__law_take.kp b__law_take .nil pass0 (pa_cons (pv 0) (pa_cons (pe_op op_add (pe_callB call_len_str (by rfl) m_len PySem.boot_len (pa_cons (pv 1) pa_nil)) pe_int) pa_nil))) pa_nil)) rfl)
      (pss_cons (ps_set (i := 5) scO.nd rfl (.inl rfl) (pe_lst (pa_cons (pe_op op_add_str (pe_op op_add_str (pe_slice sl_str (pv 1) po_none (po_some (pv 4))) (pv 3)) (pe_slice sl_str (pv 1) (po_some (pv 4)) po_none)) (pa_cons (pe_op op_add_str (pe_slice sl_str (pv 1) po_none (po_some (pv 4))) (pe_slice sl_str (pv 1) (po_some (pe_op op_add (pv 4) pe_int)) po_none)) (pa_cons (pe_op op_add_str (pe_op op_add_str (pe_slice sl_str (pv 1) po_none (po_some (pv 4))) (pv 3)) (pe_slice sl_str (pv 1) (po_some (pe_op op_add (pv 4) pe_int)) po_none)) pa_nil)))))
      (pss_cons (ps_expr (pe_bm PySem.F.plainAttrs_list PySem.F.slot_list_append PySem.F.type_list_append mt_append (pv 5) (pa_cons (pe_op op_add_str (pe_op op_add_str (pe_slice sl_str (pv 1) po_none (po_some (pv 4))) (pe_revS (pe_slice sl_str (pv 1) (po_some (pv 4)) (po_some (pe_op op_add (pv 4) pe_int))))) (pe_slice sl_str (pv 1) (po_some (pe_op op_add (pv 4) pe_int)) po_none)) pa_nil)))
      (pss_cons (ps_set (i := 5) scO.nd rfl (.inl rfl) (pe_op op_cat (pv 5) (pe_lst (pa_cons (pe_op op_add_str (pv 1) (pv 1)) (pa_cons (pe_op op_add_str (pv 1) (pv 3)) (pa_cons (pe_op op_add_str (pv 3) (pv 1)) pa_nil))))))
      (pss_cons (ps_set (i := 5) scO.nd rfl (.inl rfl) (pe_op op_cat (pv 5) (pe_lst (pa_cons pe_non (pa_cons pe_bl (pa_cons pe_int (pa_cons pe_int (pa_cons (pe_op op_pow pe_int pe_int) (pa_cons pe_str (pa_cons pe_str (pa_cons pe_str (pa_cons pe_str (pa_cons pe_str (pa_cons pe_str (pa_cons pe_str (pa_cons pe_str (pa_cons pe_str pa_nil)))))))))))))))))
      (pss_one (ps_ret (pe_ix ix_list (pe_op op_cat (pv 5) (pe_lst (pa_cons pe_str (pa_cons (pe_tup (pa_cons (pv 1) pa_nil)) (pa_cons (pe_lst (pa_cons (pv 1) pa_nil)) (pa_cons (pe_lst pa_nil) (pa_cons (pe_tup (pa_cons pe_str (pa_cons pe_str pa_nil))) pa_nil))))))) (pe_call G__law_take (hr.mono (by decide)) (by rfl) g__law_take F__law_take.kp b__law_take .nil pass0 (pa_cons (pv 0) (pa_cons pe_int pa_nil))) (fun _ _ => rfl)))))))))), ?_⟩
    -- sign, spot
    refine ⟨_, rfl, _, rfl, bg, 20, rfl, hb, ⟨by decide, by decide⟩, fun d H1 d0 d1 hb1 k1 => ?_⟩
    obtain ⟨c, hc, hcm⟩ := at_of (xs := (Str.ofString "abz0123456789 AZ-_.,").cps.toList) d0 (by rw [show (Str.ofString "abz0123456789 AZ-_.,").cps.toList.length = 20 by decide]; exact d1)
    have oc : Ok 1 ⟨#[c]⟩ := ⟨Nat.le_refl _, fun x hx => by
      rw [List.mem_singleton.mp (show x ∈ [c] from hx)]
      exact signs_ok c hcm⟩
    have zl := oz.len
    refine ⟨_, d, c, rfl, rfl, by decide, hc, _, rfl, _, rfl, z, rfl, oz.size, _, 1, rfl, rfl, bg, _, rfl, hb1, ⟨by omega, by omega⟩, fun sp H2 sp0 sp1 hb2 k2 => ⟨_, _, rfl, ?_⟩⟩
    have o1 := oz.cut none (some sp)
    have o2 := oz.cut (some sp) none
    have o3 := oz.cut (some (sp + 1)) none
    have o4 := oz.cut (some sp) (some (sp + 2))
    have o5 := oz.cut (some (sp + 2)) none
    -- the first three
    refine ⟨_, rfl, _, rfl, sp, rfl, z, rfl, oz.size, _, rfl, _, _, rfl, rfl, o1.two oc, _, rfl, _, rfl, sp, rfl, z, rfl, oz.size, _, _, rfl, rfl, (o1.app oc).two o2, ?_⟩
    refine ⟨_, rfl, _, rfl, sp, rfl, z, rfl, oz.size, _, rfl, _, rfl, _, 1, rfl, rfl, _, rfl, z, rfl, oz.size, _, _, rfl, rfl, o1.two o3, ?_⟩
    refine ⟨_, rfl, _, rfl, sp, rfl, z, rfl, oz.size, _, rfl, _, _, rfl, rfl, o1.two oc, _, rfl, _, rfl, _, 1, rfl, rfl, _, rfl, z, rfl, oz.size, _, _, rfl, rfl, (o1.app oc).two o3, ?_⟩
    refine ⟨by show 3 ≤ sizeLine; decide, fun l1 n1 => ?_⟩
    have nb1 : l1 ≠ bg := hb2.ne n1
    -- append
    refine ⟨.ref l1, rfl, .inl ⟨rfl, _, SqL.of upd_same⟩, ?_⟩
    refine ⟨_, rfl, _, rfl, sp, rfl, z, rfl, oz.size, _, rfl, _, rfl, sp, rfl, _, rfl, _, 2, rfl, rfl, _, rfl, z, rfl, oz.size, _, rfl, o4.size, fun y y1 y2 => ?_⟩
    have o6 := o4.rev y1 y2
    refine ⟨_, _, rfl, rfl, o1.two o6, _, rfl, _, rfl, _, 2, rfl, rfl, _, rfl, z, rfl, oz.size, _, _, rfl, rfl, (o1.app o6).two o5, ?_⟩
    refine ⟨l1, _, _, rfl, rfl, upd_same, by show 3 < sizeLine; decide, ?_⟩
    have kA := ((k1.trans k2).trans (Kp.new (a := bg) n1 (o := .lst [.str (cutS z none (some sp) ++ ⟨#[c]⟩ ++ cutS z (some sp) none), .str (cutS z none (some sp) ++ cutS z (some (sp + 1)) none), .str (cutS z none (some sp) ++ ⟨#[c]⟩ ++ cutS z (some (sp + 1)) none)]))).put
      (o := .lst ([.str (cutS z none (some sp) ++ ⟨#[c]⟩ ++ cutS z (some sp) none), .str (cutS z none (some sp) ++ cutS z (some (sp + 1)) none), .str (cutS z none (some sp) ++ ⟨#[c]⟩ ++ cutS z (some (sp + 1)) none)] ++ [.str (cutS z none (some sp) ++ y ++ cutS z (some (sp + 2)) none)]))
      ((k1.trans k2).free hb2 n1)
    have hbA := (hb2.new n1 (o := .lst [.str (cutS z none (some sp) ++ ⟨#[c]⟩ ++ cutS z (some sp) none), .str (cutS z none (some sp) ++ cutS z (some (sp + 1)) none), .str (cutS z none (some sp) ++ ⟨#[c]⟩ ++ cutS z (some (sp + 1)) none)])).upd nb1
      (o := .lst ([.str (cutS z none (some sp) ++ ⟨#[c]⟩ ++ cutS z (some sp) none), .str (cutS z none (some sp) ++ cutS z (some (sp + 1)) none), .str (cutS z none (some sp) ++ ⟨#[c]⟩ ++ cutS z (some (sp + 1)) none)] ++ [.str (cutS z none (some sp) ++ y ++ cutS z (some (sp + 2)) none)]))
    have eA : _ = some _ := upd_same (H := upd H2 l1 (.lst [.str (cutS z none (some sp) ++ ⟨#[c]⟩ ++ cutS z (some sp) none), .str (cutS z none (some sp) ++ cutS z (some (sp + 1)) none), .str (cutS z none (some sp) ++ ⟨#[c]⟩ ++ cutS z (some (sp + 1)) none)])) (a := l1)
      (o := .lst ([.str (cutS z none (some sp) ++ ⟨#[c]⟩ ++ cutS z (some sp) none), .str (cutS z none (some sp) ++ cutS z (some (sp + 1)) none), .str (cutS z none (some sp) ++ ⟨#[c]⟩ ++ cutS z (some (sp + 1)) none)] ++ [.str (cutS z none (some sp) ++ y ++ cutS z (some (sp + 2)) none)]))
    generalize upd (upd H2 l1 _) l1 _ = Ha at kA hbA eA ⊢
    -- seven
    refine ⟨_, rfl, _, rfl, _, rfl, _, _, rfl, rfl, oz.two oz, _, rfl, _, rfl, _, _, rfl, rfl, oz.two oc, _, rfl, _, rfl, _, _, rfl, rfl, oc.two oz, by show 3 ≤ sizeLine; decide, fun l2 n2 => ?_⟩
    generalize e2 : upd Ha l2 _ = Hb
    obtain ⟨s2, f2⟩ := fresh n2 e2
    refine ⟨l1, l2, _, _, rfl, rfl, s2 _ _ eA, f2, by show 7 ≤ sizeLine; decide, fun p1 np1 => ?_⟩
    generalize e3 : upd Hb p1 _ = Hc
    obtain ⟨s3, f3⟩ := fresh np1 e3
    -- twenty-one
    refine ⟨_, rfl, 10, 30, rfl, rfl, ⟨by decide, by decide, by decide⟩, by show 14 ≤ sizeLine; decide, fun l3 n3 => ?_⟩
    generalize e4 : upd Hc l3 _ = Hd
    obtain ⟨s4, f4⟩ := fresh n3 e4
    refine ⟨p1, l3, _, _, rfl, rfl, s4 _ _ f3, f4, by show 21 ≤ sizeLine; decide, fun p2 np2 => ?_⟩
    generalize e5 : upd Hd p2 _ = He
    obtain ⟨s5, f5⟩ := fresh np2 e5
    -- twenty-six
    refine ⟨_, rfl, _, rfl, by show 1 ≤ sizeLine; decide, fun t1 nt1 => ?_⟩
    generalize e6 : upd He t1 _ = Hf
    obtain ⟨s6, f6⟩ := fresh nt1 e6
    refine ⟨_, rfl, by show 1 ≤ sizeLine; decide, fun t2 nt2 => ?_⟩
    generalize e7 : upd Hf t2 _ = Hg
    obtain ⟨s7, f7⟩ := fresh nt2 e7
    refine ⟨Nat.zero_le _, fun t3 nt3 => ?_⟩
    generalize e8 : upd Hg t3 _ = Hh
    obtain ⟨s8, f8⟩ := fresh nt3 e8
    refine ⟨by show 2 ≤ sizeLine; decide, fun t4 nt4 => ?_⟩
    generalize e9 : upd Hh t4 _ = Hi
    obtain ⟨s9, f9⟩ := fresh nt4 e9
    refine ⟨by show 5 ≤ sizeLine; decide, fun l4 n4 => ?_⟩
    generalize e10 : upd Hi l4 _ = Hj
    obtain ⟨s10, f10⟩ := fresh n4 e10
    have s610 : Same He Hj := s6.trans (s7.trans (s8.trans (s9.trans s10)))
    refine ⟨p2, l4, _, _, rfl, rfl, s610 _ _ f5, f10, by show 26 ≤ sizeLine; decide, fun p3 n5 => ?_⟩
    generalize e11 : upd Hj p3 _ = Hk
    obtain ⟨s11, f11⟩ := fresh n5 e11
    have sAk : Same Ha Hk := s2.trans (s3.trans (s4.trans (s5.trans (s610.trans s11))))
    have hbk : Bag Hk bg := by
      obtain ⟨g, m, e, r⟩ := hbA
      exact ⟨g, m, sAk _ _ e, r⟩
    refine ⟨_, rfl, bg, 26, rfl, hbk, ⟨by decide, by decide⟩, fun g H9 g0 g1 hb9 k9 => ?_⟩
    obtain ⟨bo, hbo⟩ := hbA.some
    have free_ne : ∀ {h : Hp} {t : Addr}, Same Ha h → h t = none → t ≠ bg := fun sm n => (ne_of_none (sm _ _ hbo) n).symm
    have sAe : Same Ha He := s2.trans (s3.trans (s4.trans s5))
    have r1 : H9 t1 = some (.tup [.str z]) := k9 _ _ (free_ne sAe nt1) (s11 _ _ (s10 _ _ (s9 _ _ (s8 _ _ (s7 _ _ f6)))))
    have r2 : H9 t2 = some (.lst [.str z]) := k9 _ _ (free_ne (sAe.trans s6) nt2) (s11 _ _ (s10 _ _ (s9 _ _ (s8 _ _ f7))))
    have r3 : H9 t3 = some (.lst []) := k9 _ _ (free_ne (sAe.trans (s6.trans s7)) nt3) (s11 _ _ (s10 _ _ (s9 _ _ f8)))
    have r4 : H9 t4 = some (.tup [.str "a", .str "2"]) := k9 _ _ (free_ne (sAe.trans (s6.trans (s7.trans s8))) nt4) (s11 _ _ (s10 _ _ f9))
    have r5 := k9 _ _ (free_ne (sAe.trans s610) n5) f11
    have kk : Kp bg H H9 := (kA.trans (Same.kp sAk)).trans k9
    have g1' : g < ((26 : Nat) : Int) := g1
    obtain ⟨v, hv, hvm⟩ := at_ofn (xs := ((([V.str (cutS z none (some sp) ++ ⟨#[c]⟩ ++ cutS z (some sp) none), .str (cutS z none (some sp) ++ cutS z (some (sp + 1)) none), .str (cutS z none (some sp) ++ ⟨#[c]⟩ ++ cutS z (some (sp + 1)) none)] ++ [.str (cutS z none (some sp) ++ y ++ cutS z (some (sp + 2)) none)]) ++
      [.str (z ++ z), .str (z ++ ⟨#[c]⟩), .str (⟨#[c]⟩ ++ z)]) ++ [.non, .bl true, .int 0, .int 7, .int (10 ^ 30), .str "", .str "2", .str "9", .str "a0", .str "a1", .str "a10", .str "abcdefghi", .str "abcdefgh2", .str "abcdefghi2"]) ++ [.str "a2b", .ref t1, .ref t2, .ref t3, .ref t4]) 26 g0 g1' rfl
    have zf := oz.fine
    have all : ∀ v, v ∈ ((([V.str (cutS z none (some sp) ++ ⟨#[c]⟩ ++ cutS z (some sp) none), .str (cutS z none (some sp) ++ cutS z (some (sp + 1)) none), .str (cutS z none (some sp) ++ ⟨#[c]⟩ ++ cutS z (some (sp + 1)) none)] ++ [.str (cutS z none (some sp) ++ y ++ cutS z (some (sp + 2)) none)]) ++
      [.str (z ++ z), .str (z ++ ⟨#[c]⟩), .str (⟨#[c]⟩ ++ z)]) ++ [.non, .bl true, .int 0, .int 7, .int (10 ^ 30), .str "", .str "2", .str "9", .str "a0", .str "a1", .str "a10", .str "abcdefghi", .str "abcdefgh2", .str "abcdefghi2"]) ++ [.str "a2b", .ref t1, .ref t2, .ref t3, .ref t4] → Thing H9 v ∧ v ≠ .ref bg := by
      simp only [List.forall_mem_append, List.forall_mem_cons]
      have str : ∀ {z : Str}, Thing H9 (.str z) → Thing H9 (.str z) ∧ V.str z ≠ .ref bg := fun h => ⟨h, fun e => nomatch e⟩
      have con : ∀ {z : Str}, okB 100 z = true → Thing H9 (.str z) ∧ V.str z ≠ .ref bg := fun h => ⟨(Ok.of h).thing, fun e => nomatch e⟩
      have m1 : t1 ≠ bg := free_ne sAe nt1
      have m2 : t2 ≠ bg := free_ne (sAe.trans s6) nt2
      have m3 : t3 ≠ bg := free_ne (sAe.trans (s6.trans s7)) nt3
      have m4 : t4 ≠ bg := free_ne (sAe.trans (s6.trans (s7.trans s8))) nt4
      have fz : fineAll ([z].map PyData.str) = true := by simp only [List.map_cons, List.map_nil, fineAll, zf, Bool.and_true]
      have dz : PyData.depthAll ([z].map PyData.str) ≤ 50 := by
        simp only [List.map_cons, List.map_nil, PyData.depthAll, PyData.depth]
        decide
      have bz : PyData.bulkAll ([z].map PyData.str) ≤ 8000 := by
        simp only [List.map_cons, List.map_nil, PyData.bulkAll, PyData.bulk]
        have : z.cps.size ≤ 9 := oz.len
        omega
      exact ⟨⟨⟨⟨⟨str ((o1.app oc).app o2).thing, str (o1.app o3).thing, str ((o1.app oc).app o3).thing, (fun _ h => nomatch h)⟩, str ((o1.app o6).app o5).thing, (fun _ h => nomatch h)⟩, str (oz.app oz).thing, str (oz.app oc).thing, str (oc.app oz).thing, (fun _ h => nomatch h)⟩,
        ⟨.non, fun e => nomatch e⟩, ⟨.bl _, fun e => nomatch e⟩, ⟨.int _ (by decide), fun e => nomatch e⟩, ⟨.int _ (by decide), fun e => nomatch e⟩, ⟨.int _ (by decide +kernel), fun e => nomatch e⟩, con (by decide), con (by decide), con (by decide), con (by decide), con (by decide), con (by decide), con (by decide), con (by decide), con (by decide), (fun _ h => nomatch h)⟩,
        con (by decide), ⟨.tup (zs := [z]) r1 fz dz bz, fun e => m1 (V.ref.inj e)⟩, ⟨.lst (zs := [z]) r2 fz dz bz, fun e => m2 (V.ref.inj e)⟩, ⟨.lst (zs := []) r3 rfl (by decide) (by decide), fun e => m3 (V.ref.inj e)⟩, ⟨.tup (zs := ["a", "2"]) r4 (by decide) (by decide) (by decide), fun e => m4 (V.ref.inj e)⟩, (fun _ h => nomatch h)⟩
    refine ⟨p3, _, g, v, rfl, rfl, SqL.of r5, hv, q v H9 (all v hvm).1 (all v hvm).2 hb9 kk⟩
/-! the law -/
def oneW : List Value → List Value → List Value
  | _, [a] => [a]
  | _, _ => []
def oneV : List V → List V → List V
  | _, [a] => [a]
  | _, _ => []
theorem one_rel {vs : List V} {us : List Value} : ∀ {zs : List V} {ws : List Value}, Vals vs us → Vals zs ws → Vals (oneV vs zs) (oneW us ws)
  | _, _, _, .nil => .nil
  | _, _, _, .cons a .nil => .cons a .nil
  | _, _, _, .cons _ (.cons _ _) => .nil
def spLaw (K : PySem.W.Frag) : Sp := fun vs H Q _ => ∃ (a : Addr) (ns : List Int), vs = [.ref a] ∧ SqL K H a (ns.map V.int) ∧ ns.length ≤ 63 ∧ ∀ H', Q (.bl true) H'
theorem ok_law {f f_stem_of f_is_name f__law_good_name f__law_take f__law_drawn_name f__law_odd_name f__law_bag : Addr} {fd fd_stem_of fd_is_name fd__law_good_name fd__law_take fd__law_drawn_name fd__law_odd_name fd__law_bag : FuncData}
    (F : Fun K "law" "law" sLaw f fd) (F_stem_of : Fun K "stem_of" "stem_of" sStem f_stem_of fd_stem_of) (F_is_name : Fun K "is_name" "is_name" sIs f_is_name fd_is_name) (F__law_good_name : Fun K "_law_good_name" "_law_good_name" sGood f__law_good_name fd__law_good_name)
    (F__law_take : Fun K "_law_take" "_law_take" sTake f__law_take fd__law_take) (F__law_drawn_name : Fun K "_law_drawn_name" "_law_drawn_name" sDrawn f__law_drawn_name fd__law_drawn_name) (F__law_odd_name : Fun K "_law_odd_name" "_law_odd_name" sOdd f__law_odd_name fd__law_odd_name)
    (F__law_bag : Fun K "_law_bag" "_law_bag" sBag f__law_bag fd__law_bag)
    (b_stem_of : Binds K fd_stem_of ["text"] []) (b_is_name : Binds K fd_is_name ["thing"] []) (k_is_name : KBn K fd_is_name ["thing"] 0 ["thing"] oneW oneV) (b__law_good_name : Binds K fd__law_good_name ["_law_one"] []) (b__law_take : Binds K fd__law_take ["_law_bag_here", "_law_many"] [])
    (b__law_drawn_name : Binds K fd__law_drawn_name ["_law_bag_here"] []) (b__law_odd_name : Binds K fd__law_odd_name ["_law_bag_here", "_law_name"] []) (b__law_bag : Binds K fd__law_bag ["_law_script", "_law_at"] [])
    (g_stem_of : mg "stem_of" = some (.ref f_stem_of)) (g_is_name : mg "is_name" = some (.ref f_is_name)) (g__law_good_name : mg "_law_good_name" = some (.ref f__law_good_name)) (g__law_take : mg "_law_take" = some (.ref f__law_take))
    (g__law_drawn_name : mg "_law_drawn_name" = some (.ref f__law_drawn_name)) (g__law_odd_name : mg "_law_odd_name" = some (.ref f__law_odd_name)) (g__law_bag : mg "_law_bag" = some (.ref f__law_bag))
    (m_len : mg "len" = none) (m_abs : mg "abs" = none) (m_range : mg "range" = none) (m_max : mg "max" = none) (m_min : mg "min" = none) (m_repr : mg "repr" = none) (m_isinstance : mg "isinstance" = none) (m_bool : mg "bool" = none) (m_str : mg "str" = none) (m_all : mg "all" = none) (m_list : mg "list" = none)
    {t u : Tok} (gF : mg "FIGURES" = some (.str "23456789" t)) (gM : mg "MOST_LETTERS" = some (.int 8 u)) : FnG P w K mg base CX0 3 f fd ["_law_script"] (spLaw K) := by
  have G_is_name : FnOk P w K mg base CX0 2 f_is_name fd_is_name ["thing"] spIs := ok_is (k := 0) F_is_name F_stem_of b_stem_of g_stem_of gF gM m_isinstance m_str m_len m_all
  have G__law_good_name : FnOk P w K mg base CX0 1 f__law_good_name fd__law_good_name ["_law_one"] spIs := ok_good F__law_good_name m_isinstance m_str m_len m_all m_list
  have G__law_drawn_name : FnOk P w K mg base CX0 2 f__law_drawn_name fd__law_drawn_name ["_law_bag_here"] spDrawn := ok_drawn (k := 0) F__law_drawn_name F__law_take b__law_take g__law_take m_range
  have G__law_odd_name : FnOk P w K mg base CX0 2 f__law_odd_name fd__law_odd_name ["_law_bag_here", "_law_name"] spOdd := ok_odd (k := 0) F__law_odd_name F__law_take b__law_take g__law_take m_len
  have G__law_bag : FnOk P w K mg base CX0 1 f__law_bag fd__law_bag ["_law_script", "_law_at"] (spBag K) := ok_bag F__law_bag m_len m_abs
  refine fnG0 F scL (fun vs H Q E h => ?_) (fun cdv A outer s H vs Q E gd hr h => ?_)
  · obtain ⟨a, ns, rfl, _⟩ := h
    rfl
  · obtain ⟨a, ns, rfl, hS, hlen, q⟩ := h
    refine ⟨_, (pss_cons (ps_for PassesOwn.never rfl (pi_range1 rfl m_range (pa_cons (pe_callB (call_max2 rfl) (by rfl) m_max (by decide +kernel) (pa_cons pe_int (pa_cons (pe_callB (call_min2 rfl) (by rfl) m_min (by decide +kernel) (pa_cons pe_int (pa_cons (pe_callB call_len_seq (by rfl) m_len PySem.boot_len (pa_cons (pv 0) pa_nil)) pa_nil))) pa_nil))) pa_nil)) (pg_name (i := 1) scL.nd rfl (.inl rfl)) (pss_cons (ps_set (i := 2) scL.nd rfl (.inl rfl) (pe_call G__law_bag (hr.mono (by decide)) (by rfl) g__law_bag F__law_bag.kp b__law_bag .nil pass0 (pa_cons (pv 0) (pa_cons (pv 1) pa_nil))))
      (pss_one (ps_for PassesOwn.never rfl (pi_range1 rfl m_range (pa_cons pe_int pa_nil)) (pg_name (i := 3) scL.nd rfl (.inl rfl)) (pss_cons (ps_set (i := 4) scL.nd rfl (.inl rfl) (pe_call G__law_drawn_name (hr.mono (by decide)) (by rfl) g__law_drawn_name F__law_drawn_name.kp b__law_drawn_name .nil pass0 (pa_cons (pv 2) pa_nil)))
      (pss_one (ps_for PassesOwn.never rfl (pi_list (pe_lst (pa_cons (pv 4) (pa_cons (pe_call G__law_odd_name (hr.mono (by decide)) (by rfl) g__law_odd_name F__law_odd_name.kp b__law_odd_name .nil pass0 (pa_cons (pv 2) (pa_cons (pv 4) pa_nil))) (pa_cons (pe_call G__law_odd_name (hr.mono (by decide)) (by rfl) g__law_odd_name F__law_odd_name.kp b__law_odd_name .nil pass0 (pa_cons (pv 2) (pa_cons (pv 4) pa_nil))) pa_nil))))) (pg_name (i := 5) scL.nd rfl (.inl rfl)) (pss_cons (ps_set (i := 6) scL.nd rfl (.inl rfl) (pe_callB (call_repr gd hr.units) (by rfl) m_repr (by decide +kernel) (pa_cons (pv 5) pa_nil)))
      (pss_cons (ps_set (i := 7) scL.nd rfl (.inl rfl) (pe_call G_is_name (hr.mono (by decide)) (by rfl) g_is_name F_is_name.kp b_is_name .nil pass0 (pa_cons (pv 5) pa_nil)))
      (pss_cons (ps_if (PW.pt (pw_or (pt_not (pt_val (pe_callB call_isi (by rfl) m_isinstance (by decide +kernel) (pa_cons (pv 7) (pa_cons (pe_bltn (v := .ty "bool") (by rfl) m_bool (by decide +kernel) rfl) pa_nil))))) (pw_or (pt_cmpR op_ne (pv 7) (pe_call G__law_good_name (hr.mono (by decide)) (by rfl) g__law_good_name F__law_good_name.kp b__law_good_name .nil pass0 (pa_cons (pv 5) pa_nil)) (nomark _)) (pw_or1 (pt_cmpR op_ne (pe_callK0 G_is_name (hr.mono (by decide)) (by rfl) g_is_name F_is_name.kp k_is_name pass0 (pk_cons (pv 5) pk_nil)) (pv 7) (nomark _)))))) (pss_one (ps_ret pe_bl)) pss_nil)
      (pss_one (ps_if (PW.pt (pw_or (pt_cmpR op_ne (pe_callB (call_repr gd hr.units) (by rfl) m_repr (by decide +kernel) (pa_cons (pv 5) pa_nil)) (pv 6) (nomark _)) (pw_or1 (pt_not (pt_val (pe_call G_is_name (hr.mono (by decide)) (by rfl) g_is_name F_is_name.kp b_is_name .nil pass0 (pa_cons (pv 4) pa_nil))))))) (pss_one (ps_ret pe_bl)) pss_nil))))))))))))
      (pss_one (ps_ret pe_bl))), ?_⟩
    have tn := turns (L := (ns.map V.int).length) (m := 6) (by decide)
    refine ⟨_, rfl, a, _, rfl, .inl hS, 6, _, rfl, 1, _, rfl, _, rfl, by omega, by omega, for_range (n := _) (fun _ σ H3 => ∃ y1 y2 y3 y4 y5 y6 y7, σ = [some (.ref a), y1, y2, y3, y4, y5, y6, y7] ∧ SqL K H3 a (ns.map V.int)) ⟨_, _, _, _, _, _, _, rfl, hS⟩ (fun i σ H1 hi hW => ?_) (fun σ H1 _ => q _)⟩
    obtain ⟨y1, y2, y3, y4, y5, y6, y7, rfl, hS1⟩ := hW
    rw [Int.zero_add]
    refine ⟨_, rfl, _, rfl, a, ns, i, rfl, hS1, by omega, fun H2 bg sm nb hb => ?_⟩
    -- six turns
    refine ⟨6, rfl, by decide, by decide, for_range (n := 6) (fun _ σ H3 => ∃ y3 y4 y5 y6 y7, σ = [some (.ref a), some (.int (i : Int)), some (.ref bg), y3, y4, y5, y6, y7] ∧ Kp bg H1 H3 ∧ Bag H3 bg) ⟨_, _, _, _, _, rfl, Same.kp sm, hb⟩ (fun n σ H3 _ hW => ?_) (fun σ H3 hW => ?_)⟩
    · obtain ⟨z3, z4, z5, z6, z7, rfl, k3, hb3⟩ := hW
      refine ⟨_, rfl, bg, rfl, hb3, fun l H4 hn hl hc hb4 k4 => ?_⟩
      have oz : Ok 9 (SX.S l) := ⟨by rw [SX.S_len]; exact hl, hc⟩
      refine ⟨_, rfl, _, rfl, _, rfl, bg, _, rfl, hb4, oz, fun v1 H5 t1 m1 hb5 k5 => ?_⟩
      refine ⟨_, rfl, _, rfl, bg, _, rfl, hb5, oz, fun v2 H6 t2 m2 hb6 k6 => ?_⟩
      refine ⟨by show 3 ≤ sizeLine; decide, fun ls nls => ?_⟩
      generalize eL : upd H6 ls _ = Hc
      obtain ⟨sL, fL⟩ := fresh nls eL
      have things : ∀ x ∈ [V.str (SX.S l), v1, v2], Thing Hc x := by
        simp only [List.forall_mem_cons]
        exact ⟨oz.thing, (t1.kp k6 m1).same sL, t2.same sL, fun _ h => nomatch h⟩
      have kc : Kp bg H1 Hc := (((k3.trans k4).trans k5).trans k6).trans (Same.kp sL)
      have hbc : Bag Hc bg := by
        obtain ⟨g, m, e, r⟩ := hb6
        exact ⟨g, m, sL _ _ e, r⟩
      refine ⟨ls, rfl, ⟨_, SqL.of fL⟩, for_list (xs := [V.str (SX.S l), v1, v2]) (fun _ σ H7 => ∃ y3 y5 y6 y7, σ = [some (.ref a), some (.int (i : Int)), some (.ref bg), y3, some (.str (SX.S l)), y5, y6, y7] ∧ Same Hc H7) ⟨_, _, _, _, rfl, Same.refl _⟩ (fun n σ H7 _ hW => ?_) (fun n x σ H7 hx hW => ?_) (fun σ H7 hW => ?_)⟩
      · obtain ⟨_, _, _, _, _, s7⟩ := hW
        exact SqL.of (s7 _ _ fL)
      · obtain ⟨w3, w5, w6, w7, rfl, s7⟩ := hW
        have tx : Thing Hc x := things x (List.mem_of_getElem? hx)
        obtain ⟨d, sh, fi, de, bu⟩ := tx.shown
        refine ⟨_, rfl, x, d, rfl, sh.same s7, fi, de, bu, ?_⟩
        refine ⟨_, rfl, x, rfl, tx.same s7, fun H8 s8 => ?_⟩
        have s78 := s7.trans s8
        refine ⟨_, rfl, _, _, _, _, true, rfl, .ty _, .base (.bl _), kit_ty (by decide +kernel), true, rfl, iteF ?_⟩
        refine ⟨_, rfl, _, rfl, x, rfl, tx.same s78, fun H9 s9 => ⟨rfl, _, rfl, iteNS rfl ?_⟩⟩
        have s79 := s78.trans s9
        refine ⟨_, rfl, rfl, x, rfl, tx.same s79, fun H10 s10 => ⟨_, rfl, rfl, _, rfl, iteNS rfl ?_⟩⟩
        have s710 := s79.trans s10
        refine ⟨_, rfl, x, d, rfl, sh.same s710, fi, de, bu, _, rfl, rfl, _, rfl, iteNS rfl ?_⟩
        refine ⟨_, rfl, .str (SX.S l), rfl, oz.thing, fun H11 s11 => ⟨_, rfl, ?_⟩⟩
        have e : told (.str (SX.S l)) = true := hn
        rw [e]
        exact iteF ⟨_, _, _, _, rfl, s710.trans s11⟩
      · obtain ⟨w3, w5, w6, w7, rfl, s7⟩ := hW
        refine ⟨_, _, _, _, _, rfl, kc.trans (Same.kp s7), ?_⟩
        obtain ⟨g, m, e, r⟩ := hbc
        exact ⟨g, m, s7 _ _ e, r⟩
    · obtain ⟨z3, z4, z5, z6, z7, rfl, k3, hb3⟩ := hW
      exact ⟨_, _, _, _, _, _, _, rfl, k3.sqn nb hS1⟩
end
theorem all_mk {l : PySem.W.OpenLaw} {w : World} {K : PySem.W.Frag} {h : Heap} {mg : Str → Option Value} {fa f1 f2 f3 f4 f5 f6 f7 f8 : Addr} (X : K.In h) (G : h.Ns mainGlobals mg) (hfa : mg "law" = some (.ref fa))
    {od1 an1 od2 an2 od3 an3 od4 an4 od5 an5 od6 an6 od7 an7 od8 an8 : Option Addr} {sl1 sl2 sl3 sl4 sl5 sl6 sl7 sl8 : Array (Option Value)} {oc1 kV1 dc1 pm1 cd1 ct1 oc2 kV2 dc2 pm2 cd2 ct2 oc3 kV3 dc3 pm3 cd3 ct3 oc4 kV4 dc4 pm4 cd4 ct4 oc5 kV5 dc5 pm5 cd5 ct5 oc6 kV6 dc6 pm6 cd6 ct6 oc7 kV7 dc7 pm7 cd7 ct7 oc8 kV8 dc8 pm8 cd8 ct8 : Value} {tk1 tk2 : Tok}
    (a1 : PySem.W.nsIn K mainGlobals "stem_of" = some (some (.ref f1))) (l1 : K.lookup f1 = some ⟨oc1, od1, .func (PySem.W.fnOf "stem_of" "stem_of" (defArgs sStem) (defBody sStem) (defScope sStem) .none kV1 dc1 pm1 an1 cd1 ct1), sl1⟩) (c1 : PySem.W.codeIn K cd1 "stem_of" = true) (k1 : PySem.W.keepIn K (.ref f1) = true)
    (a2 : PySem.W.nsIn K mainGlobals "is_name" = some (some (.ref f2))) (l2 : K.lookup f2 = some ⟨oc2, od2, .func (PySem.W.fnOf "is_name" "is_name" (defArgs sIs) (defBody sIs) (defScope sIs) .none kV2 dc2 pm2 an2 cd2 ct2), sl2⟩) (c2 : PySem.W.codeIn K cd2 "is_name" = true) (k2 : PySem.W.keepIn K (.ref f2) = true)
    (a3 : PySem.W.nsIn K mainGlobals "_law_bag" = some (some (.ref f3))) (l3 : K.lookup f3 = some ⟨oc3, od3, .func (PySem.W.fnOf "_law_bag" "_law_bag" (defArgs sBag) (defBody sBag) (defScope sBag) .none kV3 dc3 pm3 an3 cd3 ct3), sl3⟩) (c3 : PySem.W.codeIn K cd3 "_law_bag" = true) (k3 : PySem.W.keepIn K (.ref f3) = true)
    (a4 : PySem.W.nsIn K mainGlobals "_law_take" = some (some (.ref f4))) (l4 : K.lookup f4 = some ⟨oc4, od4, .func (PySem.W.fnOf "_law_take" "_law_take" (defArgs sTake) (defBody sTake) (defScope sTake) .none kV4 dc4 pm4 an4 cd4 ct4), sl4⟩) (c4 : PySem.W.codeIn K cd4 "_law_take" = true) (k4 : PySem.W.keepIn K (.ref f4) = true)
    (a5 : PySem.W.nsIn K mainGlobals "_law_good_name" = some (some (.ref f5))) (l5 : K.lookup f5 = some ⟨oc5, od5, .func (PySem.W.fnOf "_law_good_name" "_law_good_name" (defArgs sGood) (defBody sGood) (defScope sGood) .none kV5 dc5 pm5 an5 cd5 ct5), sl5⟩) (c5 : PySem.W.codeIn K cd5 "_law_good_name" = true) (k5 : PySem.W.keepIn K (.ref f5) = true)
    (a6 : PySem.W.nsIn K mainGlobals "_law_drawn_name" = some (some (.ref f6))) (l6 : K.lookup f6 = some ⟨oc6, od6, .func (PySem.W.fnOf "_law_drawn_name" "_law_drawn_name" (defArgs sDrawn) (defBody sDrawn) (defScope sDrawn) .none kV6 dc6 pm6 an6 cd6 ct6), sl6⟩) (c6 : PySem.W.codeIn K cd6 "_law_drawn_name" = true) (k6 : PySem.W.keepIn K (.ref f6) = true)
    (a7 : PySem.W.nsIn K mainGlobals "_law_odd_name" = some (some (.ref f7))) (l7 : K.lookup f7 = some ⟨oc7, od7, .func (PySem.W.fnOf "_law_odd_name" "_law_odd_name" (defArgs sOdd) (defBody sOdd) (defScope sOdd) .none kV7 dc7 pm7 an7 cd7 ct7), sl7⟩) (c7 : PySem.W.codeIn K cd7 "_law_odd_name" = true) (k7 : PySem.W.keepIn K (.ref f7) = true)
    (a8 : PySem.W.nsIn K mainGlobals "law" = some (some (.ref f8))) (l8 : K.lookup f8 = some ⟨oc8, od8, .func (PySem.W.fnOf "law" "law" (defArgs sLaw) (defBody sLaw) (defScope sLaw) .none kV8 dc8 pm8 an8 cd8 ct8), sl8⟩) (c8 : PySem.W.codeIn K cd8 "law" = true) (k8 : PySem.W.keepIn K (.ref f8) = true)
    (z1 : PySem.W.nsIn K mainGlobals "len" = some none) (z2 : PySem.W.nsIn K mainGlobals "abs" = some none) (z3 : PySem.W.nsIn K mainGlobals "range" = some none) (z4 : PySem.W.nsIn K mainGlobals "max" = some none) (z5 : PySem.W.nsIn K mainGlobals "min" = some none) (z6 : PySem.W.nsIn K mainGlobals "repr" = some none) (z7 : PySem.W.nsIn K mainGlobals "isinstance" = some none) (z8 : PySem.W.nsIn K mainGlobals "bool" = some none) (z9 : PySem.W.nsIn K mainGlobals "str" = some none) (z10 : PySem.W.nsIn K mainGlobals "all" = some none) (z11 : PySem.W.nsIn K mainGlobals "list" = some none) (v1 : PySem.W.nsIn K mainGlobals "FIGURES" = some (some (.str "23456789" tk1))) (v2 : PySem.W.nsIn K mainGlobals "MOST_LETTERS" = some (some (.int 8 tk2))) :
    ∃ fd : FuncData, (∀ (s : Shared) (v : Value), BindsTo s fd ⟨[v], []⟩ [("_law_script", v)]) ∧ ∀ base : Heap, K.In base → base.Ns mainGlobals mg → FnG l.prog w K mg base CX0 3 fa fd ["_law_script"] (spLaw K) := by
  have e := hfa.symm.trans (PySem.W.mg_of X G a8)
  cases e
  have F1 := fun_mk (st := sStem) l1 c1 k1
  have F2 := fun_mk (st := sIs) l2 c2 k2
  have F3 := fun_mk (st := sBag) l3 c3 k3
  have F4 := fun_mk (st := sTake) l4 c4 k4
  have F5 := fun_mk (st := sGood) l5 c5 k5
  have F6 := fun_mk (st := sDrawn) l6 c6 k6
  have F7 := fun_mk (st := sOdd) l7 c7 k7
  have F8 := fun_mk (st := sLaw) l8 c8 k8
  have b1 := F1.binds (ps := ["text"]) fun _ _ _ _ _ _ us hl => match us, hl with | [_], _ => rfl
  have b2 := F2.binds (ps := ["thing"]) fun _ _ _ _ _ _ us hl => match us, hl with | [_], _ => rfl
  have b3 := F3.binds (ps := ["_law_script", "_law_at"]) fun _ _ _ _ _ _ us hl => match us, hl with | [_, _], _ => rfl
  have b4 := F4.binds (ps := ["_law_bag_here", "_law_many"]) fun _ _ _ _ _ _ us hl => match us, hl with | [_, _], _ => rfl
  have b5 := F5.binds (ps := ["_law_one"]) fun _ _ _ _ _ _ us hl => match us, hl with | [_], _ => rfl
  have b6 := F6.binds (ps := ["_law_bag_here"]) fun _ _ _ _ _ _ us hl => match us, hl with | [_], _ => rfl
  have b7 := F7.binds (ps := ["_law_bag_here", "_law_name"]) fun _ _ _ _ _ _ us hl => match us, hl with | [_, _], _ => rfl
  have q2 : KBn K (PySem.W.fnOf "is_name" "is_name" (defArgs sIs) (defBody sIs) (defScope sIs) .none kV2 dc2 pm2 an2 cd2 ct2) ["thing"] 0 ["thing"] oneW oneV :=
    ⟨fun s us ws _ h1 h2 => match us, h1, ws, h2 with | [], _, [_], _ => .of_eq rfl, one_rel⟩
  exact ⟨PySem.W.fnOf "law" "law" (defArgs sLaw) (defBody sLaw) (defScope sLaw) .none kV8 dc8 pm8 an8 cd8 ct8, fun s v => .of_eq rfl, fun base _ _ => ok_law F8 F1 F2 F5 F4 F6 F7 F3 b1 b2 q2 b5 b4 b6 b7 b3 (PySem.W.mg_of X G a1) (PySem.W.mg_of X G a2) (PySem.W.mg_of X G a5) (PySem.W.mg_of X G a4) (PySem.W.mg_of X G a6) (PySem.W.mg_of X G a7) (PySem.W.mg_of X G a3) (PySem.W.mg_none_of X G z1) (PySem.W.mg_none_of X G z2) (PySem.W.mg_none_of X G z3) (PySem.W.mg_none_of X G z4) (PySem.W.mg_none_of X G z5) (PySem.W.mg_none_of X G z6) (PySem.W.mg_none_of X G z7) (PySem.W.mg_none_of X G z8) (PySem.W.mg_none_of X G z9) (PySem.W.mg_none_of X G z10) (PySem.W.mg_none_of X G z11) (PySem.W.mg_of X G v1) (PySem.W.mg_of X G v2)⟩
end K01
open PySem PySem.W PyProof.Rows
set_option maxHeartbeats 0 in
theorem PySem.Challenge.cw_wirenames_k01_names_known_holds : PySem.Challenge.rw_wirenames_k01_names_known.Holds := by
  w_on; o_law; k_head; (case hw => w_witness2)
  k_fill
  refine Gd.walkG (l := PySem.Challenge.rw_wirenames_k01_names_known) (n := 63) (k := 3) (x := "_law_script") (sp := K01.spLaw) rfl (by decide) rfl ⟨rfl, by decide, by decide⟩ (fun w h Y => PySem.W.kIn_of Y) ?F (fun _ _ a ns hl hS => ⟨a, ns, rfl, hS, hl, fun _ => rfl⟩)
  case F =>
    intro w mg fa h KX G hmg
    refine' K01.all_mk KX G hmg ?a1 ?l1 ?c1 ?k1 ?a2 ?l2 ?c2 ?k2 ?a3 ?l3 ?c3 ?k3 ?a4 ?l4 ?c4 ?k4 ?a5 ?l5 ?c5 ?k5 ?a6 ?l6 ?c6 ?k6 ?a7 ?l7 ?c7 ?k7 ?a8 ?l8 ?c8 ?k8 ?z1 ?z2 ?z3 ?z4 ?z5 ?z6 ?z7 ?z8 ?z9 ?z10 ?z11 ?v1 ?v2
    (case a1 => k_is); (case l1 => k_is); (case c1 => k_is); (case k1 => k_is); (case a2 => k_is); (case l2 => k_is); (case c2 => k_is); (case k2 => k_is); (case a3 => k_is); (case l3 => k_is); (case c3 => k_is); (case k3 => k_is); (case a4 => k_is); (case l4 => k_is); (case c4 => k_is); (case k4 => k_is); (case a5 => k_is); (case l5 => k_is); (case c5 => k_is); (case k5 => k_is); (case a6 => k_is); (case l6 => k_is); (case c6 => k_is); (case k6 => k_is); (case a7 => k_is); (case l7 => k_is); (case c7 => k_is); (case k7 => k_is); (case a8 => k_is); (case l8 => k_is); (case c8 => k_is); (case k8 => k_is); (case z1 => k_is); (case z2 => k_is); (case z3 => k_is); (case z4 => k_is); (case z5 => k_is); (case z6 => k_is); (case z7 => k_is); (case z8 => k_is); (case z9 => k_is); (case z10 => k_is); (case z11 => k_is); (case v1 => k_is); (case v2 => k_is)
