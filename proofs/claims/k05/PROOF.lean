import PyProof.Rows.All
import Wide.All
import OpenK.AllK
import Wide.FinOn
import HandS.ForMost
import PyProof.ReprRoads
import PyProof.ReprBulk
import PyProof.Rows.RegStrFacts
import HandS.TupLe
import HandS.IsInst
import HandS.Defaults
import HandS.OwnEq
import HandS.SlotsOwn
import PyProof.InstEq
import PyProof.EqAt
import PyProof.EqKinds
import KE.KFmtOwn
import PyProof.MeetsIn
import HandS.Codes
import HandS.Walk
import HandS.MakeKwOnly
import HandS.Zip
import HandS.FStr
import HandS.Evl
import PySem.Challenge.RW_wirenames_k05_the_same_bounds_and_rules
set_option Elab.async false
set_option linter.all false
set_option maxRecDepth 100000
set_option maxHeartbeats 4000000
namespace Gd
open PySem PySem.Spec PyProof.Rows L2
/-! data read off the abstract heap -/
mutual
inductive Sh (H : Hp) : V → PyData → Prop
  | non : Sh H .non .none
  | bl (b : Bool) : Sh H (.bl b) (.bool b)
  | int (i : Int) : Sh H (.int i) (.int i)
  | str (x : Str) : Sh H (.str x) (.str x)
  | lst {a : Addr} {xs : List V} {ds : List PyData} : H a = some (.lst xs) → Shs H xs ds → Sh H (.ref a) (.list ds)
  | tup {a : Addr} {xs : List V} {ds : List PyData} : H a = some (.tup xs) → Shs H xs ds → Sh H (.ref a) (.tuple ds)
inductive Shs (H : Hp) : List V → List PyData → Prop
  | nil : Shs H [] []
  | cons {x : V} {d : PyData} {xs : List V} {ds : List PyData} : Sh H x d → Shs H xs ds → Shs H (x :: xs) (d :: ds)
end
section
variable {P : Program} {w : World} {H : Hp} {h : Heap}
mutual
theorem Sh.reads (ok : HOk P w H h) : ∀ {v : V} {d : PyData} {u : Value}, Sh H v d → RelV v u → ∃ as, Reads h u d as
  | _, _, _, .non, r => by
    cases (show _ = Value.none from r)
    exact ⟨_, .none⟩
  | _, _, _, .bl b, r => by
    cases (show _ = Value.bool b from r)
    exact ⟨_, .bool b⟩
  | _, _, _, .int i, r => by
    obtain ⟨t, e⟩ := (show ∃ t, _ = Value.int i t from r)
    cases e
    exact ⟨_, .int i t⟩
  | _, _, _, .str x, r => by
    obtain ⟨t, e⟩ := (show ∃ t, _ = Value.str x t from r)
    cases e
    exact ⟨_, .str x t⟩
  | _, _, _, .lst (a := a) e hs, r => by
    cases (show _ = Value.ref a from r)
    obtain ⟨_, its, n, vs, g⟩ := ok a _ e
    obtain ⟨as, q⟩ := Shs.reads ok hs vs
    exact ⟨_, .list g rfl rfl q⟩
  | _, _, _, .tup (a := a) e hs, r => by
    cases (show _ = Value.ref a from r)
    obtain ⟨_, its, vs, o, g1, g2, n, g3⟩ := ok a _ e
    obtain ⟨as, q⟩ := Shs.reads ok hs vs
    exact ⟨_, .tuple g1 g2 g3 q⟩
theorem Shs.reads (ok : HOk P w H h) : ∀ {xs : List V} {ds : List PyData} {us : List Value}, Shs H xs ds → Vals xs us → ∃ as, ReadsAll h us ds as
  | _, _, _, .nil, r => by
    cases r
    exact ⟨_, .nil⟩
  | _, _, _, .cons h1 h2, r => by
    cases r with
    | cons r1 r2 =>
      obtain ⟨as, q⟩ := Sh.reads ok h1 r1
      obtain ⟨bs, q2⟩ := Shs.reads ok h2 r2
      exact ⟨_, .cons q q2⟩
end
mutual
theorem Sh.plain : ∀ {v : V} {d : PyData}, Sh H v d → d.hasDict = false
  | _, _, .non => rfl
  | _, _, .bl _ => rfl
  | _, _, .int _ => rfl
  | _, _, .str _ => rfl
  | _, _, .lst _ hs => by
    simp only [PyData.hasDict]
    exact Shs.plain hs
  | _, _, .tup _ hs => by
    simp only [PyData.hasDict]
    exact Shs.plain hs
theorem Shs.plain : ∀ {xs : List V} {ds : List PyData}, Shs H xs ds → PyData.hasDictAll ds = false
  | _, _, .nil => rfl
  | _, _, .cons h1 h2 => by
    simp only [PyData.hasDictAll, Sh.plain h1, Shs.plain h2, Bool.or_false]
end
end
mutual
theorem Sh.same {H H' : Hp} (s : Same H H') : ∀ {v : V} {d : PyData}, Sh H v d → Sh H' v d
  | _, _, .non => .non
  | _, _, .bl b => .bl b
  | _, _, .int i => .int i
  | _, _, .str x => .str x
  | _, _, .lst e h => .lst (s _ _ e) (Shs.same s h)
  | _, _, .tup e h => .tup (s _ _ e) (Shs.same s h)
theorem Shs.same {H H' : Hp} (s : Same H H') : ∀ {xs : List V} {ds : List PyData}, Shs H xs ds → Shs H' xs ds
  | _, _, .nil => .nil
  | _, _, .cons h t => .cons (Sh.same s h) (Shs.same s t)
end
mutual
/-- data whose repr is told here: ints of less than 1920 bits, texts of plain signs -/
def fine : PyData → Bool
  | .none => true
  | .bool _ => true
  | .int i => decide (i.natAbs.log2 < 1920)
  | .str x => x.cps.toList.all fun c => decide (c < 16 ^ 8)
  | .list xs => fineAll xs
  | .tuple xs => fineAll xs
  | .dict _ => false
def fineAll : List PyData → Bool
  | [] => true
  | x :: xs => fine x && fineAll xs
end
mutual
theorem fine_shows : ∀ d : PyData, fine d = true → d.showable = true ∧ d.leavesShort 1921 = true
  | .none, _ => ⟨rfl, rfl⟩
  | .bool _, _ => ⟨rfl, rfl⟩
  | .int i, h => by
    have h1 : i.natAbs.log2 < 1920 := by simpa only [fine, decide_eq_true_eq] using h
    exact ⟨by simpa only [PyData.showable, decide_eq_true_eq] using h1, by
      simp only [PyData.leavesShort, PyData.shown]
      exact decide_eq_true (int_text_len_1921 h1)⟩
  | .str x, h => ⟨rfl, by simpa only [PyData.leavesShort, fine] using h⟩
  | .list xs, h => by
    have q := fineAll_shows xs (by simpa only [fine] using h)
    exact ⟨by simpa only [PyData.showable] using q.1, by simpa only [PyData.leavesShort] using q.2⟩
  | .tuple xs, h => by
    have q := fineAll_shows xs (by simpa only [fine] using h)
    exact ⟨by simpa only [PyData.showable] using q.1, by simpa only [PyData.leavesShort] using q.2⟩
  | .dict _, h => by simp only [fine, Bool.false_eq_true] at h
theorem fineAll_shows : ∀ ds : List PyData, fineAll ds = true → PyData.showableAll ds = true ∧ PyData.leavesShortAll 1921 ds = true
  | [], _ => ⟨rfl, rfl⟩
  | d :: ds, h => by
    simp only [fineAll, Bool.and_eq_true] at h
    have q1 := fine_shows d h.1
    have q2 := fineAll_shows ds h.2
    exact ⟨by simp only [PyData.showableAll, q1.1, q2.1, Bool.and_self], by simp only [PyData.leavesShortAll, q1.2, q2.2, Bool.and_self]⟩
end
theorem shown_fits {d : PyData} (h : fine d = true) (hb : d.bulk ≤ 8000) : d.shown.length ≤ sizeLine := by
  have q := PyData.shown_le_bulk 1921 (by decide) d (fine_shows d h).2
  rw [sizeLine_eq]
  omega
section
variable {X : Cx}
/-- repr of data -/
def rRepr : List V → Hp → VK → Prop := fun xs H Q => ∃ v d, xs = [v] ∧ Sh H v d ∧ fine d = true ∧ d.depth ≤ 60 ∧ d.bulk ≤ 8000 ∧ Q (.str d.shown) H
theorem call_repr (hg : X.A.guards = some []) (hu : X.A.units + 64 < cLine) : CallR X (.builtin "repr") rRepr := by
  intro pins s σ H xs us Q I r ⟨v, d, ex, hd, hf, dp, bk, q⟩
  have hs := (fine_shows d hf).1
  have sz := shown_fits hf bk
  subst ex
  cases r with
  | cons r1 r2 =>
  cases r2
  rename_i u
  cases hd with
  | non =>
    cases (show u = Value.none from r1)
    exact PySem.P.repr_of_none ⟨.str _, H, I.tok _, ⟨_, rfl⟩, q⟩
  | bl b =>
    cases (show u = Value.bool b from r1)
    exact PySem.P.repr_of_bool ⟨.str _, H, I.tok _, ⟨_, rfl⟩, q⟩
  | int i =>
    obtain ⟨t, e⟩ := (show ∃ t, u = Value.int i t from r1)
    cases e
    exact PySem.P.repr_of_int (by simpa [PyData.showable] using hs) ⟨.str _, H, I.tok _, ⟨_, rfl⟩, q⟩
  | str x =>
    obtain ⟨t, e⟩ := (show ∃ t, u = Value.str x t from r1)
    cases e
    exact PySem.P.repr_of_str ⟨.str _, H, I.tok _, ⟨_, rfl⟩, q⟩ sz
  | lst e1 h1 =>
    rename_i a xs ds
    have hd : Sh H (.ref a) (.list ds) := .lst e1 h1
    obtain ⟨as, rd⟩ := hd.reads I.hok r1
    cases (show u = Value.ref a from r1)
    exact repr_of_reads' rd hs (PyData.noDict_hsm hd.plain) hg (by omega) (fun _ _ e => e) (fun h' t tk k => ⟨.str _, H, I.kept k, ⟨t, rfl⟩, q⟩) sz
  | tup e1 h1 =>
    rename_i a xs ds
    have hd : Sh H (.ref a) (.tuple ds) := .tup e1 h1
    obtain ⟨as, rd⟩ := hd.reads I.hok r1
    cases (show u = Value.ref a from r1)
    exact repr_of_reads' rd hs (PyData.noDict_hsm hd.plain) hg (by omega) (fun _ _ e => e) (fun h' t tk k => ⟨.str _, H, I.kept k, ⟨t, rfl⟩, q⟩) sz
end
/-! defs that may only be called where no repr is under way -/
structure FnG (P : Program) (w : World) (K : PySem.W.Frag) (mg : Str → Option Value) (base : Heap) (CX : CXT) (k : Nat) (f : Addr) (fd : FuncData) (ps : List Str) (sp : Sp) : Prop where
  len : ∀ {vs : List V} {H : Hp} {Q : VK} {E : XK}, sp vs H Q E → vs.length = ps.length
  go : ∀ {A : Around} {outer : List Env} {s : Shared} {H : Hp} {args : Args} {us : List Value} {vs : List V} {Q : VK} {E : XK}, A.guards = some [] → Room k A →
    Env0 P w K mg base A outer s H → BindsTo s fd args (ps.zip us) → Vals vs us → sp vs H Q E → codeAny (model P w) A (.call (.ref f) args) (CR CX outer P w H s Q E) s
theorem FnG.mono {P : Program} {w : World} {K : PySem.W.Frag} {mg : Str → Option Value} {base : Heap} {CX : CXT} {j k : Nat} {f : Addr} {fd : FuncData} {ps : List Str} {sp : Sp}
    (F : FnG P w K mg base CX j f fd ps sp) (h : j ≤ k) : FnG P w K mg base CX k f fd ps sp := ⟨F.len, fun g r => F.go g (r.mono h)⟩
section
variable {P : Program} {w : World} {K : PySem.W.Frag} {mg : Str → Option Value} {base : Heap} {CX : CXT}
theorem fnG_of {k : Nat} {f : Addr} {x qual : Str} {st : Stmt} {fd : FuncData} {N ps : List Str} {sp : Sp} (F : Fun K x qual st f fd) (S : FnScope N ps (defScope st)) (len : ∀ vs H Q E, sp vs H Q E → vs.length = ps.length)
    (body : ∀ (cdv : Value) (A : Around) (outer : List Env) (s : Shared) (H : Hp) (vs : List V) (Q : VK) (E : XK), A.guards = some [] → Room k (A.deeper (envOfC qual (defScope st) s.heap.objs.size f cdv)) → sp vs H Q E →
      ∃ t, PSs (cxOf CX P w K mg base N qual (defScope st) f cdv A outer s H E) (defBody st) t ∧ t { nx := fun _ H' => Q .non H', rt := Q } (start N vs) H) :
    FnG P w K mg base CX (k + 1) f fd ps sp := by
  obtain ⟨oc, od, kV, doc, pm, an, cdv, ct, osl, rfl, look, code⟩ := F.ex
  constructor
  · intro vs H Q E q
    exact len vs H Q E q
  · intro A outer s H args us vs Q E gd room env bind vals want
    have same : ∀ b o, base.get? b = some o → s.heap.get? b = some o := fun b o e => (env.bs b o e).1
    have kin : K.In s.heap := env.mod.kin.keeps same
    have slots : ∀ y ∈ ps.zip us, (defScope st).names.lookup y.1 = some .local ∨ ((defScope st).names.lookup y.1 = some .cell ∧ ((cellsFrom (s.heap.objs.size + 1) (defScope st).names []).lookup y.1).isSome = true) := by
      rintro ⟨y, v⟩ hy
      cases S.par y (List.of_mem_zip hy).1 with
      | inl q => exact .inl q
      | inr q => exact .inr ⟨q, PySem.W.cellsFrom_some _ _ _ (.inl q)⟩
    apply codeAny_call_function room.depth (kin _ _ look) rfl S.co S.gen rfl (PySem.W.codeRec_of kin code)
    apply bind
    apply wpAny_newFunctionEnv_cells S.kind slots
    rintro env' rfl s1 X1
    constructor
    · exact (env.mod.nolimit.keeps same).keeps X1.toInCall.keep
    apply codeAny_func
    obtain ⟨t, ht, hq⟩ := body cdv A outer s H vs Q E gd (room.deeper _) want
    have I := inv_start (CX := CX) (E := E) S room.hd env (len _ _ _ _ want) vals X1
    apply wpAny_mono (ht.run [] s1 _ H _ I hq)
    · intro flow s' hs
      cases flow with
      | ret u =>
        obtain ⟨v, _, H', J, rv, q⟩ := hs
        exact ⟨v, H', J.os, J.bare, J.base, J.hok, rv, q⟩
      | next =>
        obtain ⟨_, H', J, q⟩ := hs
        exact ⟨.non, H', J.os, J.bare, J.base, J.hok, rfl, q⟩
      | brk => exact hs.elim fun _ q => q.elim fun _ q => q.2.elim
      | cont => exact hs.elim fun _ q => q.elim fun _ q => q.2.elim
    · intro e s' hs
      exact hs
theorem fnG0 {k : Nat} {f : Addr} {x qual : Str} {st : Stmt} {fd : FuncData} {N ps : List Str} {sp : Sp} (F : Fun K x qual st f fd) (S : FnScope N ps (defScope st)) (len : ∀ vs H Q E, sp vs H Q E → vs.length = ps.length)
    (body : ∀ (cdv : Value) (A : Around) (outer : List Env) (s : Shared) (H : Hp) (vs : List V) (Q : VK) (E : XK), A.guards = some [] → Room k (A.deeper (envOfC qual (defScope st) s.heap.objs.size f cdv)) → sp vs H Q E →
      ∃ t, PSs (cxOf CX0 P w K mg base N qual (defScope st) f cdv A outer s H E).nox (defBody st) t ∧ t { nx := fun _ H' => Q .non H', rt := Q } (start N vs) H) :
    FnG P w K mg base CX0 (k + 1) f fd ps sp :=
  fnG_of F S len fun cdv A outer s H vs Q E g r q => (body cdv A outer s H vs Q E g r q).elim fun t h => ⟨t, h.1.nox, h.2⟩
end
section
variable {X : Cx} {CX : CXT} {k : Nat} {f : Addr} {fd : FuncData} {ps : List Str} {sp : Sp} {dvs : List V} {ds : List Value} {E : XK} {x : Str} {p pos : Pos} {e : Expr} {es : List Expr} {t : TA}
theorem goG {pins : List (Addr × Obj)} {σ : L2.St} {H : Hp} {s : Shared} {Q : VK} {us : List Value} {vs : List V} (F : FnG X.prog X.w X.K X.mg X.base CX k f fd ps sp) (gd : X.A.guards = some []) (hr : Room k X.A)
    (hb : Binds X.K fd ps ds) (hd : Vals dvs ds) (hx : Passes CX X E) (I : Inv X pins σ H s) (r : Vals vs us) (h : sp (vs ++ dvs) H Q E) : wpAny (model X.prog X.w) X.A (call (.ref f) us) (EP X pins σ Q) X.xe s := by
  have both := r.append hd
  have many : (us ++ ds).length = ps.length := both.length.symm.trans (F.len h)
  apply wpAny_call
  apply codeAny_mono (F.go gd hr I.env0 (hb s us I.kIn many) both h)
  intro res s' hq
  cases res with
  | error e => exact hx pins σ H s e s' I hq
  | ok flow =>
    cases flow with
    | ret u => exact I.after hq
    | next => exact hq.elim
    | brk => exact hq.elim
    | cont => exact hq.elim
/-- f(e, ..) of such a def -/
theorem pe_callG (F : FnG X.prog X.w X.K X.mg X.base CX k f fd ps sp) (gd : X.A.guards = some []) (hr : Room k X.A) (hg : Gl X x) (hm : X.mg x = some (.ref f)) (hk : PySem.W.keepIn X.K (.ref f) = true) (hb : Binds X.K fd ps ds) (hd : Vals dvs ds)
    (hx : Passes CX X E) (ha : PA X (e :: es) t) (hdb : (x == ("__debug__" : Str)) = false := by decide)
    (he : starEach (e :: es) X.env = (false, eval e X.env) :: starEach es X.env := by rfl) (hpl : (backTo pos (starEach es X.env)).any (·.1) = false := by rfl) :
    PE X (.Call (.Name x p) (e :: es) [] pos) (tCall sp dvs E t) := by
  constructor
  intro pins s σ H Q I h
  apply wpAny_Call_Name_kw
  apply ld_glob I hg hm _ hdb
  apply PySem.W.callWith_K (h₀ := X.base) I.ok.mod.kin hk _ he hpl
  apply thn (ha.run pos pins s σ H _ I h)
  rintro us s1 ⟨vs, H1, I1, r, q⟩
  exact ⟨I1.kIn, goG F gd hr hb hd hx I1 r q⟩
end
/-! the law's end, where the law's def calls repr -/
section
variable {P : Program} {w : World} {K : PySem.W.Frag} {mg mb : Str → Option Value} {CX : CXT} {k : Nat} {fa a : Addr} {fd : FuncData} {x : Str} {sp : Sp} {s : Shared} {vs : List Value} {ns : List Int}
abbrev Done (s : Shared) (r : Result) (s' : Shared) : Prop := r = .ok (.ret (.bool true)) ∧ OldK s.heap s'.heap ∧ s'.os = s.os ∧ AllBare s'.gens
theorem from_heap (kin : K.In s.heap) (gl : s.heap.Ns mainGlobals mg) (bn : s.heap.Ns builtinsNs mb) (bb : ∀ x : Str, x ≠ "__name__" → mb x = bootBuiltins x) (lim : s.heap.NoLimit) (gens : s.gens = #[])
    (ha : s.heap.get? a = some { cls := .type "list", data := .seq vs.toArray }) (hr : Room k callerA)
    (F : ∀ base : Heap, K.In base → base.Ns mainGlobals mg → FnG P w K mg base CX k fa fd [x] sp) (hbind : ∀ (s : Shared) (u : Value), BindsTo s fd ⟨[u], []⟩ [(x, u)])
    (hCX : ∀ H e s', CX [] H s (fun _ _ _ => False) e s' → False)
    (H : Hp) (only : Only H) (want : sp [.ref a] H (fun v _ => v = .bl true) fun _ _ _ => False) (ok : HOk P w H s.heap) (one : ∀ b, H b ≠ none → b = a) (out : H a ≠ none → K.lookup a = none) :
    codeAny (model P w) callerA (.call (.ref fa) ⟨[.ref a], []⟩) (Done s) s := by
  have dicts : ∀ {b : Addr} {m : Str → Option Value}, s.heap.Ns b m → (hidT s.heap H).Ns b m := by
    rintro b m ⟨o, es, ep, g, d, rest⟩
    refine ⟨o, es, ep, hidT_get g ?_, d, rest⟩
    apply Classical.byContradiction
    intro q
    cases one b q
    rw [ha] at g
    cases g
    cases (show Data.seq vs.toArray _ = Data.dict es ep from d)
  have kin' : K.In (hidT s.heap H) := by
    intro b o g
    refine hidT_get (kin b o g) ?_
    apply Classical.byContradiction
    intro q
    cases one b q
    rw [out q] at g
    cases g
  have env : Env0 P w K mg (hidT s.heap H) callerA [] s H :=
    { frames := rfl
      mod := ⟨kin', dicts gl, ⟨mb, dicts bn, bb⟩, lim.elim fun mc q => ⟨mc, dicts q.1, q.2⟩⟩
      bs := fun b o g => of_hidT g
      bsz := Nat.le_of_eq (hidT_size _ _)
      funs := trivial
      frf := fun b z => absurd (show b ∈ ([] : List Addr) from z) (by simp)
      hok := ok
      bare := .of_eq gens }
  apply codeAny_mono ((F _ kin' (dicts gl)).go rfl hr env (hbind s (.ref a)) (.cons rfl .nil : Vals [.ref a] [.ref a]) want)
  intro res s' got
  cases res with
  | error e => exact (hCX H e s' got).elim
  | ok flow =>
    cases flow with
    | next => exact got.elim
    | brk => exact got.elim
    | cont => exact got.elim
    | ret u =>
      obtain ⟨v, H', os, bare, un, ok', rv, q⟩ := got
      cases (show v = V.bl true from q)
      cases (show u = Value.bool true from rv)
      refine ⟨rfl, OldK.of_keep ?_, os, bare⟩
      intro b o g
      cases q : H b with
      | none => exact un.keep b o g q (fun z => absurd (show b ∈ ([] : List Addr) from z) (by simp)) (by simp)
      | some z =>
        cases only b with
        | inl n =>
          rw [n] at q
          cases q
        | inr n =>
          obtain ⟨ob, xs, n⟩ := n
          have g1 := (ok b _ n).1
          rw [g] at g1
          cases g1
          exact (ok' b _ (un.frzs b o _ n)).1
theorem lawG (kin : K.In s.heap) (gl : s.heap.Ns mainGlobals mg) (bn : s.heap.Ns builtinsNs mb) (bb : ∀ x : Str, x ≠ "__name__" → mb x = bootBuiltins x) (lim : s.heap.NoLimit) (gens : s.gens = #[])
    (ha : s.heap.get? a = some { cls := .type "list", data := .seq vs.toArray }) (hi : IntsAre vs ns) (hl : ns.length ≤ sizeLine) (hr : Room k callerA)
    (F : ∀ base : Heap, K.In base → base.Ns mainGlobals mg → FnG P w K mg base CX k fa fd [x] sp) (hbind : ∀ (s : Shared) (u : Value), BindsTo s fd ⟨[u], []⟩ [(x, u)])
    (hsp : ∀ H : Hp, SqL K H a (ns.map V.int) → sp [.ref a] H (fun v _ => v = .bl true) fun _ _ _ => False)
    (hCX : ∀ H e s', CX [] H s (fun _ _ _ => False) e s' → False) :
    codeAny (model P w) callerA (.call (.ref fa) ⟨[.ref a], []⟩) (Done s) s := by
  have rel := vals_ints hi
  cases look : K.lookup a with
  | some o =>
    have g := kin a o look
    rw [ha] at g
    cases g
    refine from_heap kin gl bn bb lim gens ha hr F hbind hCX (fun _ => none) (fun _ => .inl rfl) (hsp _ (.inr ⟨_, vs.toArray, _, look, rfl, rfl, rfl, ?_, by simpa using rel⟩)) (fun b u z => ?_) (fun b z => absurd rfl z) (fun z => absurd rfl z)
    · rw [List.size_toArray, hi.length]
      exact hl
    · cases (show (none : Option HO) = some u from z)
  | none =>
    let O : Obj := { cls := .type "list", data := .seq vs.toArray }
    have at_a : upd (fun _ => none) a (HO.frz O (.lst (ns.map V.int))) a = some (.frz O (.lst (ns.map V.int))) := upd_same
    refine from_heap kin gl bn bb lim gens ha hr F hbind hCX (upd (fun _ => none) a (.frz O (.lst (ns.map V.int)))) (fun b => ?_) (hsp _ (.inl (.inr ⟨O, at_a⟩))) (fun b u z => ?_) (fun b z => ?_) fun _ => look
    · by_cases e : b = a
      · subst e
        exact .inr ⟨_, _, at_a⟩
      · exact .inl (upd_ne e)
    · by_cases e : b = a
      · subst e
        cases Option.some.inj (at_a.symm.trans z)
        exact ⟨ha, by rw [List.length_map]; exact hl, vs, _, rel, ha⟩
      · rw [upd_ne e] at z
        cases z
    · by_cases e : b = a
      · exact e
      · exact absurd (upd_ne e) z
end
theorem walkG {l : PySem.W.OpenLaw} {n k : Nat} {q : Program} {loose : List Str} {XP : (Str → Option Value) → Heap → Prop} {YP : World → Heap → Prop} {d : DefRec} {K : Params → PySem.W.Frag} {sp : PySem.W.Frag → Sp} {x : Str}
    (hn : l.most = some n) (hn2 : n ≤ sizeLine) (hdf : d.params.defaults = []) (hr : Room k callerA) (hY : ∀ (w : World) (h : Heap), YP w h → (K w.params).In h)
    (F : ∀ (w : World) (mg : Str → Option Value) (fa : Addr) (h : Heap), (K w.params).In h → h.Ns mainGlobals mg → mg d.name = some (.ref fa) → ∃ fd : FuncData, (∀ (s : Shared) (u : Value), BindsTo s fd ⟨[u], []⟩ [(x, u)]) ∧
      ∀ base : Heap, (K w.params).In base → base.Ns mainGlobals mg → FnG l.prog w (K w.params) mg base CX0 k fa fd [x] (sp (K w.params)))
    (hsp : ∀ (K : PySem.W.Frag) (H : Hp) (a : Addr) (ns : List Int), ns.length ≤ n → SqL K H a (ns.map V.int) → sp K [.ref a] H (fun v _ => v = .bl true) fun _ _ _ => False) :
    PySem.W.WalkO q loose XP YP l.row.toRowW d [] (fun f vs => PySem.call f vs) := by
  apply Att.attach_call hn hdf
  intro w s₀ s₁ mg mb fa o pm cd doc a vs ns G Y ho hd hcd hmg hobj hints hlen hg
  obtain ⟨fd, hb, hF⟩ := F w mg fa _ (hY w _ Y) G.T.g hmg
  exact lawG (hY w _ Y) G.T.g G.T.b G.T.builtins G.T.nolimit hg hobj hints (Nat.le_trans hlen hn2) hr hF hb (fun H hS => hsp _ H a ns hlen hS) fun _ _ _ z => z
end Gd
namespace Gd
open PySem PySem.Spec PyProof.Rows L2
/-- what a law draws from: a list of two ints -/
def Bag (H : Hp) (a : Addr) : Prop := ∃ g m : Int, H a = some (.lst [.int g, .int m]) ∧ 0 ≤ m ∧ m < 2147483647
/-- all but what stands at a stays -/
def Kp (a : Addr) (H H' : Hp) : Prop := ∀ b o, b ≠ a → H b = some o → H' b = some o
theorem Kp.refl (a : Addr) (H : Hp) : Kp a H H := fun _ _ _ e => e
theorem Kp.trans {a : Addr} {H H1 H2 : Hp} (k : Kp a H H1) (l : Kp a H1 H2) : Kp a H H2 := fun b o n e => l b o n (k b o n e)
theorem Kp.at_bag {a : Addr} {H : Hp} {o : HO} : Kp a H (upd H a o) := fun b u n e => by
  rw [upd_ne n]
  exact e
theorem Kp.new {a p : Addr} {H : Hp} {o : HO} (h : H p = none) : Kp a H (upd H p o) := fun b u _ e => by
  rw [upd_ne (ne_of_none e h)]
  exact e
theorem Kp.put {a p : Addr} {H H' : Hp} {o : HO} (k : Kp a H H') (h : H p = none) : Kp a H (upd H' p o) := fun b u n e => by
  rw [upd_ne (ne_of_none e h)]
  exact k b u n e
theorem Same.kp {a : Addr} {H H' : Hp} (s : Same H H') : Kp a H H' := fun b o _ e => s b o e
theorem Bag.new {a p : Addr} {H : Hp} {o : HO} (b : Bag H a) (h : H p = none) : Bag (upd H p o) a := by
  obtain ⟨g, m, e, q⟩ := b
  exact ⟨g, m, by rw [upd_ne (ne_of_none e h)]; exact e, q⟩
theorem Bag.upd {a p : Addr} {H : Hp} {o : HO} (b : Bag H a) (h : p ≠ a) : Bag (L2.upd H p o) a := by
  obtain ⟨g, m, e, q⟩ := b
  exact ⟨g, m, by rw [upd_ne h.symm]; exact e, q⟩
theorem Bag.some {a : Addr} {H : Hp} (b : Bag H a) : ∃ o, H a = some o := ⟨_, b.choose_spec.choose_spec.1⟩
theorem Bag.ne {a p : Addr} {H : Hp} (b : Bag H a) (h : H p = none) : p ≠ a := by
  obtain ⟨g, m, e, q⟩ := b
  exact (ne_of_none e h).symm
/-- what is free behind was free ahead -/
theorem Kp.free {a p : Addr} {H H' : Hp} (k : Kp a H H') (b : Bag H' a) (h : H' p = none) : H p = none := by
  cases q : H p with
  | none => rfl
  | some o =>
    rw [k p o (b.ne h) q] at h
    cases h
theorem Kp.sq {K : PySem.W.Frag} {a b : Addr} {H H' : Hp} {xs : List V} (k : Kp a H H') (n : b ≠ a) (h : SqL K H b xs) : SqL K H' b xs := by
  rcases h with (h | ⟨o, h⟩) | h
  · exact .inl (.inl (k _ _ n h))
  · exact .inl (.inr ⟨o, k _ _ n h⟩)
  · exact .inr h
/-- a list of the module's or of the heap stays while the bag, new behind it, is drawn from -/
theorem Kp.sqn {K : PySem.W.Frag} {a b : Addr} {H H' : Hp} {xs : List V} (k : Kp a H H') (n : H a = none) (h : SqL K H b xs) : SqL K H' b xs := by
  rcases h with (h | ⟨o, h⟩) | h
  · exact .inl (.inl (k _ _ (ne_of_none h n) h))
  · exact .inl (.inr ⟨o, k _ _ (ne_of_none h n) h⟩)
  · exact .inr h
/-- tuples stay -/
def Tk (H H' : Hp) : Prop := ∀ p xs, H p = some (.tup xs) → H' p = some (.tup xs)
theorem Same.tk {H H' : Hp} (s : Same H H') : Tk H H' := fun p xs e => s p _ e
theorem Tk.trans {H H1 H2 : Hp} (k : Tk H H1) (l : Tk H1 H2) : Tk H H2 := fun p xs e => l p xs (k p xs e)
theorem Kp.tk {a : Addr} {H H' : Hp} (k : Kp a H H') (b : Bag H a) : Tk H H' := fun p xs e => by
  obtain ⟨g, m, h, _⟩ := b
  exact k p _ (ne_of e h (fun z => nomatch z)) e
theorem Tk.lst {p : Addr} {H : Hp} {xs ys : List V} (h : H p = some (.lst xs)) : Tk H (upd H p (.lst ys)) := fun b zs e => by
  rw [upd_ne (ne_of e h (fun z => nomatch z))]
  exact e
def spTake : Sp := fun vs H Q _ => ∃ (a : Addr) (n : Int), vs = [.ref a, .int n] ∧ Bag H a ∧ (0 < n ∧ n < 1073741824) ∧ ∀ (d : Int) (H' : Hp), 0 ≤ d → d < n → Bag H' a → Kp a H H' → Q (.int d) H'
def spBag (K : PySem.W.Frag) : Sp := fun vs H Q _ => ∃ (a : Addr) (ns : List Int) (i : Nat), vs = [.ref a, .int (i : Int)] ∧ SqL K H a (ns.map V.int) ∧ i ≤ 1000 ∧
  ∀ (H' : Hp) (p : Addr), Same H H' → H p = none → Bag H' p → Q (.ref p) H'
theorem turns {L : Nat} {m : Int} (hm : 1 ≤ m) : 1 ≤ (if (if (L : Int) < m then (L : Int) else m) > 1 then (if (L : Int) < m then (L : Int) else m) else 1) ∧ (if (if (L : Int) < m then (L : Int) else m) > 1 then (if (L : Int) < m then (L : Int) else m) else 1) ≤ m := by
  constructor <;> (repeat' split) <;> omega
theorem same_upd {H : Hp} {p : Addr} {o : HO} (h : H p = none) : Same H (upd H p o) := by
  intro b x e
  rw [upd_ne (ne_of_none e h)]
  exact e
theorem fresh {H H' : Hp} {p : Addr} {o : HO} (n : H p = none) (e : upd H p o = H') : Same H H' ∧ H' p = some o := by
  subst e
  exact ⟨same_upd n, upd_same⟩
section
variable {X : Cx}
/-- (i, j) > (k, l) -/
def gt2 (i j k l : Int) : Bool := decide (k < i ∨ (i = k ∧ l < j))
def rGt2 (K : PySem.W.Frag) : R2 := fun x y H Q => ∃ (a b : Addr) (i j k l : Int), x = .ref a ∧ y = .ref b ∧ SqT K H a [.int i, .int j] ∧ SqT K H b [.int k, .int l] ∧ Q (.bl (gt2 i j k l)) H
theorem eq_two {A : Around} {s : Shared} {i k : Int} {t u : Tok} : SeqAt.EqAt A s (.int i t) (.int k u) (decide (i = k)) := by
  have e : (i == k) = decide (i = k) := by
    by_cases q : i = k
    · rw [decide_eq_true q, q, beq_self_eq_true]
    · rw [decide_eq_false q, beq_eq_false_iff_ne.mpr q]
  rw [← e]
  exact SeqAt.EqAt.int_int _ _ _ _
theorem op_gt2 (hu : X.A.units < cLine) : OpR X (compareOp .Gt) (rGt2 X.K) := by
  rintro pins s σ H x y v u Q I rx ry ⟨a, b, i, j, k, l, rfl, rfl, ha, hb, q⟩
  cases rx
  cases ry
  obtain ⟨its, r1, p1, _⟩ := I.tuple ha
  obtain ⟨jts, r2, p2, _⟩ := I.tuple hb
  cases r1 with
  | cons a1 r1 =>
  cases r1 with
  | cons a2 r1 =>
  cases r1
  cases r2 with
  | cons b1 r2 =>
  cases r2 with
  | cons b2 r2 =>
  cases r2
  obtain ⟨t1, rfl⟩ := a1
  obtain ⟨t2, rfl⟩ := a2
  obtain ⟨t3, rfl⟩ := b1
  obtain ⟨t4, rfl⟩ := b2
  have R := Ob.RcOp.tuples_gt (A := X.A) (s := s) (e := fun n => if n = 0 then decide (i = k) else decide (j = l)) (r := fun n => if n = 0 then decide (k < i) else decide (l < j)) p1 p2 hu
    (fun n h1 h2 => match n, h1, h2 with
      | 0, _, _ => eq_two
      | 1, _, _ => eq_two
      | n + 2, h1, _ => absurd h1 (by simp))
    (fun n h1 h2 _ => match n, h1, h2 with
      | 0, _, _ => Ob.RcOp.gt_int _ _ _ _
      | 1, _, _ => Ob.RcOp.gt_int _ _ _ _
      | n + 2, h1, _ => absurd h1 (by simp))
  refine R _ _ _ _ ⟨.bl (gt2 i j k l), H, I, ?_, q⟩
  show Value.bool _ = Value.bool _
  congr 1
  show (if decide (i = k) = true then (if decide (j = l) = true then decide (2 > 2) else decide (l < j)) else decide (k < i)) = _
  unfold gt2
  by_cases e1 : i = k
  · rw [decide_eq_true e1, if_pos rfl]
    by_cases e2 : j = l
    · rw [decide_eq_true e2, if_pos rfl]
      rw [decide_eq_false (by omega), decide_eq_false (by omega)]
    · rw [decide_eq_false e2, if_neg Bool.false_ne_true]
      by_cases e3 : l < j
      · rw [decide_eq_true e3, decide_eq_true (by omega)]
      · rw [decide_eq_false e3, decide_eq_false (by omega)]
  · rw [decide_eq_false e1, if_neg Bool.false_ne_true]
    by_cases e3 : k < i
    · rw [decide_eq_true e3, decide_eq_true (.inl e3)]
    · rw [decide_eq_false e3, decide_eq_false (by omega)]
end
theorem kit_self {K : PySem.W.Frag} {C : Addr} : PySem.W.kitOne K (.ref C) (.ref C) = some true := by
  unfold PySem.W.kitOne
  rw [if_pos (by simp)]
/-- the values in the parameters' order -/
def pick (is : List Nat) {α : Type} (us ws : List α) : List α := is.filterMap fun i => (us ++ ws)[i]?
theorem pick_rel {is : List Nat} {vs : List V} {us : List Value} {zs : List V} {ws : List Value} (r : Vals vs us) (q : Vals zs ws) : Vals (pick is vs zs) (pick is us ws) := by
  have both := r.append q
  unfold pick
  induction is with
  | nil => exact .nil
  | cons i is ih =>
    cases e : (vs ++ zs)[i]? with
    | none => rw [List.filterMap_cons, List.filterMap_cons, e, both.none_of e]; exact ih
    | some x =>
      obtain ⟨u, h1, h2⟩ := both.get e
      rw [List.filterMap_cons, List.filterMap_cons, e, h1]
      exact .cons h2 ih
section
variable {X : Cx} {CX : CXT} {k : Nat} {f : Addr} {fd : FuncData} {ps ks : List Str} {sp : Sp} {E : XK} {x : Str} {p pos : Pos} {kws : List Keyword} {tk : TA} {g : List Value → List Value → List Value} {gV : List V → List V → List V}
def tCallK0 (n : Nat) (sp : Sp) (gV : List V → List V → List V) (E : XK) (tk : TA) : TE := fun σ H Q => tk σ H fun zs H2 => zs.length = n ∧ sp (gV [] zs) H2 Q E
/-- f(k = v, ..), keywords alone -/
theorem pe_callK0 (F : FnOk X.prog X.w X.K X.mg X.base CX k f fd ps sp) (hr : Room k X.A) (hg : Gl X x) (hm : X.mg x = some (.ref f)) (hk : PySem.W.keepIn X.K (.ref f) = true) (hb : KBn X.K fd ps 0 ks g gV) (hx : Passes CX X E) (hkw : PK X kws tk)
    (hall : (backToKw pos (keywordEach kws X.env)).all (·.1.isSome) = true := by rfl) (hks : (backToKw pos (keywordEach kws X.env)).filterMap (·.1) = ks := by rfl)
    (hdb : (x == ("__debug__" : Str)) = false := by decide) (hpl : ((backTo pos (starEach [] X.env)).any (·.1) || (backToKw pos (keywordEach kws X.env)).any (·.1.isNone)) = false := by rfl) :
    PE X (.Call (.Name x p) [] kws pos) (tCallK0 ks.length sp gV E tk) := by
  constructor
  intro pins s σ H Q I h
  apply wpAny_Call_Name_kw
  apply ld_glob I hg hm _ hdb
  apply PySem.W.callWith_KW0 (h₀ := X.base) I.ok.mod.kin hk hall _ hpl
  apply thn (hkw.run pos pins s σ H _ I h)
  rintro ws s2 ⟨zs, H2, I2, rz, l2, q2⟩
  refine ⟨I2.kIn, ?_⟩
  rw [hks]
  exact run_fnN F hr hb hx I2 .nil rz rfl l2 q2
end
end Gd
namespace Gd
open PySem PySem.Spec PyProof.Rows L2
section
variable {X : Cx} {CX : CXT} {n : Nat} {C f : Addr} {fd : FuncData} {ps : List Str} {sp : Sp} {E : XK}
/-- a plain value's type, as the machine looks it up -/
theorem looks_ty {pins : List (Addr × Obj)} {σ : L2.St} {H : Hp} {s : Shared} {y : V} {u t : Value} (I : L2.Inv X pins σ H s) (ry : RelV y u) (ty : TyX X.K H y t) : PySem.W.Looks (model X.prog X.w) s.heap (typeOf u) t := by
  obtain ⟨P, k, hp, _⟩ := kit_of I ry ty
  exact k.ty _ _ I.kIn hp
/-- x == y by an own __eq__ of x's class; y of any type that is not below it -/
def rEqOwn (K : PySem.W.Frag) (C : Addr) (sp : Sp) (E : XK) : R2 := fun x y H Q => ∃ (b dx : Addr) (fs : List (Str × V)) (t : Value), x = .ref b ∧ H b = some (.ins C dx fs) ∧ TyX K H y t ∧ PySem.W.notFirst K C t = true ∧ sp [x, y] H Q E
theorem op_eqOwn (F : FnOk X.prog X.w X.K X.mg X.base CX n f fd ps sp) (hs : PySem.W.findIn X.K (.ref C) "__eq__" = some (some (.ref f))) (hf : PySem.W.isFn X.K (.ref f) = true) (hb : Binds X.K fd ps []) (hx : Passes CX X E) (hr : Room n X.A) :
    OpR X (compareOp .Eq) (rEqOwn X.K C sp E) := by
  rintro pins s σ H x y v u Q I rx ry ⟨b, dx, fs, t, rfl, hb', ty, nf, q⟩
  cases rx
  obtain ⟨mA, J, _⟩ := ins_get I.hok hb'
  obtain ⟨od, J, _⟩ := J.look
  obtain ⟨m, hF⟩ := I.fr
  show wpAny (model X.prog X.w) X.A (richCompare .Eq (.ref b) u) (EP X pins σ Q) X.xe s
  apply PySem.W.cmp_K (op := .Eq) (tb := t) hr.units0 hF I.ok.mod.kin J (looks_ty I ry ty) nf hs hf
  apply wpAny_mono (run_fn (us := [.ref b, u]) (vs := [.ref b, y]) (dvs := []) F hr hb .nil hx I (.cons rfl (.cons ry .nil)) q) _ (fun _ _ z => z)
  rintro w' s' ⟨z, H', I', rz, qz⟩
  exact SlX.cmpback rz ⟨z, H', I', rz, qz⟩
/-- the def at f called one step deeper, by what surrounds it there -/
theorem go_in1 {pins : List (Addr × Obj)} {σ : L2.St} {H : Hp} {s : Shared} {Q : VK} {us : List Value} {vs : List V} (F : FnOk X.prog X.w X.K X.mg X.base CX n f fd ps sp) (hb : Binds X.K fd ps []) (hx : Passes CX X E) (hr : Room (n + 1) X.A) (I : L2.Inv X pins σ H s)
    (r : Vals vs us) (q : sp vs H Q E) : wpAny (model X.prog X.w) X.A.in1 (call (.ref f) us) (EP X pins σ Q) X.xe s := by
  have many : us.length = ps.length := r.length.symm.trans (F.len _ _ _ _ q)
  have bd := hb s us I.kIn (by rw [List.append_nil]; exact many)
  rw [List.append_nil] at bd
  apply wpAny_call
  apply codeAny_mono (F.run X.A.in1 X.stack s H ⟨us, []⟩ us vs Q E hr.in1 I.env0.in1 bd r q)
  intro res s' hq
  cases res with
  | error e => exact hx pins σ H s e s' I hq
  | ok flow =>
    cases flow with
    | ret u => exact I.after hq
    | next => exact hq.elim
    | brk => exact hq.elim
    | cont => exact hq.elim
/-- repr(x) by an own __repr__ that gives a text -/
theorem call_reprOwn (F : FnOk X.prog X.w X.K X.mg X.base CX n f fd ps sp) (hs : PySem.W.findIn X.K (.ref C) "__repr__" = some (some (.ref f))) (hf : PySem.W.isFn X.K (.ref f) = true) (hb : Binds X.K fd ps []) (hx : Passes CX X E) (hr : Room (n + 1) X.A) :
    CallR X (.builtin "repr") (fun xs H Q => ∃ (b dx : Addr) (fs : List (Str × V)), xs = [.ref b] ∧ H b = some (.ins C dx fs) ∧ sp [.ref b] H (fun v H' => ∃ z, v = .str z ∧ Q v H') E) := by
  rintro pins s σ H xs us Q I r ⟨b, dx, fs, rfl, hb', q⟩
  cases r with
  | cons r1 r2 =>
  cases r2
  cases (show _ = Value.ref b from r1)
  obtain ⟨mA, J, _⟩ := ins_get I.hok hb'
  obtain ⟨od, J, _⟩ := J.look
  obtain ⟨m, hF⟩ := I.fr
  apply PySem.W.repr_K hr.in1.units0 hF I.ok.mod.kin J hs hf
  apply wpAny_mono (go_in1 (us := [.ref b]) (vs := [.ref b]) F hb hx hr I (.cons rfl .nil) q) _ (fun _ _ z => z)
  rintro w' s' ⟨v, H', I', rv, z, rfl, qz⟩
  obtain ⟨t, rfl⟩ := (show ∃ t, w' = Value.str z t from rv)
  exact ⟨.str z, H', I', ⟨t, rfl⟩, qz⟩
end
/-! x != y where the class has an own __eq__ and no __ne__ -/
section
variable {prog : Program} {w : World} {A : Around} {E : Value → Shared → Prop} {s : Shared} {K : PySem.W.Frag} {x C f : Addr} {ox : Obj} {od : Option Obj} {b tb : Value}
theorem bound_builtin {name : Str} {id : String} {args : List Value} {Q : Option Value → Shared → Prop} (kin : K.In s.heap) (inst : PySem.W.InstAt s.heap x ox C od) (found : PySem.W.findIn K (.ref C) name = some (some (.builtin id)))
    (bind : ∀ self, bindSpecial (.builtin id) self = pure (.builtin id, [self])) (go : wpAny (model prog w) A (call (.builtin id) (.ref x :: args)) (fun v => Q (some v)) E s) : wpAny (model prog w) A (callSpecialIfBound? (.ref x) name args) Q E s := by
  simp only [callSpecialIfBound?, bindSpecialIfBound?]
  apply wpAny_holding
  apply wpAny_bind
  apply wpAny_bind
  apply wpAny_bind
  apply inst.type.here
  apply (PySem.W.looks_findIn kin found).here
  apply wpAny_bind
  apply wpAny_askSetting
  apply wpAny_ite
  have last : wpAny (model prog w) A (call (.builtin id) ([.ref x] ++ args) >>= fun v => pure (some v)) Q E s := wpAny_bind (wpAny_mono go (fun v s' z => wpAny_pure z) fun _ _ z => z)
  split
  · exact wpAny_bind ((PySem.W.Looks.of_pure (bind _)).here (wpAny_pure (by exact last)))
  · exact wpAny_tryCatch (wpAny_bind ((PySem.W.Looks.of_pure (bind _)).here (wpAny_pure (by exact last))))
theorem ne_builtin {Q : Value → Shared → Prop} (hu : A.in1.units < cLine) (kin : K.In s.heap) (inst : PySem.W.InstAt s.heap x ox C od) (mro : PySem.W.mroIn K C (.type "object") = some true) (found : PySem.W.findIn K (.ref C) "__eq__" = some (some (.ref f)))
    (fn : PySem.W.isFn K (.ref f) = true) (go : wpAny (model prog w) A.in1 (call (.ref f) [.ref x, b]) (fun v s' => ∃ k : Bool, v = .bool k ∧ Q (.bool (!k)) s') E s) : wpAny (model prog w) A (call (.builtin "object.__ne__") [.ref x, b]) Q E s := by
  apply wpAny_call
  apply codeAny_call_builtin (by decide +kernel) PySem.F.cmpEntry_ne
  apply PySem.W.check_slot PySem.F.cmpKind_ne PySem.F.cmpSplit_ne (inst.type.andThen (PySem.W.looks_mroIn kin mro)) (PySem.F.cmpArgs_ne _ _)
  unfold Builtin.«object.__ne__»
  apply wpAny_bind (m := slotArgs "__ne__" 1 _)
  apply wpAny_pure
  apply wpAny_bind (m := cRoomFor _ _)
  apply wpAny_cRoomFor hu
  apply wpAny_bind (m := callSpecialIfBound? (.ref x) (Str.ofString "__eq__") _)
  apply PySem.W.ifBound_K kin inst found fn
  apply wpAny_mono go _ (fun _ _ z => z)
  rintro v s' ⟨k, rfl, q⟩
  show wpAny (model prog w) A.in1 (truthy (.bool k) >>= fun t => ret (.bool (!t))) _ _ s'
  apply wpAny_bind
  exact wpAny_pure (wpAny_pure q)
theorem ne_own {h₀ : Heap} {L : Addr} {m : Str → Option Value} {Q : Value → Shared → Prop} (hu : A.in1.units < cLine) (F : Fr h₀ L s.heap m) (kin₀ : K.In h₀) (inst : PySem.W.InstAt s.heap x ox C od) (ty : PySem.W.Looks (model prog w) s.heap (typeOf b) tb)
    (nf : PySem.W.notFirst K C tb = true) (mro : PySem.W.mroIn K C (.type "object") = some true) (ne : PySem.W.findIn K (.ref C) "__ne__" = some (some (.builtin "object.__ne__"))) (found : PySem.W.findIn K (.ref C) "__eq__" = some (some (.ref f)))
    (fn : PySem.W.isFn K (.ref f) = true) (go : wpAny (model prog w) A.in1 (call (.ref f) [.ref x, b]) (fun v s' => ∃ k : Bool, v = .bool k ∧ Q (.bool (!k)) s') E s) : wpAny (model prog w) A (richCompare .NotEq (.ref x) b) Q E s := by
  have kin := kin₀.keeps F.keep
  have bindNe : ∀ self, bindSpecial (.builtin "object.__ne__") self = pure (.builtin "object.__ne__", [self]) := fun self => rfl
  have one : wpAny (model prog w) A (tryCompare (.ref x) (cmpInfo .NotEq).2.1 b) (fun r s' => ∃ v, r = some v ∧ Q v s') E s := by
    unfold tryCompare
    apply wpAny_bind
    apply bound_builtin kin inst ne bindNe
    apply wpAny_mono (ne_builtin (Q := fun v s' => ∃ k : Bool, v = .bool (!k) ∧ Q v s') hu kin inst mro found fn (wpAny_mono go (fun v s' z => z.elim fun k z => ⟨k, z.1, k, rfl, z.2⟩) fun _ _ z => z)) _ (fun _ _ z => z)
    rintro v s' ⟨k, rfl, q⟩
    exact wpAny_pure ⟨_, rfl, q⟩
  have hu0 : A.units < cLine := Nat.lt_of_succ_lt hu
  unfold richCompare
  simp only [oneThing_ref]
  apply wpAny_holding
  apply wpAny_bind
  apply wpAny_cRoomFor hu0
  apply wpAny_bind
  apply inst.type.here
  apply wpAny_bind
  apply ty.here
  split
  · rename_i q
    have below : PySem.W.subIn K tb (.ref C) = some false := by
      cases Bool.or_eq_true_iff.mp nf with
      | inl e =>
        rw [beq_iff_eq.mp e] at q
        simp at q
      | inr e => exact beq_iff_eq.mp e
    apply wpAny_bind
    apply (PySem.W.looks_subIn kin below).here
    simp only [Bool.false_eq_true, if_false]
    apply wpAny_bind
    apply wpAny_mono one _ (fun _ _ z => z)
    rintro r s' ⟨v, rfl, q'⟩
    exact wpAny_pure q'
  · apply wpAny_bind
    apply wpAny_pure
    simp only [Bool.false_eq_true, if_false]
    apply wpAny_bind
    apply wpAny_mono one _ (fun _ _ z => z)
    rintro r s' ⟨v, rfl, q'⟩
    exact wpAny_pure q'
end
section
variable {X : Cx} {CX : CXT} {n : Nat} {C f : Addr} {fd : FuncData} {ps : List Str} {sp : Sp} {E : XK}
def rNeOwn (K : PySem.W.Frag) (C : Addr) (sp : Sp) (E : XK) : R2 := fun x y H Q => ∃ (b dx : Addr) (fs : List (Str × V)) (t : Value), x = .ref b ∧ H b = some (.ins C dx fs) ∧ TyX K H y t ∧ PySem.W.notFirst K C t = true ∧ sp [x, y] H (fun v H' => ∃ k : Bool, v = .bl k ∧ Q (.bl (!k)) H') E
theorem op_neOwn (F : FnOk X.prog X.w X.K X.mg X.base CX n f fd ps sp) (hm : PySem.W.mroIn X.K C (.type "object") = some true) (hne : PySem.W.findIn X.K (.ref C) "__ne__" = some (some (.builtin "object.__ne__"))) (hs : PySem.W.findIn X.K (.ref C) "__eq__" = some (some (.ref f)))
    (hf : PySem.W.isFn X.K (.ref f) = true) (hb : Binds X.K fd ps []) (hx : Passes CX X E) (hr : Room (n + 1) X.A) : OpR X (compareOp .NotEq) (rNeOwn X.K C sp E) := by
  rintro pins s σ H x y v u Q I rx ry ⟨b, dx, fs, t, rfl, hb', ty, nf, q⟩
  cases rx
  obtain ⟨mA, J, _⟩ := ins_get I.hok hb'
  obtain ⟨od, J, _⟩ := J.look
  obtain ⟨m, hF⟩ := I.fr
  show wpAny (model X.prog X.w) X.A (richCompare .NotEq (.ref b) u) (EP X pins σ Q) X.xe s
  apply ne_own hr.in1.units0 hF I.ok.mod.kin J (looks_ty I ry ty) nf hm hne hs hf
  apply wpAny_mono (go_in1 (us := [.ref b, u]) (vs := [.ref b, y]) F hb hx hr I (.cons rfl (.cons ry .nil)) q) _ (fun _ _ z => z)
  rintro w' s' ⟨z, H', I', rz, k, rfl, qz⟩
  cases (show w' = Value.bool k from rz)
  exact ⟨k, rfl, .bl (!k), H', I', rfl, qz⟩
end
/-! x in [None, y] -/
section
variable {prog : Program} {w : World} {A : Around} {E : Value → Shared → Prop} {s : Shared} {K : PySem.W.Frag} {x C f : Addr} {ox : Obj} {od : Option Obj}
theorem none_eq_own {Q : Value → Shared → Prop} (hu : A.units < cLine) (kin : K.In s.heap) (inst : PySem.W.InstAt s.heap x ox C od) (sub : PySem.W.subIn K (.ref C) (.type "NoneType") = some false) (found : PySem.W.findIn K (.ref C) "__eq__" = some (some (.ref f)))
    (fn : PySem.W.isFn K (.ref f) = true) (go : wpAny (model prog w) A (call (.ref f) [.ref x, .none]) (PySem.W.CmpBack Q) E s) : wpAny (model prog w) A (richCompare .Eq .none (.ref x)) Q E s := by
  unfold richCompare
  have nothing : oneThing? .Eq .none (.ref x) = none := rfl
  simp only [nothing]
  apply wpAny_holding
  apply wpAny_bind
  apply wpAny_cRoomFor hu
  apply wpAny_bind
  apply wpAny_of_eq (a := Value.type "NoneType") rfl
  apply wpAny_bind
  apply inst.type.here
  have ne : (Value.type "NoneType" != Value.ref C) = true := rfl
  rw [if_pos ne]
  apply wpAny_bind
  apply (PySem.W.looks_subIn kin sub).here
  simp only [Bool.false_eq_true, if_false]
  apply wpAny_bind
  unfold tryCompare
  apply wpAny_bind
  apply wpAny_callSpecialIfBound?_slot (self := .none) (T := "NoneType") (show s.TypeIs .none "NoneType" from rfl) PySem.F.slot_NoneType_eq
  apply call_gives PySem.F.slot_NoneType_eq (show s.TypeIs .none "NoneType" from rfl) PySem.F.entry_NoneType_eq (PySem.F.args_NoneType_eq_2 _ _) (SeqAt.NoneType___eq___none_ref_0 x)
  show wpAny (model prog w) A _ _ _ _
  apply wpAny_pure
  have t : (!false) = true := rfl
  rw [if_pos t]
  apply wpAny_bind
  apply wpAny_bind
  apply PySem.W.ifBound_K kin inst found fn
  apply wpAny_mono go _ (fun _ _ z => z)
  intro v s' hv
  cases v <;> first | exact hv.elim | exact wpAny_pure (wpAny_pure hv)
end
end Gd
namespace Gd
open PySem PySem.SeqAt
open PySem.AutoSeq1 (wpAny_loadPart')
open PySem.MeetsSeq PySem.MeetsSeq2 PySem.MeetsSeq3
section
variable {prog : Program} {w : World} {A : Around} {E : Value → Shared → Prop} {s : Shared}
abbrev listO (items : Array Value) (n : Nat) : Obj := { cls := .type "list", data := .seq items n }
theorem loop_end {l : Addr} {items : Array Value} {n i : Nat} {x : Value} {R : Result → Shared → Prop} (hl : s.heap.get? l = some (listO items n)) (hi : items[((i : Nat) : Int).toNat]? = none) (h : R (.ok (.ret (.bool false))) s) :
    codeAny (model prog w) A (.builtin "list.__contains__.loop" ⟨[.ref l, x, rawInt i], []⟩) R s := by
  obtain ⟨hp, g, d, tk, os⟩ := s
  refine codeAny_builtin entry_contains_loop ?_
  rw [Around.under_plainId plain_contains_loop _]
  wp_walk using wpAny_loadPart' hl
  rw [hi]
  wp_walk
  exact h
theorem loop_step {l : Addr} {items : Array Value} {n i : Nat} {u x : Value} {R : Result → Shared → Prop} (hl : s.heap.get? l = some (listO items n)) (hi : items[((i : Nat) : Int).toNat]? = some u)
    (h : wpAny (model prog w) A.in1 (eqBool u x) (fun k s1 => (k = true → R (.ok (.ret (.bool true))) s1) ∧ (k = false → codeAny (model prog w) A (.builtin "list.__contains__.loop" ⟨[.ref l, x, rawInt ((i + 1 : Nat) : Int)], []⟩) R s1)) (fun e s1 => R (.error e) s1) s) :
    codeAny (model prog w) A (.builtin "list.__contains__.loop" ⟨[.ref l, x, rawInt i], []⟩) R s := by
  obtain ⟨hp, g, d, tk, os⟩ := s
  refine codeAny_builtin entry_contains_loop ?_
  rw [Around.under_plainId plain_contains_loop _]
  wp_walk using wpAny_loadPart' hl
  rw [hi]
  refine wpAny_bind (wpAny_mono h (fun k s1 z => ?_) fun _ _ z => z)
  have hc : ((i : Int) + 1) = ((i + 1 : Nat) : Int) := by push_cast; rfl
  obtain ⟨z1, z2⟩ := z
  cases k with
  | true =>
    wp_walk
    exact z1 rfl
  | false =>
    wp_walk
    rw [hc]
    exact ⟨plainId_quiet plain_contains_loop _, z2 rfl⟩
theorem contains_call {l : Addr} {items : Array Value} {n : Nat} {x : Value} {Q : Value → Shared → Prop} (hl : s.heap.get? l = some (listO items n))
    (h : codeAny (model prog w) A (.builtin "list.__contains__.loop" ⟨[.ref l, x, rawInt ((0 : Nat) : Int)], []⟩) (wants Q E) s) : wpAny (model prog w) A (call (.builtin "list.__contains__") [.ref l, x]) Q E s := by
  refine call_meetsIn F.slot_list_contains ⟨_, hl, rfl⟩ F.entry_list_contains (F.args_list_contains_2 _ _) (S := fun A R s => codeAny (model prog w) A (.builtin "list.__contains__.loop" ⟨[.ref l, x, rawInt ((0 : Nat) : Int)], []⟩) R s) (fun A R s hs => ?_) h
  obtain ⟨hp, g, d, tk, os⟩ := s
  wp_walk
  exact ⟨plainId_quiet plain_contains_loop _, hs⟩
theorem in_call {l : Addr} {items : Array Value} {n : Nat} {x : Value} {Q : Value → Shared → Prop} (hl : s.heap.get? l = some (listO items n))
    (h : codeAny (model prog w) A (.builtin "list.__contains__.loop" ⟨[.ref l, x, rawInt ((0 : Nat) : Int)], []⟩) (wants (fun v s' => ∃ b : Bool, v = .bool b ∧ Q (.bool b) s') E) s) : wpAny (model prog w) A (compareOp .In x (.ref l)) Q E s := by
  show wpAny _ A (do return .bool (← contains (.ref l) x)) Q E s
  refine wpAny_bind (wpAny_contains_slot ⟨_, hl, rfl⟩ F.slot_list_contains (wpAny_mono (contains_call hl h) (fun v s' hv => ?_) fun _ _ z => z))
  obtain ⟨b, rfl, q⟩ := hv
  exact wpAny_truthy_bool (wpAny_pure q)
end
theorem eqBool_none {prog : Program} {w : World} {A : Around} {E : Value → Shared → Prop} {s : Shared} {b : Addr} {Q : Bool → Shared → Prop} (h : wpAny (model prog w) A (richCompare .Eq .none (.ref b)) (fun v s' => ∃ r, v = .bool r ∧ Q r s') E s) :
    wpAny (model prog w) A (eqBool .none (.ref b)) Q E s := by
  unfold eqBool
  refine wpAny_holding ?_
  refine wpAny_ite_split (fun hab => absurd (eq_of_beq hab) (fun z => nomatch z)) (fun _ => ?_)
  refine wpAny_bind (wpAny_mono h (fun v s' hv => ?_) fun _ _ z => z)
  obtain ⟨r, rfl, q⟩ := hv
  exact wpAny_truthy_bool q
end Gd
namespace Gd
open PySem PySem.Spec PyProof.Rows L2
section
variable {X : Cx} {CX : CXT} {n : Nat} {C f : Addr} {fd : FuncData} {ps : List Str} {sp : Sp} {E : XK}
/-- x in [None, y], x and y of one class with an own __eq__ -/
def rInOwn (C : Addr) (sp : Sp) (E : XK) : R2 := fun v w H Q => ∃ (b dx : Addr) (fs : List (Str × V)) (l y dy : Addr) (gs : List (Str × V)), v = .ref b ∧ w = .ref l ∧ H b = some (.ins C dx fs) ∧ H l = some (.lst [.non, .ref y]) ∧
  sp [.ref b, .non] H (fun r H1 => r = .bl false ∧ H1 l = some (.lst [.non, .ref y]) ∧ (y = b → Q (.bl true) H1) ∧ (y ≠ b → H1 y = some (.ins C dy gs) ∧ H1 b = some (.ins C dx fs) ∧
    sp [.ref y, .ref b] H1 (fun r H2 => ∃ k : Bool, r = .bl k ∧ H2 l = some (.lst [.non, .ref y]) ∧ Q (.bl k) H2) E)) E
theorem list_at {pins : List (Addr × Obj)} {σ : L2.St} {H : Hp} {s : Shared} {l y : Addr} (I : L2.Inv X pins σ H s) (h : H l = some (.lst [.non, .ref y])) : ∃ n, s.heap.get? l = some (listO #[.none, .ref y] n) := by
  obtain ⟨_, its, n, r, g⟩ := I.hok l _ h
  cases r with
  | cons r1 r =>
  cases r with
  | cons r2 r =>
  cases r
  cases (show _ = Value.none from r1)
  cases (show _ = Value.ref y from r2)
  exact ⟨n, g⟩
theorem op_inOwn (F : FnOk X.prog X.w X.K X.mg X.base CX n f fd ps sp) (hs : PySem.W.findIn X.K (.ref C) "__eq__" = some (some (.ref f))) (hf : PySem.W.isFn X.K (.ref f) = true) (sub : PySem.W.subIn X.K (.ref C) (.type "NoneType") = some false)
    (hb : Binds X.K fd ps []) (hx : Passes CX X E) (hr : Room (n + 1) X.A) : OpR X (compareOp .In) (rInOwn C sp E) := by
  rintro pins s σ H x z v u Q I rx rz ⟨b, dx, fs, l, y, dy, gs, rfl, rfl, hb', hl, q⟩
  cases rx
  cases rz
  obtain ⟨k0, g0⟩ := list_at I hl
  apply in_call g0
  apply loop_step g0 (u := .none) rfl
  apply eqBool_none
  obtain ⟨mA, J, _⟩ := ins_get I.hok hb'
  obtain ⟨od, J, _⟩ := J.look
  apply none_eq_own hr.in1.units0 I.kIn J sub hs hf
  apply wpAny_mono (go_in1 (us := [.ref b, .none]) (vs := [.ref b, .non]) F hb hx hr I (.cons rfl (.cons rfl .nil)) q) _ (fun _ _ e => e)
  rintro w1 s1 ⟨z1, H1, I1, rz1, rfl, hl1, same, other⟩
  cases (show w1 = Value.bool false from rz1)
  refine ⟨false, rfl, (fun e => nomatch e), fun _ => ?_⟩
  obtain ⟨k1, g1⟩ := list_at I1 hl1
  apply loop_step (i := 1) g1 (u := .ref y) rfl
  by_cases e : y = b
  · subst e
    apply SeqAt.EqAt.same
    exact ⟨fun _ => ⟨true, rfl, .bl true, H1, I1, rfl, same rfl⟩, fun e => nomatch e⟩
  · obtain ⟨hy, hb1, q2⟩ := other e
    apply GQ.eqBool_refG e
    obtain ⟨mB, JB, _⟩ := ins_get I1.hok hy
    obtain ⟨odB, JB, _⟩ := JB.look
    obtain ⟨mC, JC, _⟩ := ins_get I1.hok hb1
    obtain ⟨odC, JC, _⟩ := JC.look
    obtain ⟨m, hF⟩ := I1.fr
    apply PySem.W.cmp_K (op := .Eq) (tb := .ref C) hr.in1.units0 hF I1.ok.mod.kin JB JC.type (by simp [PySem.W.notFirst]) hs hf
    apply wpAny_mono (go_in1 (us := [.ref y, .ref b]) (vs := [.ref y, .ref b]) F hb hx hr I1 (.cons rfl (.cons rfl .nil)) q2) _ (fun _ _ e => e)
    rintro w2 s2 ⟨z2, H2, I2, rz2, k, rfl, hl2, qk⟩
    cases (show w2 = Value.bool k from rz2)
    refine ⟨k, rfl, fun ek => ?_, fun ek => ?_⟩
    · subst ek
      exact ⟨true, rfl, .bl true, H2, I2, rfl, qk⟩
    · subst ek
      obtain ⟨k2, g2⟩ := list_at I2 hl2
      apply loop_end (i := 2) g2 rfl
      exact ⟨false, rfl, .bl false, H2, I2, rfl, qk⟩
end
end Gd
namespace K05
open PySem PySem.Spec PyProof.Rows L2 Gd
def topS (i : Nat) : Stmt := PySem.Challenge.pw_wirenames_k05_the_same_bounds_and_rules.main.body.getD i (.Pass ⟨0, 0, 0, 0⟩)
abbrev sWhole : Stmt := topS 1
abbrev sWithin : Stmt := topS 2
abbrev sGap : Stmt := topS 3
abbrev sClaim : Stmt := topS 9
abbrev sPeriod : Stmt := topS 10
abbrev sBag : Stmt := topS 14
abbrev sTake : Stmt := topS 15
abbrev sLWhole : Stmt := topS 16
abbrev sParts : Stmt := topS 17
abbrev sIsR : Stmt := topS 18
abbrev sMade : Stmt := topS 19
abbrev sSame : Stmt := topS 20
abbrev sLaw : Stmt := topS 21
abbrev sBInit : Stmt := inClass (topS 11) 0
abbrev sBEq : Stmt := inClass (topS 11) 1
abbrev sBRepr : Stmt := inClass (topS 11) 2
abbrev sRInit : Stmt := inClass (topS 12) 0
abbrev sREq : Stmt := inClass (topS 12) 1
abbrev sRRepr : Stmt := inClass (topS 12) 2
theorem sc_beq : FnScope ["self", "other"] ["self", "other"] (defScope sBEq) := ⟨rfl, rfl, rfl, by decide +kernel, rfl, by decide +kernel, by decide +kernel⟩
theorem sc_req : FnScope ["self", "other"] ["self", "other"] (defScope sREq) := ⟨rfl, rfl, rfl, by decide +kernel, rfl, by decide +kernel, by decide +kernel⟩
theorem sc_brepr : FnScope ["self"] ["self"] (defScope sBRepr) := ⟨rfl, rfl, rfl, by decide +kernel, rfl, by decide +kernel, by decide +kernel⟩
theorem sc_rrepr : FnScope ["self"] ["self"] (defScope sRRepr) := ⟨rfl, rfl, rfl, by decide +kernel, rfl, by decide +kernel, by decide +kernel⟩
theorem sc_is_whole : FnScope ["thing"] ["thing"] (defScope sWhole) := ⟨rfl, rfl, rfl, by decide +kernel, rfl, by decide +kernel, by decide +kernel⟩
theorem sc_is_within : FnScope ["thing", "low", "high"] ["thing", "low", "high"] (defScope sWithin) := ⟨rfl, rfl, rfl, by decide +kernel, rfl, by decide +kernel, by decide +kernel⟩
theorem sc_is_gap : FnScope ["thing"] ["thing"] (defScope sGap) := ⟨rfl, rfl, rfl, by decide +kernel, rfl, by decide +kernel, by decide +kernel⟩
theorem sc_claiming_ticks : FnScope ["probes", "gap", "wait"] ["probes", "gap", "wait"] (defScope sClaim) := ⟨rfl, rfl, rfl, by decide +kernel, rfl, by decide +kernel, by decide +kernel⟩
theorem sc_least_period : FnScope ["probes", "gap", "wait"] ["probes", "gap", "wait"] (defScope sPeriod) := ⟨rfl, rfl, rfl, by decide +kernel, rfl, by decide +kernel, by decide +kernel⟩
theorem scB : FnScope ["_law_script", "_law_at", "_law_cell", "_law_great", "_law_primes", "_law_mixed"] ["_law_script", "_law_at"] (defScope sBag) := ⟨rfl, rfl, rfl, by decide +kernel, rfl, by decide +kernel, by decide +kernel⟩
theorem scT : FnScope ["_law_bag_here", "_law_many", "_law_digit"] ["_law_bag_here", "_law_many"] (defScope sTake) := ⟨rfl, rfl, rfl, by decide +kernel, rfl, by decide +kernel, by decide +kernel⟩
theorem sc__law_is_whole : FnScope ["_law_thing"] ["_law_thing"] (defScope sLWhole) := ⟨rfl, rfl, rfl, by decide +kernel, rfl, by decide +kernel, by decide +kernel⟩
theorem sc__law_parts : FnScope ["_law_bag_here", "_law_ends", "_law_found", "_law_claiming", "_law_low", "_law_high"] ["_law_bag_here"] (defScope sParts) := ⟨rfl, rfl, rfl, by decide +kernel, rfl, by decide +kernel, by decide +kernel⟩
theorem sc__law_is_rule : FnScope ["_law_parts_here", "_law_ends", "_law_one", "_law_low", "_law_high"] ["_law_parts_here"] (defScope sIsR) := ⟨rfl, rfl, rfl, by decide +kernel, rfl, by decide +kernel, by decide +kernel⟩
theorem sc__law_made_rule : FnScope ["_law_parts_here"] ["_law_parts_here"] (defScope sMade) := ⟨rfl, rfl, rfl, by decide +kernel, rfl, by decide +kernel, by decide +kernel⟩
theorem sc__law_same_right : FnScope ["_law_one", "_law_other", "_law_due", "_law_told"] ["_law_one", "_law_other", "_law_due"] (defScope sSame) := ⟨rfl, rfl, rfl, by decide +kernel, rfl, by decide +kernel, by decide +kernel⟩
theorem sc_law : FnScope ["_law_script", "_law_at", "_law_bag_here", "_law_parts_here", "_law_made", "_law_again", "_law_spot", "_law_step", "_law_other", "_law_few", "_law_old", "_law_held", "_law_one", "_law_two", "_law_thing"] ["_law_script"] (defScope sLaw) := ⟨rfl, rfl, rfl, by decide +kernel, rfl, by decide +kernel, by decide +kernel⟩
theorem sc_binit : FnScope ["self", "lost", "late"] ["self", "lost", "late"] (defScope sBInit) := ⟨rfl, rfl, rfl, by decide +kernel, rfl, by decide +kernel, by decide +kernel⟩
theorem sc_rinit : FnScope ["self", "probes", "gap", "wait", "repeats", "period", "life"] ["self", "probes", "gap", "wait", "repeats", "period", "life"] (defScope sRInit) := ⟨rfl, rfl, rfl, by decide +kernel, rfl, by decide +kernel, by decide +kernel⟩
structure Adr where
  f_is_whole : Addr
  d_is_whole : FuncData
  f_is_within : Addr
  d_is_within : FuncData
  f_is_gap : Addr
  d_is_gap : FuncData
  f_claiming_ticks : Addr
  d_claiming_ticks : FuncData
  f_least_period : Addr
  d_least_period : FuncData
  f__law_bag : Addr
  d__law_bag : FuncData
  f__law_take : Addr
  d__law_take : FuncData
  f__law_is_whole : Addr
  d__law_is_whole : FuncData
  f__law_parts : Addr
  d__law_parts : FuncData
  f__law_is_rule : Addr
  d__law_is_rule : FuncData
  f__law_made_rule : Addr
  d__law_made_rule : FuncData
  f__law_same_right : Addr
  d__law_same_right : FuncData
  f_law : Addr
  d_law : FuncData
  C_Bounds : Addr
  f_Bounds___init__ : Addr
  d_Bounds___init__ : FuncData
  f_Bounds___eq__ : Addr
  d_Bounds___eq__ : FuncData
  f_Bounds___repr__ : Addr
  d_Bounds___repr__ : FuncData
  C_Rule : Addr
  f_Rule___init__ : Addr
  d_Rule___init__ : FuncData
  f_Rule___eq__ : Addr
  d_Rule___eq__ : FuncData
  f_Rule___repr__ : Addr
  d_Rule___repr__ : FuncData
structure Tx (K : PySem.W.Frag) (mg : Str → Option Value) (a : Adr) : Prop where
  F_is_whole : Fun K "is_whole" "is_whole" sWhole a.f_is_whole a.d_is_whole
  g_is_whole : mg "is_whole" = some (.ref a.f_is_whole)
  b_is_whole : Binds K a.d_is_whole ["thing"] []
  F_is_within : Fun K "is_within" "is_within" sWithin a.f_is_within a.d_is_within
  g_is_within : mg "is_within" = some (.ref a.f_is_within)
  b_is_within : Binds K a.d_is_within ["thing", "low", "high"] []
  F_is_gap : Fun K "is_gap" "is_gap" sGap a.f_is_gap a.d_is_gap
  g_is_gap : mg "is_gap" = some (.ref a.f_is_gap)
  b_is_gap : Binds K a.d_is_gap ["thing"] []
  F_claiming_ticks : Fun K "claiming_ticks" "claiming_ticks" sClaim a.f_claiming_ticks a.d_claiming_ticks
  g_claiming_ticks : mg "claiming_ticks" = some (.ref a.f_claiming_ticks)
  b_claiming_ticks : Binds K a.d_claiming_ticks ["probes", "gap", "wait"] []
  F_least_period : Fun K "least_period" "least_period" sPeriod a.f_least_period a.d_least_period
  g_least_period : mg "least_period" = some (.ref a.f_least_period)
  b_least_period : Binds K a.d_least_period ["probes", "gap", "wait"] []
  F__law_bag : Fun K "_law_bag" "_law_bag" sBag a.f__law_bag a.d__law_bag
  g__law_bag : mg "_law_bag" = some (.ref a.f__law_bag)
  b__law_bag : Binds K a.d__law_bag ["_law_script", "_law_at"] []
  F__law_take : Fun K "_law_take" "_law_take" sTake a.f__law_take a.d__law_take
  g__law_take : mg "_law_take" = some (.ref a.f__law_take)
  b__law_take : Binds K a.d__law_take ["_law_bag_here", "_law_many"] []
  F__law_is_whole : Fun K "_law_is_whole" "_law_is_whole" sLWhole a.f__law_is_whole a.d__law_is_whole
  g__law_is_whole : mg "_law_is_whole" = some (.ref a.f__law_is_whole)
  b__law_is_whole : Binds K a.d__law_is_whole ["_law_thing"] []
  F__law_parts : Fun K "_law_parts" "_law_parts" sParts a.f__law_parts a.d__law_parts
  g__law_parts : mg "_law_parts" = some (.ref a.f__law_parts)
  b__law_parts : Binds K a.d__law_parts ["_law_bag_here"] []
  F__law_is_rule : Fun K "_law_is_rule" "_law_is_rule" sIsR a.f__law_is_rule a.d__law_is_rule
  g__law_is_rule : mg "_law_is_rule" = some (.ref a.f__law_is_rule)
  b__law_is_rule : Binds K a.d__law_is_rule ["_law_parts_here"] []
  F__law_made_rule : Fun K "_law_made_rule" "_law_made_rule" sMade a.f__law_made_rule a.d__law_made_rule
  g__law_made_rule : mg "_law_made_rule" = some (.ref a.f__law_made_rule)
  b__law_made_rule : Binds K a.d__law_made_rule ["_law_parts_here"] []
  F__law_same_right : Fun K "_law_same_right" "_law_same_right" sSame a.f__law_same_right a.d__law_same_right
  g__law_same_right : mg "_law_same_right" = some (.ref a.f__law_same_right)
  b__law_same_right : Binds K a.d__law_same_right ["_law_one", "_law_other", "_law_due"] []
  F_law : Fun K "law" "law" sLaw a.f_law a.d_law
  g_law : mg "law" = some (.ref a.f_law)
  b_law : Binds K a.d_law ["_law_script"] []
  g_Bounds : mg "Bounds" = some (.ref a.C_Bounds)
  cl_Bounds : Cls K a.C_Bounds
  n_Bounds_lost : NoAttr K a.C_Bounds "lost"
  n_Bounds_late : NoAttr K a.C_Bounds "late"
  is_Bounds : C8.InsC K a.C_Bounds
  F_Bounds___init__ : Fun K "__init__" "Bounds.__init__" sBInit a.f_Bounds___init__ a.d_Bounds___init__
  mk_Bounds : Mk K a.C_Bounds a.f_Bounds___init__
  F_Bounds___eq__ : Fun K "__eq__" "Bounds.__eq__" sBEq a.f_Bounds___eq__ a.d_Bounds___eq__
  me_Bounds___eq__ : Meth K a.C_Bounds "__eq__" a.f_Bounds___eq__
  b_Bounds___eq__ : Binds K a.d_Bounds___eq__ ["self", "other"] []
  F_Bounds___repr__ : Fun K "__repr__" "Bounds.__repr__" sBRepr a.f_Bounds___repr__ a.d_Bounds___repr__
  me_Bounds___repr__ : Meth K a.C_Bounds "__repr__" a.f_Bounds___repr__
  b_Bounds___repr__ : Binds K a.d_Bounds___repr__ ["self"] []
  g_Rule : mg "Rule" = some (.ref a.C_Rule)
  cl_Rule : Cls K a.C_Rule
  n_Rule_probes : NoAttr K a.C_Rule "probes"
  n_Rule_gap : NoAttr K a.C_Rule "gap"
  n_Rule_wait : NoAttr K a.C_Rule "wait"
  n_Rule_repeats : NoAttr K a.C_Rule "repeats"
  n_Rule_period : NoAttr K a.C_Rule "period"
  n_Rule_life : NoAttr K a.C_Rule "life"
  is_Rule : C8.InsC K a.C_Rule
  F_Rule___init__ : Fun K "__init__" "Rule.__init__" sRInit a.f_Rule___init__ a.d_Rule___init__
  mk_Rule : Mk K a.C_Rule a.f_Rule___init__
  F_Rule___eq__ : Fun K "__eq__" "Rule.__eq__" sREq a.f_Rule___eq__ a.d_Rule___eq__
  me_Rule___eq__ : Meth K a.C_Rule "__eq__" a.f_Rule___eq__
  b_Rule___eq__ : Binds K a.d_Rule___eq__ ["self", "other"] []
  F_Rule___repr__ : Fun K "__repr__" "Rule.__repr__" sRRepr a.f_Rule___repr__ a.d_Rule___repr__
  me_Rule___repr__ : Meth K a.C_Rule "__repr__" a.f_Rule___repr__
  b_Rule___repr__ : Binds K a.d_Rule___repr__ ["self"] []
  q_B1 : KBn K a.d_Bounds___init__ ["self", "lost", "late"] 1 ["lost", "late"] (pick [0, 1, 2]) (pick [0, 1, 2])
  q_B2 : KBn K a.d_Bounds___init__ ["self", "lost", "late"] 1 ["late", "lost"] (pick [0, 2, 1]) (pick [0, 2, 1])
  q_R1 : KBn K a.d_Rule___init__ ["self", "probes", "gap", "wait", "repeats", "period", "life"] 1 ["life", "gap", "probes", "period", "wait", "repeats"] (pick [0, 3, 2, 5, 6, 4, 1]) (pick [0, 3, 2, 5, 6, 4, 1])
  m_len : mg "len" = none
  m_abs : mg "abs" = none
  m_range : mg "range" = none
  m_max : mg "max" = none
  m_min : mg "min" = none
  m_isinstance : mg "isinstance" = none
  m_bool : mg "bool" = none
  m_int : mg "int" = none
  m_all : mg "all" = none
  m_zip : mg "zip" = none
  m_list : mg "list" = none
  m_tuple : mg "tuple" = none
  m_repr : mg "repr" = none
  x_Bounds_NoneType : PySem.W.kitOne K (.type "NoneType") (.ref a.C_Bounds) = some false
  x_Bounds_tuple : PySem.W.kitOne K (.type "tuple") (.ref a.C_Bounds) = some false
  x_Bounds_list : PySem.W.kitOne K (.type "list") (.ref a.C_Bounds) = some false
  x_Bounds_str : PySem.W.kitOne K (.type "str") (.ref a.C_Bounds) = some false
  x_Bounds_int : PySem.W.kitOne K (.type "int") (.ref a.C_Bounds) = some false
  x_Bounds_bool : PySem.W.kitOne K (.type "bool") (.ref a.C_Bounds) = some false
  x_Bounds_Rule : PySem.W.kitOne K (.ref a.C_Rule) (.ref a.C_Bounds) = some false
  x_Bounds_ne : PySem.W.findIn K (.ref a.C_Bounds) "__ne__" = some (some (.builtin "object.__ne__"))
  x_Bounds_no : PySem.W.subIn K (.ref a.C_Bounds) (.type "NoneType") = some false
  x_Rule_NoneType : PySem.W.kitOne K (.type "NoneType") (.ref a.C_Rule) = some false
  x_Rule_tuple : PySem.W.kitOne K (.type "tuple") (.ref a.C_Rule) = some false
  x_Rule_list : PySem.W.kitOne K (.type "list") (.ref a.C_Rule) = some false
  x_Rule_str : PySem.W.kitOne K (.type "str") (.ref a.C_Rule) = some false
  x_Rule_int : PySem.W.kitOne K (.type "int") (.ref a.C_Rule) = some false
  x_Rule_bool : PySem.W.kitOne K (.type "bool") (.ref a.C_Rule) = some false
  x_Rule_Bounds : PySem.W.kitOne K (.ref a.C_Bounds) (.ref a.C_Rule) = some false
  x_Rule_ne : PySem.W.findIn K (.ref a.C_Rule) "__ne__" = some (some (.builtin "object.__ne__"))
  x_Rule_no : PySem.W.subIn K (.ref a.C_Rule) (.type "NoneType") = some false

/-! the mathematics -/
def mx (i j : Int) : Int := if j > i then j else i
def claimT (p g w : Int) : Int := mx (p - 1) 0 * g + w
structure Ru where
  p : Int
  g : Int
  w : Int
  r : Int
  e : Int
  l : Int
structure RuOk (x : Ru) : Prop where
  p : 0 ≤ x.p ∧ x.p ≤ 9
  g : 1 ≤ x.g ∧ x.g ≤ 5
  w : 0 ≤ x.w ∧ x.w ≤ 99
  r : 0 ≤ x.r ∧ x.r ≤ 9
  e : 1 ≤ x.e ∧ x.e ≤ 400
  l : 1 ≤ x.l ∧ x.l ≤ 400
  c : claimT x.p x.g x.w + 2 ≤ x.e
def bF (x y : Int) : List (Str × V) := [("lost", .int x), ("late", .int y)]
def rF (x : Ru) : List (Str × V) := [("probes", .int x.p), ("gap", .int x.g), ("wait", .int x.w), ("repeats", .int x.r), ("period", .int x.e), ("life", .int x.l)]
def BAt (C : Addr) (H : Hp) (b : Addr) (x y : Int) : Prop := ∃ dx, H b = some (.ins C dx (bF x y))
def RAt (C : Addr) (H : Hp) (b : Addr) (x : Ru) : Prop := ∃ dx, H b = some (.ins C dx (rF x))
theorem BAt.same {C : Addr} {H H' : Hp} {b : Addr} {x y : Int} (s : Same H H') (h : BAt C H b x y) : BAt C H' b x y := h.elim fun dx e => ⟨dx, s _ _ e⟩
theorem RAt.same {C : Addr} {H H' : Hp} {b : Addr} {x : Ru} (s : Same H H') (h : RAt C H b x) : RAt C H' b x := h.elim fun dx e => ⟨dx, s _ _ e⟩
structure BdOk (x y : Int) : Prop where
  x : 0 ≤ x ∧ x ≤ 3
  y : 1 ≤ y ∧ y ≤ 5
section
variable {P : Program} {w : World} {K : PySem.W.Frag} {mg : Str → Option Value} {base : Heap} {a : Adr}
/-! _law_take -/
theorem ok_take {f : Addr} {fd : FuncData} {k : Nat} (F : Fun K "_law_take" "_law_take" sTake f fd) : FnOk P w K mg base CX0 (k + 1) f fd ["_law_bag_here", "_law_many"] spTake := by
  refine F.ok scT (fun vs H Q E h => ?_) (fun cdv A outer s H vs Q E hr h => ?_)
  · obtain ⟨a, n, rfl, _⟩ := h
    rfl
  · obtain ⟨a, n, rfl, ⟨g, m, ha, hm⟩, hn, q⟩ := h
    refine ⟨_, pss_cons (ps_if (pt_cmpR op_gt (pe_ix ix_list (pv 0) pe_int (fun _ _ => rfl)) pe_int (nomark _))
        (pss_cons (ps_set (i := 2) scT.nd rfl (.inl rfl) (pe_op op_mod (pe_ix ix_list (pv 0) pe_int (fun _ _ => rfl)) (pv 1)))
        (pss_cons (ps_asg (pe_op op_fdiv (pe_ix ix_list (pv 0) pe_int (fun _ _ => rfl)) (pv 1)) (pg_sub (pv 0) pe_int set_list))
        (pss_one (ps_ret (pv 2))))) pss_nil)
      (pss_cons (ps_asg (pe_op op_mod (pe_op op_add (pe_op op_mul (pe_ix ix_list (pv 0) pe_int (fun _ _ => rfl)) pe_int) pe_int) pe_int) (pg_sub (pv 0) pe_int set_list))
      (pss_one (ps_ret (pe_op op_mod (pe_op op_fdiv (pe_op op_mod (pe_op op_pow (pe_ix ix_list (pv 0) pe_int (fun _ _ => rfl)) pe_int) pe_int) pe_int) (pv 1))))), ?_⟩
    refine ⟨_, rfl, a, _, 0, .int g, rfl, rfl, SqL.of ha, rfl, g, 0, rfl, rfl, _, rfl, ite2 (fun e => ?_) (fun e => ?_)⟩
    · refine ⟨_, rfl, a, _, 0, .int g, rfl, rfl, SqL.of ha, rfl, _, rfl, g, n, rfl, rfl, hn.1, ?_⟩
      refine ⟨_, rfl, a, _, 0, .int g, rfl, rfl, SqL.of ha, rfl, _, rfl, g, n, rfl, rfl, hn, _, rfl, a, _, 0, 0, rfl, rfl, ha, rfl, ?_⟩
      exact ⟨_, rfl, q _ _ (Int.emod_nonneg _ (by omega)) (Int.emod_lt_of_pos _ hn.1) ⟨_, _, upd_same, hm⟩ Kp.at_bag⟩
    · have h0 : 0 ≤ (m * 69069 + 1327217) % 2147483647 := Int.emod_nonneg _ (by omega)
      have h1 : (m * 69069 + 1327217) % 2147483647 < 2147483647 := Int.emod_lt_of_pos _ (by omega)
      refine ⟨_, rfl, a, _, 1, .int m, rfl, rfl, SqL.of ha, rfl, m, 69069, rfl, rfl, .inl ⟨by omega, by omega⟩, _, 1327217, rfl, rfl, _, 2147483647, rfl, rfl, by show (0 : Int) < 2147483647; decide,
        _, rfl, a, _, 1, 1, rfl, rfl, ha, rfl, ?_⟩
      refine ⟨_, rfl, a, _, 1, _, rfl, rfl, SqL.of upd_same, rfl, _, 3, rfl, rfl, ⟨by decide, by decide, by omega⟩, _, 2147483629, rfl, rfl, by show (0 : Int) < 2147483629; decide,
        _, 16, rfl, rfl, ⟨by decide, by decide⟩, _, rfl, _, n, rfl, rfl, hn.1, ?_⟩
      exact q _ _ (Int.emod_nonneg _ (by omega)) (Int.emod_lt_of_pos _ hn.1) ⟨_, _, upd_same, h0, h1⟩ Kp.at_bag
/-! _law_bag -/
def primes : List V := [.int 2147483647, .int 2147483629, .int 2147483587, .int 2147483579, .int 2147483563, .int 2147483549, .int 2147483543, .int 2147483497]
theorem prime_at (i : Nat) : ∃ q : Int, primes[i % 8]? = some (.int q) ∧ 0 < q ∧ q ≤ 2147483647 := by
  have h : i % 8 < 8 := Nat.mod_lt _ (by decide)
  generalize i % 8 = j at h
  match j, h with
  | 0, _ => exact ⟨_, rfl, by decide, by decide⟩
  | 1, _ => exact ⟨_, rfl, by decide, by decide⟩
  | 2, _ => exact ⟨_, rfl, by decide, by decide⟩
  | 3, _ => exact ⟨_, rfl, by decide, by decide⟩
  | 4, _ => exact ⟨_, rfl, by decide, by decide⟩
  | 5, _ => exact ⟨_, rfl, by decide, by decide⟩
  | 6, _ => exact ⟨_, rfl, by decide, by decide⟩
  | 7, _ => exact ⟨_, rfl, by decide, by decide⟩
  | n + 8, h => exact absurd h (by omega)
theorem ok_bag {f : Addr} {fd : FuncData} {k : Nat} (F : Fun K "_law_bag" "_law_bag" sBag f fd) (ml : mg "len" = none) (ma : mg "abs" = none) : FnOk P w K mg base CX0 (k + 1) f fd ["_law_script", "_law_at"] (spBag K) := by
  refine F.ok scB (fun vs H Q E h => ?_) (fun cdv A outer s H vs Q E hr h => ?_)
  · obtain ⟨a, ns, i, rfl, _⟩ := h
    rfl
  · obtain ⟨a, ns, i, rfl, ha, hi, q⟩ := h
    refine ⟨_, pss_cons (ps_set (i := 2) scB.nd rfl (.inl rfl) pe_int)
      (C8.pss_cut (ps_if (pt_cmpR op_lt (pv 1) (pe_callB call_len_seq (by rfl) ml PySem.boot_len (pa_cons (pv 0) pa_nil)) (nomark _)) (pss_one (ps_set (i := 2) scB.nd rfl (.inl rfl) (pe_ix ix_list (pv 0) (pv 1) (fun _ _ => rfl)))) pss_nil)
      (pss_cons (ps_set (i := 3) scB.nd rfl (.inl rfl) pe_int)
      (C8.pss_cut (ps_if (pt_cmpR op_ge (pe_callB call_abs (by rfl) ma (by decide +kernel) (pa_cons (pv 2) pa_nil)) (pe_op op_pow pe_int pe_int) (nomark _)) (pss_one (ps_set (i := 3) scB.nd rfl (.inl rfl) (pe_callB call_abs (by rfl) ma (by decide +kernel) (pa_cons (pv 2) pa_nil)))) pss_nil)
      (pss_cons (ps_set (i := 4) scB.nd rfl (.inl rfl) (pe_lst (pa_cons pe_int (pa_cons pe_int (pa_cons pe_int (pa_cons pe_int (pa_cons pe_int (pa_cons pe_int (pa_cons pe_int (pa_cons pe_int pa_nil))))))))))
      (pss_cons (ps_set (i := 5) scB.nd rfl (.inl rfl) (pe_op op_add (pe_op op_add (pe_op op_add (pe_op op_mul (pe_op op_mod (pv 2) pe_int) pe_int) (pe_op op_mul (pe_op op_mul pe_int (pv 1)) (pv 1))) (pe_op op_mul pe_int (pv 1))) pe_int))
      (pss_one (ps_ret (pe_lst (pa_cons (pv 3) (pa_cons (pe_op op_mod (pv 5) (pe_ix ix_list (pv 4) (pe_op op_mod (pv 1) pe_int) (fun _ _ => rfl))) pa_nil)))))))))), ?_⟩
    refine ⟨fun σ' H' => ∃ c : Int, σ' = [some (.ref a), some (.int (i : Int)), some (.int c), none, none, none] ∧ H = H', ?_, ?_⟩
    · refine ⟨_, rfl, _, rfl, a, _, rfl, .inl ha, _, _, rfl, rfl, _, rfl, ite2 (fun e => ?_) (fun e => ⟨_, rfl, rfl⟩)⟩
      have h1 : i < ns.length := by
        have z := of_decide_eq_true e
        rw [List.length_map] at z
        omega
      refine ⟨_, rfl, _, rfl, a, _, _, .int ns[i], rfl, rfl, ha, atI_nat ?_, ⟨_, rfl, rfl⟩⟩
      rw [List.getElem?_map, List.getElem?_eq_getElem h1]
      rfl
    · rintro σ' H' ⟨c, rfl, rfl⟩
      refine ⟨fun σ' H' => ∃ g : Int, σ' = [some (.ref a), some (.int (i : Int)), some (.int c), some (.int g), none, none] ∧ H = H', ?_, ?_⟩
      · exact ⟨_, rfl, c, rfl, _, 18, rfl, rfl, ⟨by decide, by decide, by decide⟩, _, _, rfl, rfl, _, rfl, ite2 (fun e => ⟨_, rfl, c, rfl, ⟨_, rfl, rfl⟩⟩) (fun e => ⟨_, rfl, rfl⟩)⟩
      · rintro σ' H' ⟨g, rfl, rfl⟩
        refine ⟨by show 8 ≤ sizeLine; decide, fun p np => ?_⟩
        have s1 := same_upd (o := .lst primes) np
        obtain ⟨z, hz, z1, z2⟩ := prime_at i
        refine ⟨_, rfl, c, 2147483647, rfl, rfl, by show (0 : Int) < 2147483647; decide, _, 50021, rfl, rfl, .inr ⟨by decide, by decide⟩, _, rfl, 70001, (i : Int), rfl, rfl, .inl ⟨by decide, by decide⟩,
          _, rfl, _, (i : Int), rfl, rfl, .inr ⟨by omega, by omega⟩, _, _, rfl, rfl, _, rfl, 9001, (i : Int), rfl, rfl, .inl ⟨by decide, by decide⟩, _, _, rfl, rfl, _, 7717, rfl, rfl, ?_⟩
        refine ⟨_, rfl, _, rfl, _, rfl, _, rfl, (i : Int), 8, rfl, rfl, by show (0 : Int) < 8; decide, p, primes, ((i % 8 : Nat) : Int), .int z, rfl, ?_, SqL.of upd_same, atI_nat hz, _, z, rfl, rfl, z1, by show 2 ≤ sizeLine; decide, fun p2 np2 => ?_⟩
        · show V.int ((i : Int) % 8) = _
          rw [Int.natCast_emod]
          rfl
        exact q _ p2 (s1.trans (same_upd np2)) (s1.free np2) ⟨_, _, upd_same, Int.emod_nonneg _ (by omega), Int.lt_of_lt_of_le (Int.emod_lt_of_pos _ z1) z2⟩

theorem ok__law_take (T : Tx K mg a) : FnOk P w K mg base CX0 1 a.f__law_take a.d__law_take ["_law_bag_here", "_law_many"] spTake := ok_take T.F__law_take
theorem ok__law_bag (T : Tx K mg a) : FnOk P w K mg base CX0 1 a.f__law_bag a.d__law_bag ["_law_script", "_law_at"] (spBag K) := ok_bag T.F__law_bag T.m_len T.m_abs
/-! small defs -/
def spWhole : Sp := fun vs H Q _ => ∃ i : Int, vs = [.int i] ∧ Q (.bl true) H
theorem ok_is_whole (T : Tx K mg a) : FnOk P w K mg base CX0 1 a.f_is_whole a.d_is_whole ["thing"] spWhole := by
  refine T.F_is_whole.ok sc_is_whole (fun vs H Q E h => ?_) (fun cdv A outer s H vs Q E hr h => ?_)
  · obtain ⟨i, rfl, _⟩ := h
    rfl
  · obtain ⟨i, rfl, q⟩ := h
    refine ⟨_, (pss_one (ps_ret (pe_and (pe_callB call_isi (by rfl) T.m_isinstance (by decide +kernel) (pa_cons (pv 0) (pa_cons (pe_bltn (v := .ty "int") (by rfl) T.m_int (by decide +kernel) rfl) pa_nil))) (pe_one (pe_not (pe_callB call_isi (by rfl) T.m_isinstance (by decide +kernel) (pa_cons (pv 0) (pa_cons (pe_bltn (v := .ty "bool") (by rfl) T.m_bool (by decide +kernel) rfl) pa_nil)))))))), ?_⟩
    refine ⟨_, rfl, _, _, _, _, true, rfl, .ty _, .base (.int i), kit_ty (by decide +kernel), true, rfl, ?_⟩
    exact iteT ⟨_, rfl, _, _, _, _, false, rfl, .ty _, .base (.int i), kit_ty (by decide +kernel), false, rfl, q⟩
theorem ok__law_is_whole (T : Tx K mg a) : FnOk P w K mg base CX0 1 a.f__law_is_whole a.d__law_is_whole ["_law_thing"] spWhole := by
  refine T.F__law_is_whole.ok sc__law_is_whole (fun vs H Q E h => ?_) (fun cdv A outer s H vs Q E hr h => ?_)
  · obtain ⟨i, rfl, _⟩ := h
    rfl
  · obtain ⟨i, rfl, q⟩ := h
    refine ⟨_, (pss_one (ps_ret (pe_and (pe_callB call_isi (by rfl) T.m_isinstance (by decide +kernel) (pa_cons (pv 0) (pa_cons (pe_bltn (v := .ty "int") (by rfl) T.m_int (by decide +kernel) rfl) pa_nil))) (pe_one (pe_not (pe_callB call_isi (by rfl) T.m_isinstance (by decide +kernel) (pa_cons (pv 0) (pa_cons (pe_bltn (v := .ty "bool") (by rfl) T.m_bool (by decide +kernel) rfl) pa_nil)))))))), ?_⟩
    refine ⟨_, rfl, _, _, _, _, true, rfl, .ty _, .base (.int i), kit_ty (by decide +kernel), true, rfl, ?_⟩
    exact iteT ⟨_, rfl, _, _, _, _, false, rfl, .ty _, .base (.int i), kit_ty (by decide +kernel), false, rfl, q⟩
def within (t lo hi : Int) : Bool := decide (lo ≤ t) && decide (t ≤ hi)
def spWithin : Sp := fun vs H Q _ => ∃ t lo hi : Int, vs = [.int t, .int lo, .int hi] ∧ Q (.bl (within t lo hi)) H
theorem ok_is_within (T : Tx K mg a) : FnOk P w K mg base CX0 2 a.f_is_within a.d_is_within ["thing", "low", "high"] spWithin := by
  refine T.F_is_within.ok sc_is_within (fun vs H Q E h => ?_) (fun cdv A outer s H vs Q E hr h => ?_)
  · obtain ⟨i, lo, hi, rfl, _⟩ := h
    rfl
  · obtain ⟨i, lo, hi, rfl, q⟩ := h
    refine ⟨_, (pss_one (ps_ret (pe_and (pe_call (ok_is_whole T) (hr.mono (by decide)) (by rfl) T.g_is_whole T.F_is_whole.kp T.b_is_whole .nil pass0 (pa_cons (pv 0) pa_nil)) (pe_one (pe_chain op_le op_le (pv 1) (pv 0) (pv 2)))))), ?_⟩
    refine ⟨_, rfl, i, rfl, true, rfl, iteT ?_⟩
    refine ⟨_, rfl, _, rfl, lo, i, rfl, rfl, _, rfl, ite2 (fun e => ?_) (fun e => ?_)⟩
    · refine ⟨_, rfl, i, hi, rfl, rfl, ?_⟩
      unfold within at q
      rw [e, Bool.true_and] at q
      exact q
    · unfold within at q
      rw [Bool.not_eq_true _ |>.mp e, Bool.false_and] at q
      exact q
def spGap : Sp := fun vs H Q _ => ∃ t : Int, vs = [.int t] ∧ Q (.bl (within t 1 5)) H
theorem ok_is_gap (T : Tx K mg a) : FnOk P w K mg base CX0 3 a.f_is_gap a.d_is_gap ["thing"] spGap := by
  refine T.F_is_gap.ok sc_is_gap (fun vs H Q E h => ?_) (fun cdv A outer s H vs Q E hr h => ?_)
  · obtain ⟨i, rfl, _⟩ := h
    rfl
  · obtain ⟨i, rfl, q⟩ := h
    exact ⟨_, (pss_one (ps_ret (pe_call (ok_is_within T) (hr.mono (by decide)) (by rfl) T.g_is_within T.F_is_within.kp T.b_is_within .nil pass0 (pa_cons (pv 0) (pa_cons pe_int (pa_cons pe_int pa_nil)))))), ⟨_, rfl, i, 1, 5, rfl, q⟩⟩
def big (i : Int) : Prop := -1000000 ≤ i ∧ i ≤ 1000000
def spClaim : Sp := fun vs H Q _ => ∃ p g w : Int, vs = [.int p, .int g, .int w] ∧ big p ∧ Q (.int (claimT p g w)) H
theorem ok_claiming_ticks (T : Tx K mg a) : FnOk P w K mg base CX0 1 a.f_claiming_ticks a.d_claiming_ticks ["probes", "gap", "wait"] spClaim := by
  refine T.F_claiming_ticks.ok sc_claiming_ticks (fun vs H Q E h => ?_) (fun cdv A outer s H vs Q E hr h => ?_)
  · obtain ⟨p, g, w, rfl, _⟩ := h
    rfl
  · obtain ⟨p, g, w, rfl, hp, q⟩ := h
    refine ⟨_, (pss_one (ps_ret (pe_op op_add (pe_op op_mul (pe_callB (call_max2 rfl) (by rfl) T.m_max (by decide +kernel) (pa_cons (pe_op op_sub (pv 0) pe_int) (pa_cons pe_int pa_nil))) (pv 1)) (pv 2)))), ?_⟩
    obtain ⟨h1, h2⟩ := hp
    exact ⟨_, rfl, p, 1, rfl, rfl, p - 1, 0, rfl, _, rfl, _, g, rfl, rfl, .inl ⟨by split <;> omega, by split <;> omega⟩, _, rfl, _, w, rfl, rfl, q⟩
def spPeriod : Sp := fun vs H Q _ => ∃ p g w : Int, vs = [.int p, .int g, .int w] ∧ big p ∧ Q (.int (claimT p g w + 2)) H
theorem ok_least_period (T : Tx K mg a) : FnOk P w K mg base CX0 2 a.f_least_period a.d_least_period ["probes", "gap", "wait"] spPeriod := by
  refine T.F_least_period.ok sc_least_period (fun vs H Q E h => ?_) (fun cdv A outer s H vs Q E hr h => ?_)
  · obtain ⟨p, g, w, rfl, _⟩ := h
    rfl
  · obtain ⟨p, g, w, rfl, hp, q⟩ := h
    exact ⟨_, (pss_one (ps_ret (pe_op op_add (pe_call (ok_claiming_ticks T) (hr.mono (by decide)) (by rfl) T.g_claiming_ticks T.F_claiming_ticks.kp T.b_claiming_ticks .nil pass0 (pa_cons (pv 0) (pa_cons (pv 1) (pa_cons (pv 2) pa_nil)))) pe_int))), ⟨_, rfl, _, rfl, _, rfl, p, g, w, rfl, hp, _, 2, rfl, rfl, q⟩⟩
/-! Bounds, Rule -/
theorem within_of {t lo hi : Int} (h : lo ≤ t ∧ t ≤ hi) : within t lo hi = true := by
  unfold within
  rw [decide_eq_true h.1, decide_eq_true h.2]
  rfl
theorem wt {t lo hi : Int} (h : lo ≤ t ∧ t ≤ hi) : V.bl (within t lo hi) = .bl true := congrArg V.bl (within_of h)
def spBI (C : Addr) : Sp := fun vs H Q _ => ∃ (b dx : Addr) (x y : Int), vs = [.ref b, .int x, .int y] ∧ H b = some (.ins C dx []) ∧ BdOk x y ∧ Q .non (upd H b (.ins C dx (bF x y)))
theorem bF_eq (x y : Int) : putF "late" (.int y) (putF "lost" (.int x) []) = bF x y := rfl
theorem ok_binit (T : Tx K mg a) : FnOk P w K mg base CX0 3 a.f_Bounds___init__ a.d_Bounds___init__ ["self", "lost", "late"] (spBI a.C_Bounds) := by
  refine T.F_Bounds___init__.ok sc_binit (fun vs H Q E h => ?_) (fun cdv A outer s H vs Q E hr h => ?_)
  · obtain ⟨b, dx, x, y, rfl, _⟩ := h
    rfl
  · obtain ⟨b, dx, x, y, rfl, hb, ok, q⟩ := h
    refine ⟨_, (pss_cons (ps_if (pt_not (PW.pt (pw_and (pt_val (pe_call (ok_is_within T) (hr.mono (by decide)) (by rfl) T.g_is_within T.F_is_within.kp T.b_is_within .nil pass0 (pa_cons (pv 1) (pa_cons pe_int (pa_cons pe_int pa_nil))))) (pw_and1 (pt_val (pe_call (ok_is_within T) (hr.mono (by decide)) (by rfl) T.g_is_within T.F_is_within.kp T.b_is_within .nil pass0 (pa_cons (pv 2) (pa_cons pe_int (pa_cons pe_int pa_nil))))))))) (pss_one ps_never) pss_nil)
      (pss_cons (ps_fld (pv 0) (pv 1) rfl)
      (pss_one (ps_fld (pv 0) (pv 2) rfl)))), ?_⟩
    refine ⟨_, rfl, x, 0, 3, rfl, true, wt ok.x, iteT ⟨_, rfl, y, 1, 5, rfl, true, wt ok.y, iteF ?_⟩⟩
    refine ⟨_, rfl, _, rfl, b, a.C_Bounds, dx, _, rfl, hb, T.cl_Bounds, T.n_Bounds_lost, by show 0 < 1000; decide, ?_⟩
    refine ⟨_, rfl, _, rfl, b, a.C_Bounds, dx, _, rfl, upd_same, T.cl_Bounds, T.n_Bounds_late, by show 1 < 1000; decide, ?_⟩
    rw [upd_upd]
    exact q
def spRI (C : Addr) : Sp := fun vs H Q _ => ∃ (b dx : Addr) (x : Ru), vs = [.ref b, .int x.p, .int x.g, .int x.w, .int x.r, .int x.e, .int x.l] ∧ H b = some (.ins C dx []) ∧ RuOk x ∧ Q .non (upd H b (.ins C dx (rF x)))
theorem ok_rinit (T : Tx K mg a) : FnOk P w K mg base CX0 4 a.f_Rule___init__ a.d_Rule___init__ ["self", "probes", "gap", "wait", "repeats", "period", "life"] (spRI a.C_Rule) := by
  refine T.F_Rule___init__.ok sc_rinit (fun vs H Q E h => ?_) (fun cdv A outer s H vs Q E hr h => ?_)
  · obtain ⟨b, dx, x, rfl, _⟩ := h
    rfl
  · obtain ⟨b, dx, x, rfl, hb, ok, q⟩ := h
    refine ⟨_, (pss_cons (ps_if (pt_not (PW.pt (pw_and (pt_val (pe_call (ok_is_within T) (hr.mono (by decide)) (by rfl) T.g_is_within T.F_is_within.kp T.b_is_within .nil pass0 (pa_cons (pv 1) (pa_cons pe_int (pa_cons pe_int pa_nil))))) (pw_and (pt_val (pe_call (ok_is_gap T) (hr.mono (by decide)) (by rfl) T.g_is_gap T.F_is_gap.kp T.b_is_gap .nil pass0 (pa_cons (pv 2) pa_nil))) (pw_and1 (pt_val (pe_call (ok_is_within T) (hr.mono (by decide)) (by rfl) T.g_is_within T.F_is_within.kp T.b_is_within .nil pass0 (pa_cons (pv 3) (pa_cons pe_int (pa_cons pe_int pa_nil)))))))))) (pss_one ps_never) pss_nil)
      (pss_cons (ps_if (pt_not (PW.pt (pw_and (pt_val (pe_call (ok_is_within T) (hr.mono (by decide)) (by rfl) T.g_is_within T.F_is_within.kp T.b_is_within .nil pass0 (pa_cons (pv 4) (pa_cons pe_int (pa_cons pe_int pa_nil))))) (pw_and (pt_val (pe_call (ok_is_within T) (hr.mono (by decide)) (by rfl) T.g_is_within T.F_is_within.kp T.b_is_within .nil pass0 (pa_cons (pv 5) (pa_cons pe_int (pa_cons pe_int pa_nil))))) (pw_and1 (pt_val (pe_call (ok_is_within T) (hr.mono (by decide)) (by rfl) T.g_is_within T.F_is_within.kp T.b_is_within .nil pass0 (pa_cons (pv 6) (pa_cons pe_int (pa_cons pe_int pa_nil)))))))))) (pss_one ps_never) pss_nil)
      (pss_cons (ps_if (pt_cmpR op_lt (pv 5) (pe_call (ok_least_period T) (hr.mono (by decide)) (by rfl) T.g_least_period T.F_least_period.kp T.b_least_period .nil pass0 (pa_cons (pv 1) (pa_cons (pv 2) (pa_cons (pv 3) pa_nil)))) (nomark _)) (pss_one ps_never) pss_nil)
      (pss_cons (ps_fld (pv 0) (pv 1) rfl)
      (pss_cons (ps_fld (pv 0) (pv 2) rfl)
      (pss_cons (ps_fld (pv 0) (pv 3) rfl)
      (pss_cons (ps_fld (pv 0) (pv 4) rfl)
      (pss_cons (ps_fld (pv 0) (pv 5) rfl)
      (pss_one (ps_fld (pv 0) (pv 6) rfl)))))))))), ?_⟩
    refine ⟨_, rfl, _, 0, 9, rfl, true, wt ok.p, iteT ⟨_, rfl, _, rfl, true, wt ok.g, iteT ⟨_, rfl, _, 0, 99, rfl, true, wt ok.w, iteF ?_⟩⟩⟩
    refine ⟨_, rfl, _, 0, 9, rfl, true, wt ok.r, iteT ⟨_, rfl, _, 1, 400, rfl, true, wt ok.e, iteT ⟨_, rfl, _, 1, 400, rfl, true, wt ok.l, iteF ?_⟩⟩⟩
    have hp := ok.p
    have hc := ok.c
    refine ⟨_, rfl, _, rfl, _, rfl, _, rfl, _, _, _, rfl, ⟨by omega, by omega⟩, _, _, rfl, rfl, _, rfl, ?_⟩
    rw [decide_eq_false (by omega)]
    refine iteF ?_
    refine ⟨_, rfl, _, rfl, b, a.C_Rule, dx, _, rfl, hb, T.cl_Rule, T.n_Rule_probes, by show 0 < 1000; decide, ?_⟩
    refine ⟨_, rfl, _, rfl, b, a.C_Rule, dx, _, rfl, upd_same, T.cl_Rule, T.n_Rule_gap, by show 1 < 1000; decide, ?_⟩
    refine ⟨_, rfl, _, rfl, b, a.C_Rule, dx, _, rfl, upd_same, T.cl_Rule, T.n_Rule_wait, by show 2 < 1000; decide, ?_⟩
    refine ⟨_, rfl, _, rfl, b, a.C_Rule, dx, _, rfl, upd_same, T.cl_Rule, T.n_Rule_repeats, by show 3 < 1000; decide, ?_⟩
    refine ⟨_, rfl, _, rfl, b, a.C_Rule, dx, _, rfl, upd_same, T.cl_Rule, T.n_Rule_period, by show 4 < 1000; decide, ?_⟩
    refine ⟨_, rfl, _, rfl, b, a.C_Rule, dx, _, rfl, upd_same, T.cl_Rule, T.n_Rule_life, by show 5 < 1000; decide, ?_⟩
    rw [upd_upd, upd_upd, upd_upd, upd_upd, upd_upd]
    exact q
theorem five {g : Int} (h : 1 ≤ g ∧ g ≤ 5) : g = 1 ∨ g = 2 ∨ g = 3 ∨ g = 4 ∨ g = 5 := by omega
theorem same_made {H : Hp} {x dx C : Addr} {fs : List (Str × V)} (nx : H x = none) (nd : H dx = none) : Same H (upd (upd (upd H dx (.own x)) x (.ins C dx [])) x (.ins C dx fs)) := by
  intro b o e
  rw [upd_ne (ne_of_none e nx), upd_ne (ne_of_none e nx), upd_ne (ne_of_none e nd)]
  exact e
def six (x : Ru) : List V := [.int x.p, .int x.g, .int x.w, .int x.r, .int x.e, .int x.l]
theorem mx_comm (p : Int) : mx 0 (p - 1) = mx (p - 1) 0 := by
  unfold mx
  split <;> split <;> omega
def spMade (K : PySem.W.Frag) (C : Addr) : Sp := fun vs H Q _ => ∃ (l : Addr) (x : Ru), vs = [.ref l] ∧ SqL K H l (six x) ∧ RuOk x ∧ ∀ (p : Addr) (H' : Hp), Same H H' → H p = none → RAt C H' p x → Q (.ref p) H'
theorem ok__law_made_rule (T : Tx K mg a) : FnOk P w K mg base CX0 6 a.f__law_made_rule a.d__law_made_rule ["_law_parts_here"] (spMade K a.C_Rule) := by
  refine T.F__law_made_rule.ok sc__law_made_rule (fun vs H Q E h => ?_) (fun cdv A outer s H vs Q E hr h => ?_)
  · obtain ⟨l, x, rfl, _⟩ := h
    rfl
  · obtain ⟨l, x, rfl, hl, ok, q⟩ := h
    refine ⟨_, (pss_one (ps_ret (pe_makeK0 T.mk_Rule (ok_rinit T) (hr.mono (by decide)) (by rfl) T.g_Rule T.q_R1 pass0 (pk_cons (pe_ix ix_list (pv 0) pe_int (fun _ _ => rfl)) (pk_cons (pe_ix ix_list (pv 0) pe_int (fun _ _ => rfl)) (pk_cons (pe_ix ix_list (pv 0) pe_int (fun _ _ => rfl)) (pk_cons (pe_ix ix_list (pv 0) pe_int (fun _ _ => rfl)) (pk_cons (pe_ix ix_list (pv 0) pe_int (fun _ _ => rfl)) (pk_cons (pe_ix ix_list (pv 0) pe_int (fun _ _ => rfl)) pk_nil))))))))), ?_⟩
    refine ⟨_, rfl, l, _, 5, .int x.l, rfl, rfl, hl, rfl, _, rfl, l, _, 1, .int x.g, rfl, rfl, hl, rfl, _, rfl, l, _, 0, .int x.p, rfl, rfl, hl, rfl, _, rfl, l, _, 4, .int x.e, rfl, rfl, hl, rfl, _, rfl, l, _, 2, .int x.w, rfl, rfl, hl, rfl, _, rfl, l, _, 3, .int x.r, rfl, rfl, hl, rfl, rfl, rfl, fun p dp np nd ne => ?_⟩
    exact ⟨p, dp, x, rfl, upd_same, ok, rfl, q p _ (same_made np nd) np ⟨dp, upd_same⟩⟩
/-! _law_parts -/
inductive Prs (H : Hp) : List (Int × Int) → List V → Prop
  | nil : Prs H [] []
  | cons {r : Int × Int} {p : Addr} {rs : List (Int × Int)} {ps : List V} : H p = some (.tup [.int r.1, .int r.2]) → Prs H rs ps → Prs H (r :: rs) (.ref p :: ps)
theorem Prs.tk {H H' : Hp} (k : Tk H H') : ∀ {rs : List (Int × Int)} {ps : List V}, Prs H rs ps → Prs H' rs ps
  | _, _, .nil => .nil
  | _, _, .cons h t => .cons (k _ _ h) (Prs.tk k t)
theorem Prs.get {H : Hp} : ∀ {rs : List (Int × Int)} {ps : List V} {n : Nat} {x : V}, Prs H rs ps → ps[n]? = some x → ∃ (p : Addr) (r : Int × Int), x = .ref p ∧ rs[n]? = some r ∧ H p = some (.tup [.int r.1, .int r.2])
  | _, _, _, _, .nil, e => by simp at e
  | _, _, 0, _, .cons (r := r) (p := p) h _, e => ⟨p, r, (Option.some.inj e).symm, rfl, h⟩
  | _, _, n + 1, x, .cons _ t, e => Prs.get (n := n) (x := x) t e
def ends : List (Int × Int) := [(0, 9), (1, 5), (0, 99), (0, 9), (1, 400), (1, 400)]
structure PaOk (x : Ru) : Prop where
  p : 0 ≤ x.p ∧ x.p ≤ 9
  g : 1 ≤ x.g ∧ x.g ≤ 5
  w : 0 ≤ x.w ∧ x.w ≤ 99
  r : 0 ≤ x.r ∧ x.r ≤ 9
  e : 1 ≤ x.e ∧ x.e ≤ 400
  l : 1 ≤ x.l ∧ x.l ≤ 400
theorem ends_wide : ∀ r ∈ ends, r.1 + 3 ≤ r.2 ∧ 0 ≤ r.1 ∧ r.2 ≤ 400 := by decide
theorem claim_le {p g w : Int} (hp : 0 ≤ p ∧ p ≤ 9) (hg : 1 ≤ g ∧ g ≤ 5) (hw : 0 ≤ w ∧ w ≤ 99) : 0 ≤ claimT p g w ∧ claimT p g w ≤ 139 := by
  have h : mx (p - 1) 0 = 0 ∨ mx (p - 1) 0 = p - 1 := by
    unfold mx
    split
    · exact .inl rfl
    · exact .inr rfl
  have h0 : 0 ≤ mx (p - 1) 0 ∧ mx (p - 1) 0 ≤ 8 := by
    unfold mx
    split <;> omega
  unfold claimT
  generalize mx (p - 1) 0 = m at h0
  rcases five hg with rfl | rfl | rfl | rfl | rfl <;> omega
def spParts (ok : Ru → Prop) : Sp := fun vs H Q _ => ∃ b : Addr, vs = [.ref b] ∧ Bag H b ∧ ∀ (l : Addr) (x : Ru) (H' : Hp), H l = none → l ≠ b → H' l = some (.lst (six x)) → ok x → Bag H' b → Kp b H H' → Q (.ref l) H'
theorem ok__law_parts (T : Tx K mg a) : FnOk P w K mg base CX0 2 a.f__law_parts a.d__law_parts ["_law_bag_here"] (spParts PaOk) := by
  refine T.F__law_parts.ok sc__law_parts (fun vs H Q E h => ?_) (fun cdv A outer s H vs Q E hr h => ?_)
  · obtain ⟨b, rfl, _⟩ := h
    rfl
  · obtain ⟨bg, rfl, hb, q⟩ := h
    refine ⟨_, (pss_cons (ps_set (i := 1) sc__law_parts.nd rfl (.inl rfl) (pe_lst (pa_cons (pe_tup (pa_cons pe_int (pa_cons pe_int pa_nil))) (pa_cons (pe_tup (pa_cons pe_int (pa_cons pe_int pa_nil))) (pa_cons (pe_tup (pa_cons pe_int (pa_cons pe_int pa_nil))) (pa_cons (pe_tup (pa_cons pe_int (pa_cons pe_int pa_nil))) (pa_cons (pe_tup (pa_cons pe_int (pa_cons pe_int pa_nil))) (pa_cons (pe_tup (pa_cons pe_int (pa_cons pe_int pa_nil))) pa_nil))))))))
      (pss_cons (ps_setLc (i := 2) (own := [("_law_low", 4), ("_law_high", 5)]) (g := gTup K 2 (gCons (gName 4) (gCons (gName 5) gNil))) rfl sc__law_parts.nd rfl rfl (sw_true rfl rfl rfl (by decide +kernel)) (pi_list (pv 1)) (blkOk_by (N := ["_law_bag_here", "_law_ends", "_law_found", "_law_claiming", "_law_low", "_law_high"]) (sc := defScope sParts) (by decide +kernel)) (fun _ _ _ _ _ => (pg_tup rfl (pgs_cons (pg_name (i := 4) sc__law_parts.nd rfl (.inl rfl)) (pgs_cons (pg_name (i := 5) sc__law_parts.nd rfl (.inl rfl)) pgs_nil)))) (fun _ _ _ _ _ => pts_nil) (fun _ _ _ _ _ => (pe_ix (r := rIxL K) ix_list (pe_lst (pa_cons (pv 4) (pa_cons (pv 5) (pa_cons (pe_op op_add (pv 4) (pe_call (ok__law_take T) (hr.mono (by decide)) (by rfl) T.g__law_take T.F__law_take.kp T.b__law_take .nil pass0 (pa_cons (pv 0) (pa_cons (pe_op op_add (pe_op op_sub (pv 5) (pv 4)) pe_int) pa_nil)))) (pa_cons (pe_op op_add (pv 4) (pe_call (ok__law_take T) (hr.mono (by decide)) (by rfl) T.g__law_take T.F__law_take.kp T.b__law_take .nil pass0 (pa_cons (pv 0) (pa_cons pe_int pa_nil)))) pa_nil))))) (pe_call (ok__law_take T) (hr.mono (by decide)) (by rfl) T.g__law_take T.F__law_take.kp T.b__law_take .nil pass0 (pa_cons (pv 0) (pa_cons pe_int pa_nil))) (fun _ _ => rfl))))
      (pss_cons (ps_set (i := 3) sc__law_parts.nd rfl (.inl rfl) (pe_op op_add (pe_op op_mul (pe_callB (call_max2 rfl) (by rfl) T.m_max (by decide +kernel) (pa_cons pe_int (pa_cons (pe_op op_sub (pe_ix ix_list (pv 2) pe_int (fun _ _ => rfl)) pe_int) pa_nil))) (pe_ix ix_list (pv 2) pe_int (fun _ _ => rfl))) (pe_ix ix_list (pv 2) pe_int (fun _ _ => rfl))))
      (pss_cons (ps_asg (pe_ix ix_list (pe_lst (pa_cons (pe_ix ix_list (pv 2) pe_int (fun _ _ => rfl)) (pa_cons (pe_op op_add (pv 3) pe_int) (pa_cons (pe_op op_add (pv 3) pe_int) (pa_cons (pe_callB (call_min2 rfl) (by rfl) T.m_min (by decide +kernel) (pa_cons pe_int (pa_cons (pe_op op_add (pe_op op_add (pv 3) pe_int) (pe_call (ok__law_take T) (hr.mono (by decide)) (by rfl) T.g__law_take T.F__law_take.kp T.b__law_take .nil pass0 (pa_cons (pv 0) (pa_cons pe_int pa_nil)))) pa_nil))) pa_nil))))) (pe_call (ok__law_take T) (hr.mono (by decide)) (by rfl) T.g__law_take T.F__law_take.kp T.b__law_take .nil pass0 (pa_cons (pv 0) (pa_cons pe_int pa_nil))) (fun _ _ => rfl)) (pg_sub (pv 2) pe_int set_list))
      (pss_one (ps_ret (pv 2))))))), ?_⟩
    refine ⟨by show 2 ≤ sizeLine; decide, fun t1 n1 => ?_⟩
    generalize e1 : upd H t1 _ = H1
    obtain ⟨s1, f1⟩ := fresh n1 e1
    refine ⟨by show 2 ≤ sizeLine; decide, fun t2 n2 => ?_⟩
    generalize e2 : upd H1 t2 _ = H2
    obtain ⟨s2, f2⟩ := fresh n2 e2
    refine ⟨by show 2 ≤ sizeLine; decide, fun t3 n3 => ?_⟩
    generalize e3 : upd H2 t3 _ = H3
    obtain ⟨s3, f3⟩ := fresh n3 e3
    refine ⟨by show 2 ≤ sizeLine; decide, fun t4 n4 => ?_⟩
    generalize e4 : upd H3 t4 _ = H4
    obtain ⟨s4, f4⟩ := fresh n4 e4
    refine ⟨by show 2 ≤ sizeLine; decide, fun t5 n5 => ?_⟩
    generalize e5 : upd H4 t5 _ = H5
    obtain ⟨s5, f5⟩ := fresh n5 e5
    refine ⟨by show 2 ≤ sizeLine; decide, fun t6 n6 => ?_⟩
    generalize e6 : upd H5 t6 _ = H6
    obtain ⟨s6, f6⟩ := fresh n6 e6
    refine ⟨by show 6 ≤ sizeLine; decide, fun en n7 => ?_⟩
    generalize e7 : upd H6 en _ = H7
    obtain ⟨s7, f7⟩ := fresh n7 e7
    have s27 := s2.trans (s3.trans (s4.trans (s5.trans (s6.trans s7))))
    have sm : Same H H7 := s1.trans s27
    have pr : Prs H7 ends [.ref t1, .ref t2, .ref t3, .ref t4, .ref t5, .ref t6] := .cons (s27 _ _ f1) (.cons (s3.trans (s4.trans (s5.trans (s6.trans s7))) _ _ f2) (.cons (s4.trans (s5.trans (s6.trans s7)) _ _ f3) (.cons (s5.trans (s6.trans s7) _ _ f4) (.cons (s6.trans s7 _ _ f5) (.cons (s7 _ _ f6) .nil)))))
    have hb7 : Bag H7 bg := by
      obtain ⟨g, m, e, r⟩ := hb
      exact ⟨g, m, sm _ _ e, r⟩
    have nen : en ≠ bg := by
      obtain ⟨o, ho⟩ := hb.some
      exact (ne_of_none ((s1.trans (s2.trans (s3.trans (s4.trans (s5.trans s6))))) _ _ ho) n7).symm
    clear s2 s3 s4 s5 s6 s7 s27 s1 e1 e2 e3 e4 e5 e6 e7
    refine ⟨_, rfl, en, rfl, ⟨_, SqL.of f7⟩, fun D hD => ?_⟩
    have nD : D ≠ bg := hb7.ne hD
    refine lc_list (xs := [.ref t1, .ref t2, .ref t3, .ref t4, .ref t5, .ref t6]) (fun i H' => ∃ fs : List Int, fs.length = i ∧ (∀ (n : Nat) (v : Int) (e : Int × Int), fs[n]? = some v → ends[n]? = some e → e.1 ≤ v ∧ v ≤ e.2) ∧ H' D = some (.lst (fs.map V.int)) ∧ Bag H' bg ∧ Kp bg H7 H')
      ⟨[], rfl, (fun n v e h => nomatch (show (none : Option Int) = some v from h)), by rw [upd_same]; rfl, hb7.new hD, Kp.new hD⟩ (fun i H' _ hP => ?_) (fun i x H' hx hP => ?_) (fun H' hP => ?_)
    · obtain ⟨fs, _, _, _, _, k'⟩ := hP
      exact SqL.of (k' _ _ nen f7)
    · obtain ⟨fs, hl, hr', hd, hb', k'⟩ := hP
      obtain ⟨p, r, rfl, hre, hp⟩ := pr.get hx
      have hp' : H' p = some (.tup [.int r.1, .int r.2]) := (k'.tk hb7) _ _ hp
      obtain ⟨w1, w2, w3⟩ := ends_wide r (List.mem_of_getElem? hre)
      refine ⟨p, _, rfl, SqT.of hp', rfl, _, _, rfl, _, _, rfl, rfl, rfl, ?_⟩
      refine ⟨_, rfl, _, rfl, _, rfl, _, rfl, _, rfl, _, rfl, r.2, r.1, rfl, rfl, _, 1, rfl, rfl, bg, _, rfl, hb', ⟨by omega, by omega⟩, fun d1 Ha d10 d11 hba ka => ?_⟩
      refine ⟨r.1, d1, rfl, rfl, _, rfl, _, rfl, bg, 4, rfl, hba, ⟨by decide, by decide⟩, fun d2 Hb d20 d21 hbb kb => ?_⟩
      refine ⟨r.1, d2, rfl, rfl, by show 4 ≤ sizeLine; decide, fun l1 nl1 => ?_⟩
      refine ⟨_, rfl, bg, 4, rfl, hbb.new nl1, ⟨by decide, by decide⟩, fun d3 Hc d30 d31 hbc kc => ?_⟩
      have pick : ∃ v : Int, atI [V.int r.1, V.int r.2, V.int (r.1 + d1), V.int (r.1 + d2)] d3 = some (.int v) ∧ r.1 ≤ v ∧ v ≤ r.2 := by
        obtain rfl | rfl | rfl | rfl : d3 = 0 ∨ d3 = 1 ∨ d3 = 2 ∨ d3 = 3 := by omega
        · exact ⟨r.1, rfl, by omega, by omega⟩
        · exact ⟨r.2, rfl, by omega, by omega⟩
        · exact ⟨r.1 + d1, rfl, by omega, by omega⟩
        · exact ⟨r.1 + d2, rfl, by omega, by omega⟩
      obtain ⟨v, hv, v0, v1⟩ := pick
      have nl : l1 ≠ bg := hbb.ne nl1
      have kk : Kp bg H' Hc := ((ka.trans kb).trans (Kp.new nl1)).trans kc
      have hi : i < 6 := by
        have := (List.getElem?_eq_some_iff.mp hx).1
        exact this
      refine ⟨l1, _, d3, .int v, rfl, rfl, SqL.of (kc _ _ nl upd_same), hv, _, kk _ _ nD hd, ?_, fs ++ [v], ?_, ?_, ?_, hbc.upd nD, (k'.trans kk).put hD⟩
      · rw [List.length_map, hl]
        exact small1000 (by omega)
      · rw [List.length_append, hl]
        rfl
      · intro n v' e' h1 h2
        by_cases hn : n < fs.length
        · rw [List.getElem?_append_left hn] at h1
          exact hr' n v' e' h1 h2
        · have hn' : n = fs.length := by
            have := (List.getElem?_eq_some_iff.mp h1).1
            rw [List.length_append] at this
            simp only [List.length_singleton] at this
            omega
          subst hn'
          rw [List.getElem?_append_right (Nat.le_refl _), Nat.sub_self] at h1
          cases h1
          rw [hl, hre] at h2
          cases h2
          exact ⟨v0, v1⟩
      · rw [upd_same, List.map_append]
        rfl
    · obtain ⟨fs, hl, hr', hd, hb', k'⟩ := hP
      match fs, hl with
      | [x0, x1, x2, x3, x4, x5], _ =>
      have b0 := hr' 0 x0 (0, 9) rfl rfl
      have b1 := hr' 1 x1 (1, 5) rfl rfl
      have b2 := hr' 2 x2 (0, 99) rfl rfl
      have b3 := hr' 3 x3 (0, 9) rfl rfl
      have b4 := hr' 4 x4 (1, 400) rfl rfl
      have b5 := hr' 5 x5 (1, 400) rfl rfl
      dsimp only at b0 b1 b2 b3 b4 b5
      have hd : H' D = some (.lst [.int x0, .int x1, .int x2, .int x3, .int x4, .int x5]) := hd
      have cl := claim_le b0 b1 b2
      have ec : mx 0 (x0 - 1) * x1 + x2 = claimT x0 x1 x2 := by rw [mx_comm]; rfl
      refine ⟨_, rfl, D, _, 0, .int x0, rfl, rfl, SqL.of hd, rfl, x0, 1, rfl, rfl, 0, x0 - 1, rfl, _, rfl, D, _, 1, .int x1, rfl, rfl, SqL.of hd, rfl, _, x1, rfl, rfl, .inl ⟨by split <;> omega, by split <;> omega⟩, _, rfl, D, _, 2, .int x2, rfl, rfl, SqL.of hd, rfl, _, x2, rfl, rfl, ?_⟩
      show tSeq _ _ _ (List.set _ 3 (some (V.int (mx 0 (x0 - 1) * x1 + x2)))) _
      rw [ec]
      generalize claimT x0 x1 x2 = c at cl
      refine ⟨_, rfl, D, _, 4, .int x4, rfl, rfl, SqL.of hd, rfl, _, rfl, c, 2, rfl, rfl, _, rfl, c, 1, rfl, rfl, _, rfl, c, 2, rfl, rfl, _, rfl, bg, 40, rfl, hb', ⟨by decide, by decide⟩, fun d1 Ha d10 d11 hba ka => ?_⟩
      refine ⟨_, d1, rfl, rfl, 400, _, rfl, by show 4 ≤ sizeLine; decide, fun l1 nl1 => ?_⟩
      refine ⟨_, rfl, bg, 4, rfl, hba.new nl1, ⟨by decide, by decide⟩, fun d3 Hc d30 d31 hbc kc => ?_⟩
      have pick : ∃ v : Int, atI [V.int x4, V.int (c + 2), V.int (c + 1), V.int (if c + 2 + d1 < 400 then c + 2 + d1 else 400)] d3 = some (.int v) ∧ 1 ≤ v ∧ v ≤ 400 := by
        obtain rfl | rfl | rfl | rfl : d3 = 0 ∨ d3 = 1 ∨ d3 = 2 ∨ d3 = 3 := by omega
        · exact ⟨x4, rfl, by omega, by omega⟩
        · exact ⟨c + 2, rfl, by omega, by omega⟩
        · exact ⟨c + 1, rfl, by omega, by omega⟩
        · exact ⟨_, rfl, by split <;> omega, by split <;> omega⟩
      obtain ⟨v, hv, v0, v1⟩ := pick
      have nl : l1 ≠ bg := hba.ne nl1
      have kk : Kp bg H' Hc := (ka.trans (Kp.new nl1)).trans kc
      have hd2 := kk _ _ nD hd
      refine ⟨l1, _, d3, .int v, rfl, rfl, SqL.of (kc _ _ nl upd_same), hv, _, rfl, D, _, 4, 4, rfl, rfl, hd2, rfl, ?_⟩
      refine ⟨_, rfl, ?_⟩
      exact q D ⟨x0, x1, x2, x3, v, x5⟩ _ (sm.free hD) nD upd_same ⟨b0, b1, b2, b3, ⟨v0, v1⟩, b5⟩ (hbc.upd nD) (((Same.kp sm).trans (k'.trans kk)).put (sm.free hD))
/-! _law_is_rule -/
def ranges (x : Ru) : List Bool := [within x.p 0 9, within x.g 1 5, within x.w 0 99, within x.r 0 9, within x.e 1 400, within x.l 1 400]
def ruleB (x : Ru) : Bool := (ranges x).all id && decide (claimT x.p x.g x.w + 2 ≤ x.e)
theorem of_within {t lo hi : Int} (h : within t lo hi = true) : lo ≤ t ∧ t ≤ hi := by
  unfold within at h
  simp only [Bool.and_eq_true, decide_eq_true_eq] at h
  exact h
theorem rule_iff {x : Ru} : ruleB x = true ↔ RuOk x := by
  unfold ruleB ranges
  simp only [List.all_cons, List.all_nil, Bool.and_true, Bool.and_eq_true, decide_eq_true_eq, id]
  constructor
  · rintro ⟨⟨h1, h2, h3, h4, h5, h6⟩, h7⟩
    exact ⟨of_within h1, of_within h2, of_within h3, of_within h4, of_within h5, of_within h6, h7⟩
  · intro h
    exact ⟨⟨within_of h.p, within_of h.g, within_of h.w, within_of h.r, within_of h.e, within_of h.l⟩, h.c⟩
def rng6 (x : Ru) : List (Int × (Int × Int)) := [(x.p, (0, 9)), (x.g, (1, 5)), (x.w, (0, 99)), (x.r, (0, 9)), (x.e, (1, 400)), (x.l, (1, 400))]
theorem six_at {x : Ru} {v : V} {r : Int × Int} : ∀ {i : Nat}, i < 6 → (six x)[i]? = some v → ends[i]? = some r → ∃ t, v = .int t ∧ (ranges x)[i]? = some (within t r.1 r.2)
  | 0, _, h, e => by cases h; cases e; exact ⟨_, rfl, rfl⟩
  | 1, _, h, e => by cases h; cases e; exact ⟨_, rfl, rfl⟩
  | 2, _, h, e => by cases h; cases e; exact ⟨_, rfl, rfl⟩
  | 3, _, h, e => by cases h; cases e; exact ⟨_, rfl, rfl⟩
  | 4, _, h, e => by cases h; cases e; exact ⟨_, rfl, rfl⟩
  | 5, _, h, e => by cases h; cases e; exact ⟨_, rfl, rfl⟩
  | n + 6, h, _, _ => absurd h (by omega)
def spIsR (K : PySem.W.Frag) : Sp := fun vs H Q _ => ∃ (l : Addr) (x : Ru), vs = [.ref l] ∧ SqL K H l (six x) ∧ big x.p ∧ ∀ H', Same H H' → Q (.bl (ruleB x)) H'
theorem ok__law_is_rule (T : Tx K mg a) : FnOk P w K mg base CX0 2 a.f__law_is_rule a.d__law_is_rule ["_law_parts_here"] (spIsR K) := by
  refine T.F__law_is_rule.ok sc__law_is_rule (fun vs H Q E h => ?_) (fun cdv A outer s H vs Q E hr h => ?_)
  · obtain ⟨l, x, rfl, _⟩ := h
    rfl
  · obtain ⟨l, x, rfl, hl, bp, q⟩ := h
    refine ⟨_, (pss_cons (ps_set (i := 1) sc__law_is_rule.nd rfl (.inl rfl) (pe_lst (pa_cons (pe_tup (pa_cons pe_int (pa_cons pe_int pa_nil))) (pa_cons (pe_tup (pa_cons pe_int (pa_cons pe_int pa_nil))) (pa_cons (pe_tup (pa_cons pe_int (pa_cons pe_int pa_nil))) (pa_cons (pe_tup (pa_cons pe_int (pa_cons pe_int pa_nil))) (pa_cons (pe_tup (pa_cons pe_int (pa_cons pe_int pa_nil))) (pa_cons (pe_tup (pa_cons pe_int (pa_cons pe_int pa_nil))) pa_nil))))))))
      (pss_cons (ps_if (pt_not (pt_val (pe_callB (cr_all rfl) (by rfl) T.m_all (by decide +kernel) (pa_cons (pe_lc (own := [("_law_one", 2), ("_law_low", 3), ("_law_high", 4)]) (g := gTup K 2 (gCons (gName 2) (gCons (gTup K 2 (gCons (gName 3) (gCons (gName 4) gNil))) gNil))) rfl sc__law_is_rule.nd (pi_zip (by rfl) T.m_zip (pa_cons (pv 0) (pa_cons (pv 1) pa_nil))) (blkOk_by (N := ["_law_parts_here", "_law_ends", "_law_one", "_law_low", "_law_high"]) (sc := defScope sIsR) (by decide +kernel)) (fun _ _ _ _ _ => (pg_tup rfl (pgs_cons (pg_name (i := 2) sc__law_is_rule.nd rfl (.inl rfl)) (pgs_cons (pg_tup rfl (pgs_cons (pg_name (i := 3) sc__law_is_rule.nd rfl (.inl rfl)) (pgs_cons (pg_name (i := 4) sc__law_is_rule.nd rfl (.inl rfl)) pgs_nil))) pgs_nil)))) (fun _ _ _ _ _ => pts_nil) (fun _ _ _ _ _ => (pe_and (pe_call (ok__law_is_whole T) (hr.mono (by decide)) (by rfl) T.g__law_is_whole T.F__law_is_whole.kp T.b__law_is_whole .nil pass0 (pa_cons (pv 2) pa_nil)) (pe_one (pe_chain op_le op_le (pv 3) (pv 2) (pv 4)))))) pa_nil)))) (pss_one (ps_ret pe_bl)) pss_nil)
      (pss_one (ps_ret (pe_cmpR op_ge (pe_ix ix_list (pv 0) pe_int (fun _ _ => rfl)) (pe_op op_add (pe_op op_add (pe_op op_mul (pe_callB (call_max2 rfl) (by rfl) T.m_max (by decide +kernel) (pa_cons pe_int (pa_cons (pe_op op_sub (pe_ix ix_list (pv 0) pe_int (fun _ _ => rfl)) pe_int) pa_nil))) (pe_ix ix_list (pv 0) pe_int (fun _ _ => rfl))) (pe_ix ix_list (pv 0) pe_int (fun _ _ => rfl))) pe_int) (nomark _)))))), ?_⟩
    refine ⟨by show 2 ≤ sizeLine; decide, fun t1 n1 => ?_⟩
    generalize e1 : upd H t1 _ = H1
    obtain ⟨s1, f1⟩ := fresh n1 e1
    refine ⟨by show 2 ≤ sizeLine; decide, fun t2 n2 => ?_⟩
    generalize e2 : upd H1 t2 _ = H2
    obtain ⟨s2, f2⟩ := fresh n2 e2
    refine ⟨by show 2 ≤ sizeLine; decide, fun t3 n3 => ?_⟩
    generalize e3 : upd H2 t3 _ = H3
    obtain ⟨s3, f3⟩ := fresh n3 e3
    refine ⟨by show 2 ≤ sizeLine; decide, fun t4 n4 => ?_⟩
    generalize e4 : upd H3 t4 _ = H4
    obtain ⟨s4, f4⟩ := fresh n4 e4
    refine ⟨by show 2 ≤ sizeLine; decide, fun t5 n5 => ?_⟩
    generalize e5 : upd H4 t5 _ = H5
    obtain ⟨s5, f5⟩ := fresh n5 e5
    refine ⟨by show 2 ≤ sizeLine; decide, fun t6 n6 => ?_⟩
    generalize e6 : upd H5 t6 _ = H6
    obtain ⟨s6, f6⟩ := fresh n6 e6
    refine ⟨by show 6 ≤ sizeLine; decide, fun en n7 => ?_⟩
    generalize e7 : upd H6 en _ = H7
    obtain ⟨s7, f7⟩ := fresh n7 e7
    have s27 := s2.trans (s3.trans (s4.trans (s5.trans (s6.trans s7))))
    have sm : Same H H7 := s1.trans s27
    have pr : Prs H7 ends [.ref t1, .ref t2, .ref t3, .ref t4, .ref t5, .ref t6] := .cons (s27 _ _ f1) (.cons (s3.trans (s4.trans (s5.trans (s6.trans s7))) _ _ f2) (.cons (s4.trans (s5.trans (s6.trans s7)) _ _ f3) (.cons (s5.trans (s6.trans s7) _ _ f4) (.cons (s6.trans s7 _ _ f5) (.cons (s7 _ _ f6) .nil)))))
    clear s2 s3 s4 s5 s6 s7 s27 s1 e1 e2 e3 e4 e5 e6 e7
    have hl7 : SqL K H7 l (six x) := sm.seq hl
    refine ⟨_, rfl, _, rfl, l, en, _, _, rfl, hl7, SqL.of f7, fun D hD => ?_⟩
    refine lc_it (walk_zip (xs := six x) (ys := [.ref t1, .ref t2, .ref t3, .ref t4, .ref t5, .ref t6]) (n := 6) rfl) (fun i H' => Same H7 H' ∧ H' D = some (.lst (((ranges x).take i).map V.bl))) ⟨same_upd hD, by rw [upd_same]; rfl⟩ (fun i H' _ hP => ⟨hP.1.seq hl7, SqL.of (hP.1 _ _ f7)⟩) (fun i z Hx Hy hi hP hY => ?_) (fun Hx hP => ?_)
    · obtain ⟨sx, hd⟩ := hP
      obtain ⟨Tt, v, y, rfl, hT, rfl, h1, h2⟩ := hY
      obtain ⟨p, r, rfl, hre, hp⟩ := pr.get h2
      obtain ⟨t, rfl, ht⟩ := six_at hi h1 hre
      have nT : D ≠ Tt := ne_of_none hd hT
      have hp' : (upd Hx Tt (.tup [.int t, .ref p])) p = some (.tup [.int r.1, .int r.2]) := (same_upd hT) _ _ (sx _ _ hp)
      refine ⟨Tt, _, rfl, SqT.of upd_same, rfl, _, _, rfl, _, _, rfl, p, _, rfl, SqT.of hp', rfl, _, _, rfl, _, _, rfl, rfl, rfl, rfl, ?_⟩
      have go : ∀ b : Bool, b = within t r.1 r.2 → ∃ acc, (upd Hx Tt (.tup [.int t, .ref p])) D = some (.lst acc) ∧ acc.length < sizeLine ∧ Same H7 (upd (upd Hx Tt (.tup [.int t, .ref p])) D (.lst (acc ++ [V.bl b]))) ∧ (upd (upd Hx Tt (.tup [.int t, .ref p])) D (.lst (acc ++ [V.bl b]))) D = some (.lst (((ranges x).take (i + 1)).map V.bl)) := by
        rintro b rfl
        refine ⟨_, by rw [upd_ne nT]; exact hd, ?_, ?_, ?_⟩
        · rw [List.length_map, List.length_take]
          exact small1000 (by omega)
        · intro b o e
          rw [upd_ne (ne_of_none e hD)]
          exact (same_upd hT) _ _ (sx _ _ e)
        · rw [upd_same, List.take_add_one, ht, List.map_append]
          rfl
      refine ⟨_, rfl, t, rfl, true, rfl, iteT ⟨_, rfl, _, rfl, r.1, t, rfl, rfl, _, rfl, ite2 (fun e => ?_) (fun e => ?_)⟩⟩
      · refine ⟨_, rfl, t, r.2, rfl, rfl, go _ ?_⟩
        unfold within
        rw [e, Bool.true_and]
      · refine go _ ?_
        unfold within
        rw [Bool.not_eq_true _ |>.mp e, Bool.false_and]
    · obtain ⟨sx, hd⟩ := hP
      have hd : Hx D = some (.lst ((ranges x).map V.bl)) := hd
      have sH : Same H Hx := sm.trans sx
      have hlx : SqL K Hx l (six x) := sx.seq hl7
      refine ⟨D, ranges x, rfl, SqL.of hd, _, rfl, ?_⟩
      cases e : (ranges x).all id with
      | false =>
        refine iteT ?_
        have := q _ sH
        unfold ruleB at this
        rw [e, Bool.false_and] at this
        exact this
      | true =>
        refine iteF ?_
        obtain ⟨h1, h2⟩ := bp
        refine ⟨_, rfl, l, _, 4, .int x.e, rfl, rfl, hlx, rfl, _, rfl, l, _, 0, .int x.p, rfl, rfl, hlx, rfl, x.p, 1, rfl, rfl, 0, x.p - 1, rfl, _, rfl, l, _, 1, .int x.g, rfl, rfl, hlx, rfl, _, x.g, rfl, rfl, .inl ⟨by split <;> omega, by split <;> omega⟩, _, rfl, l, _, 2, .int x.w, rfl, rfl, hlx, rfl, _, x.w, rfl, rfl, _, 2, rfl, rfl, x.e, _, rfl, rfl, ?_⟩
        have ec : claimT x.p x.g x.w = mx 0 (x.p - 1) * x.g + x.w := by rw [mx_comm]; rfl
        have := q _ sH
        unfold ruleB at this
        rw [e, Bool.true_and, ec] at this
        exact this
/-! __eq__ -/
def eqI (i j : Int) : Bool := decide (V.int i = V.int j)
def eqB (r s : Int × Int) : Bool := eqI r.1 s.1 && eqI r.2 s.2
def eqR (r s : Ru) : Bool := eqI r.p s.p && (eqI r.g s.g && (eqI r.w s.w && (eqI r.r s.r && (eqI r.e s.e && eqI r.l s.l))))
def fB (x : Int × Int) : List (Str × V) := bF x.1 x.2
def spEq (K : PySem.W.Frag) (C : Addr) {α : Type} (F : α → List (Str × V)) (eq : α → α → Bool) : Sp := fun vs H Q _ => ∃ (b dx : Addr) (y : V) (x : α), vs = [.ref b, y] ∧ H b = some (.ins C dx (F x)) ∧
  ((∃ (c dy : Addr) (z : α), y = .ref c ∧ H c = some (.ins C dy (F z)) ∧ Q (.bl (eq x z)) H) ∨ (∃ t, TyX K H y t ∧ PySem.W.kitOne K t (.ref C) = some false ∧ Q (.bl false) H))
theorem and_go {b c : Bool} {P : Prop} {Q : VK} {H : Hp} (q : Q (.bl (b && c)) H) (h : Q (.bl c) H → P) : if b = true then P else Q (.bl false) H := by
  cases b with
  | false => exact q
  | true => exact h q
theorem ty_ins {C b dx : Addr} {H : Hp} {fs : List (Str × V)} (c : C8.InsC K C) (h : H b = some (.ins C dx fs)) : TyX K H (.ref b) (.ref C) := .base (.ins h c.cl c.ha c.hn c.htk c.hm)
theorem ok_beq (T : Tx K mg a) : FnOk P w K mg base CX0 1 a.f_Bounds___eq__ a.d_Bounds___eq__ ["self", "other"] (spEq K a.C_Bounds fB eqB) := by
  refine T.F_Bounds___eq__.ok sc_beq (fun vs H Q E h => ?_) (fun cdv A outer s H vs Q E hr h => ?_)
  · obtain ⟨b, dx, y, x, rfl, _⟩ := h
    rfl
  · obtain ⟨b, dx, y, x, rfl, hb, h⟩ := h
    refine ⟨_, (pss_one (ps_ret (pe_and (pe_callB (r := rIsi K) call_isi (by rfl) T.m_isinstance (by decide +kernel) (pa_cons (pv 1) (pa_cons (pe_glob (v := .ref a.C_Bounds) rfl T.g_Bounds rfl) pa_nil))) (pe_and (pe_cmpR op_eq (pe_fld (pv 0) rfl) (pe_fld (pv 1) rfl) (nomark _)) (pe_one (pe_cmpR op_eq (pe_fld (pv 0) rfl) (pe_fld (pv 1) rfl) (nomark _))))))), ?_⟩
    rcases h with ⟨c, dy, z, rfl, hc, q⟩ | ⟨t, ht, kt, q⟩
    · refine ⟨_, rfl, _, _, _, _, true, rfl, .own _, ty_ins T.is_Bounds hc, kit_self, true, rfl, iteT ?_⟩
      refine ⟨_, rfl, b, _, dx, _, .int x.1, rfl, hb, T.cl_Bounds, T.n_Bounds_lost, rfl, _, rfl, c, _, dy, _, .int z.1, rfl, hc, T.cl_Bounds, T.n_Bounds_lost, rfl, rfl, _, rfl, and_go q fun q => ?_⟩
      exact ⟨_, rfl, b, _, dx, _, .int x.2, rfl, hb, T.cl_Bounds, T.n_Bounds_late, rfl, _, rfl, c, _, dy, _, .int z.2, rfl, hc, T.cl_Bounds, T.n_Bounds_late, rfl, rfl, q⟩
    · exact ⟨_, rfl, _, _, _, _, false, rfl, .own _, ht, kt, false, rfl, q⟩
theorem ok_req (T : Tx K mg a) : FnOk P w K mg base CX0 1 a.f_Rule___eq__ a.d_Rule___eq__ ["self", "other"] (spEq K a.C_Rule rF eqR) := by
  refine T.F_Rule___eq__.ok sc_req (fun vs H Q E h => ?_) (fun cdv A outer s H vs Q E hr h => ?_)
  · obtain ⟨b, dx, y, x, rfl, _⟩ := h
    rfl
  · obtain ⟨b, dx, y, x, rfl, hb, h⟩ := h
    refine ⟨_, (pss_one (ps_ret (pe_and (pe_callB (r := rIsi K) call_isi (by rfl) T.m_isinstance (by decide +kernel) (pa_cons (pv 1) (pa_cons (pe_glob (v := .ref a.C_Rule) rfl T.g_Rule rfl) pa_nil))) (pe_and (pe_cmpR op_eq (pe_fld (pv 0) rfl) (pe_fld (pv 1) rfl) (nomark _)) (pe_and (pe_cmpR op_eq (pe_fld (pv 0) rfl) (pe_fld (pv 1) rfl) (nomark _)) (pe_and (pe_cmpR op_eq (pe_fld (pv 0) rfl) (pe_fld (pv 1) rfl) (nomark _)) (pe_and (pe_cmpR op_eq (pe_fld (pv 0) rfl) (pe_fld (pv 1) rfl) (nomark _)) (pe_and (pe_cmpR op_eq (pe_fld (pv 0) rfl) (pe_fld (pv 1) rfl) (nomark _)) (pe_one (pe_cmpR op_eq (pe_fld (pv 0) rfl) (pe_fld (pv 1) rfl) (nomark _))))))))))), ?_⟩
    rcases h with ⟨c, dy, z, rfl, hc, q⟩ | ⟨t, ht, kt, q⟩
    · refine ⟨_, rfl, _, _, _, _, true, rfl, .own _, ty_ins T.is_Rule hc, kit_self, true, rfl, iteT ?_⟩
      refine ⟨_, rfl, b, _, dx, _, .int x.p, rfl, hb, T.cl_Rule, T.n_Rule_probes, rfl, _, rfl, c, _, dy, _, .int z.p, rfl, hc, T.cl_Rule, T.n_Rule_probes, rfl, rfl, _, rfl, and_go q fun q => ?_⟩
      refine ⟨_, rfl, b, _, dx, _, .int x.g, rfl, hb, T.cl_Rule, T.n_Rule_gap, rfl, _, rfl, c, _, dy, _, .int z.g, rfl, hc, T.cl_Rule, T.n_Rule_gap, rfl, rfl, _, rfl, and_go q fun q => ?_⟩
      refine ⟨_, rfl, b, _, dx, _, .int x.w, rfl, hb, T.cl_Rule, T.n_Rule_wait, rfl, _, rfl, c, _, dy, _, .int z.w, rfl, hc, T.cl_Rule, T.n_Rule_wait, rfl, rfl, _, rfl, and_go q fun q => ?_⟩
      refine ⟨_, rfl, b, _, dx, _, .int x.r, rfl, hb, T.cl_Rule, T.n_Rule_repeats, rfl, _, rfl, c, _, dy, _, .int z.r, rfl, hc, T.cl_Rule, T.n_Rule_repeats, rfl, rfl, _, rfl, and_go q fun q => ?_⟩
      refine ⟨_, rfl, b, _, dx, _, .int x.e, rfl, hb, T.cl_Rule, T.n_Rule_period, rfl, _, rfl, c, _, dy, _, .int z.e, rfl, hc, T.cl_Rule, T.n_Rule_period, rfl, rfl, _, rfl, and_go q fun q => ?_⟩
      exact ⟨_, rfl, b, _, dx, _, .int x.l, rfl, hb, T.cl_Rule, T.n_Rule_life, rfl, _, rfl, c, _, dy, _, .int z.l, rfl, hc, T.cl_Rule, T.n_Rule_life, rfl, rfl, q⟩
    · exact ⟨_, rfl, _, _, _, _, false, rfl, .own _, ht, kt, false, rfl, q⟩
/-! __repr__ -/
theorem short3 {i : Int} (h : 0 ≤ i ∧ i ≤ 400) : (toString i : Str).length ≤ 3 := by
  have all : ∀ n : Fin 401, (toString ((n.val : Nat) : Int) : Str).length ≤ 3 := by decide +kernel
  have := all ⟨i.toNat, by omega⟩
  rwa [Int.toNat_of_nonneg h.1] at this
theorem short2 {i : Int} (h : 0 ≤ i ∧ i ≤ 400) : i.natAbs.log2 < 1920 := by
  have := Nat.log2_le_self i.natAbs
  omega
def spRepr (C : Addr) {α : Type} (F : α → List (Str × V)) (ok : α → Prop) : Sp := fun vs H Q _ => ∃ (b dx : Addr) (x : α), vs = [.ref b] ∧ H b = some (.ins C dx (F x)) ∧ ok x ∧ ∀ z, Q (.str z) H
theorem grow {u v : Str} {n m : Nat} (h : u.length ≤ n) (k : v.length ≤ m) : (u ++ v).length ≤ n + m := by
  rw [PySem.Str.length_append]
  omega
theorem szl {n : Nat} (h : n ≤ 1000) {u : Str} (k : u.length ≤ n) : u.length ≤ sizeLine := by
  have : 1000 ≤ sizeLine := by decide
  omega
theorem ok_brepr (T : Tx K mg a) : FnOk P w K mg base CX0 1 a.f_Bounds___repr__ a.d_Bounds___repr__ ["self"] (spRepr a.C_Bounds fB (fun x => BdOk x.1 x.2)) := by
  refine T.F_Bounds___repr__.ok sc_brepr (fun vs H Q E h => ?_) (fun cdv A outer s H vs Q E hr h => ?_)
  · obtain ⟨b, dx, x, rfl, _⟩ := h
    rfl
  · obtain ⟨b, dx, x, rfl, hb, ok, q⟩ := h
    obtain ⟨k1, k2⟩ := ok
    have g0 : (Str.empty ++ "Bounds(").length ≤ 7 := by decide +kernel
    refine ⟨_, (pss_one (ps_ret (pe_joined (PJ.cons pe_str (PJ.cons (pe_fmt (pe_fld (pv 0) rfl)) (PJ.cons pe_str (PJ.cons (pe_fmt (pe_fld (pv 0) rfl)) (PJ.cons pe_str PJ.nil)))))))), ?_⟩
    have g1 := grow g0 (short3 (i := x.1) (by omega))
    have g2 := grow g1 (show ((" " : Str)).length ≤ 1 by decide +kernel)
    have g3 := grow g2 (short3 (i := x.2) (by omega))
    have g4 := grow g3 (show ((")" : Str)).length ≤ 1 by decide +kernel)
    refine ⟨_, rfl, szl (by decide) g0, _, rfl, b, _, dx, _, .int x.1, rfl, hb, T.cl_Bounds, T.n_Bounds_lost, rfl, .inr ⟨_, rfl, short2 (by omega), _, rfl, szl (by decide) g1, _, rfl, szl (by decide) g2, ?_⟩⟩
    exact ⟨_, rfl, b, _, dx, _, .int x.2, rfl, hb, T.cl_Bounds, T.n_Bounds_late, rfl, .inr ⟨_, rfl, short2 (by omega), _, rfl, szl (by decide) g3, _, rfl, szl (by decide) g4, q _⟩⟩
theorem ok_rrepr (T : Tx K mg a) : FnOk P w K mg base CX0 1 a.f_Rule___repr__ a.d_Rule___repr__ ["self"] (spRepr a.C_Rule rF RuOk) := by
  refine T.F_Rule___repr__.ok sc_rrepr (fun vs H Q E h => ?_) (fun cdv A outer s H vs Q E hr h => ?_)
  · obtain ⟨b, dx, x, rfl, _⟩ := h
    rfl
  · obtain ⟨b, dx, x, rfl, hb, ok, q⟩ := h
    obtain ⟨k1, k2, k3, k4, k5, k6, _⟩ := ok
    have g0 : (Str.empty ++ "Rule(").length ≤ 7 := by decide +kernel
    refine ⟨_, (pss_one (ps_ret (pe_joined (PJ.cons pe_str (PJ.cons (pe_fmt (pe_fld (pv 0) rfl)) (PJ.cons pe_str (PJ.cons (pe_fmt (pe_fld (pv 0) rfl)) (PJ.cons pe_str (PJ.cons (pe_fmt (pe_fld (pv 0) rfl)) (PJ.cons pe_str (PJ.cons (pe_fmt (pe_fld (pv 0) rfl)) (PJ.cons pe_str (PJ.cons (pe_fmt (pe_fld (pv 0) rfl)) (PJ.cons pe_str (PJ.cons (pe_fmt (pe_fld (pv 0) rfl)) (PJ.cons pe_str PJ.nil)))))))))))))))), ?_⟩
    have sp : ((" " : Str)).length ≤ 1 := by decide +kernel
    have g1 := grow g0 (short3 (i := x.p) (by omega))
    have g2 := grow g1 sp
    have g3 := grow g2 (short3 (i := x.g) (by omega))
    have g4 := grow g3 sp
    have g5 := grow g4 (short3 (i := x.w) (by omega))
    have g6 := grow g5 sp
    have g7 := grow g6 (short3 (i := x.r) (by omega))
    have g8 := grow g7 sp
    have g9 := grow g8 (short3 (i := x.e) (by omega))
    have g10 := grow g9 sp
    have g11 := grow g10 (short3 (i := x.l) (by omega))
    have g12 := grow g11 (show ((")" : Str)).length ≤ 1 by decide +kernel)
    refine ⟨_, rfl, szl (by decide) g0, _, rfl, b, _, dx, _, .int x.p, rfl, hb, T.cl_Rule, T.n_Rule_probes, rfl, .inr ⟨_, rfl, short2 (by omega), _, rfl, szl (by decide) g1, _, rfl, szl (by decide) g2, ?_⟩⟩
    refine ⟨_, rfl, b, _, dx, _, .int x.g, rfl, hb, T.cl_Rule, T.n_Rule_gap, rfl, .inr ⟨_, rfl, short2 (by omega), _, rfl, szl (by decide) g3, _, rfl, szl (by decide) g4, ?_⟩⟩
    refine ⟨_, rfl, b, _, dx, _, .int x.w, rfl, hb, T.cl_Rule, T.n_Rule_wait, rfl, .inr ⟨_, rfl, short2 (by omega), _, rfl, szl (by decide) g5, _, rfl, szl (by decide) g6, ?_⟩⟩
    refine ⟨_, rfl, b, _, dx, _, .int x.r, rfl, hb, T.cl_Rule, T.n_Rule_repeats, rfl, .inr ⟨_, rfl, short2 (by omega), _, rfl, szl (by decide) g7, _, rfl, szl (by decide) g8, ?_⟩⟩
    refine ⟨_, rfl, b, _, dx, _, .int x.e, rfl, hb, T.cl_Rule, T.n_Rule_period, rfl, .inr ⟨_, rfl, short2 (by omega), _, rfl, szl (by decide) g9, _, rfl, szl (by decide) g10, ?_⟩⟩
    exact ⟨_, rfl, b, _, dx, _, .int x.l, rfl, hb, T.cl_Rule, T.n_Rule_life, rfl, .inr ⟨_, rfl, short2 (by omega), _, rfl, szl (by decide) g11, _, rfl, szl (by decide) g12, q _⟩⟩
/-! _law_same_right -/
structure OwnC (K : PySem.W.Frag) (C f : Addr) : Prop where
  hs : PySem.W.findIn K (.ref C) "__eq__" = some (some (.ref f))
  hf : PySem.W.isFn K (.ref f) = true
  hm : PySem.W.mroIn K C (.type "object") = some true
  hne : PySem.W.findIn K (.ref C) "__ne__" = some (some (.builtin "object.__ne__"))
  hno : PySem.W.subIn K (.ref C) (.type "NoneType") = some false
  kn : PySem.W.kitOne K (.type "NoneType") (.ref C) = some false
  ic : C8.InsC K C
def spSame (C : Addr) {α : Type} (Fl : α → List (Str × V)) (eq : α → α → Bool) : Sp := fun vs H Q _ => ∃ (b c dx dy : Addr) (x z : α), vs = [.ref b, .ref c, .bl (eq x z)] ∧ H b = some (.ins C dx (Fl x)) ∧ H c = some (.ins C dy (Fl z)) ∧ ∀ H', Same H H' → Q (.bl true) H'
theorem nf_self {C : Addr} : PySem.W.notFirst K C (.ref C) = true := by simp [PySem.W.notFirst]
theorem ok_same {α : Type} {C f : Addr} {fd : FuncData} {Fl : α → List (Str × V)} {eq : α → α → Bool} (T : Tx K mg a) (F : FnOk P w K mg base CX0 1 f fd ["self", "other"] (spEq K C Fl eq)) (o : OwnC K C f) (hb : Binds K fd ["self", "other"] [])
    (sym : ∀ x z, eq x z = eq z x) (re : ∀ x z, Fl x = Fl z → eq x z = true) : FnOk P w K mg base CX0 3 a.f__law_same_right a.d__law_same_right ["_law_one", "_law_other", "_law_due"] (spSame C Fl eq) := by
  refine T.F__law_same_right.ok sc__law_same_right (fun vs H Q E h => ?_) (fun cdv A outer s H vs Q E hr h => ?_)
  · obtain ⟨b, c, dx, dy, x, z, rfl, _⟩ := h
    rfl
  · obtain ⟨b, c, dx, dy, x, z, rfl, hB, hC, q⟩ := h
    refine ⟨_, (pss_cons (ps_set (i := 3) sc__law_same_right.nd rfl (.inl rfl) (pe_lst (pa_cons (pe_cmpR (op_eqOwn F o.hs o.hf hb pass0 (hr.mono (by decide))) (pv 0) (pv 1) (nomark _)) (pa_cons (pe_cmpR (op_eqOwn F o.hs o.hf hb pass0 (hr.mono (by decide))) (pv 1) (pv 0) (nomark _)) pa_nil))))
      (pss_one (ps_ret (pe_and (pe_cmpR (op_eqD hr.units) (pv 3) (pe_lst (pa_cons (pv 2) (pa_cons (pv 2) pa_nil))) (nomark _)) (pe_and (pe_cmpR op_eq (pe_cmpR (op_neOwn F o.hm o.hne o.hs o.hf hb pass0 (hr.mono (by decide))) (pv 0) (pv 1) (nomark _)) (pe_not (pv 2)) (nomark _)) (pe_one (pe_cmpR op_eq (pe_cmpR (op_inOwn F o.hs o.hf o.hno hb pass0 (hr.mono (by decide))) (pv 0) (pe_lst (pa_cons pe_non (pa_cons (pv 1) pa_nil))) (by with_unfolding_all rfl)) (pv 2) (nomark _)))))))), ?_⟩
    refine ⟨_, rfl, _, rfl, b, dx, _, .ref C, rfl, hB, ty_ins o.ic hC, nf_self, b, dx, _, x, rfl, hB, .inl ⟨c, dy, z, rfl, hC, ?_⟩⟩
    refine ⟨_, rfl, _, rfl, c, dy, _, .ref C, rfl, hC, ty_ins o.ic hB, nf_self, c, dy, _, z, rfl, hC, .inl ⟨b, dx, x, rfl, hB, ?_⟩⟩
    rw [← sym x z]
    refine ⟨by show 2 ≤ sizeLine; decide, fun l1 n1 => ?_⟩
    generalize e1 : upd H l1 _ = H1
    obtain ⟨s1, f1⟩ := fresh n1 e1
    refine ⟨_, rfl, _, rfl, _, rfl, by show 2 ≤ sizeLine; decide, fun l2 n2 => ?_⟩
    generalize e2 : upd H1 l2 _ = H2
    obtain ⟨s2, f2⟩ := fresh n2 e2
    refine ⟨_, _, .lst (SqL.of (s2 _ _ f1)) (.cons (.bl _) (.cons (.bl _) .nil)), .lst (SqL.of f2) (.cons (.bl _) (.cons (.bl _) .nil)), rfl, rfl, true, ?_, iteT ?_⟩
    · cases eq x z <;> rfl
    have s12 := s1.trans s2
    refine ⟨_, rfl, _, rfl, b, dx, _, .ref C, rfl, s12 _ _ hB, ty_ins o.ic (s12 _ _ hC), nf_self, b, dx, _, x, rfl, s12 _ _ hB, .inl ⟨c, dy, z, rfl, s12 _ _ hC, _, rfl, ?_⟩⟩
    refine ⟨_, rfl, _, rfl, rfl, true, ?_, iteT ?_⟩
    · cases eq x z <;> rfl
    refine ⟨_, rfl, _, rfl, by show 2 ≤ sizeLine; decide, fun l3 n3 => ?_⟩
    generalize e3 : upd H2 l3 _ = H3
    obtain ⟨s3, f3⟩ := fresh n3 e3
    have s13 := s12.trans s3
    have last : ∀ k : Bool, k = eq x z → Q (.bl (decide (V.bl k = V.bl (eq x z)))) H3 := by
      rintro k rfl
      rw [decide_eq_true rfl]
      exact q _ s13
    refine ⟨b, dx, _, l3, c, dy, _, rfl, rfl, s13 _ _ hB, f3, b, dx, _, x, rfl, s13 _ _ hB, .inr ⟨_, .base .non, o.kn, rfl, f3, fun e => ?_, fun e => ⟨s13 _ _ hC, s13 _ _ hB, ?_⟩⟩⟩
    · subst e
      have e0 := Option.some.inj (hB.symm.trans hC)
      injection e0 with _ _ e0
      exact ⟨_, rfl, rfl, last true (re _ _ e0).symm⟩
    · exact ⟨c, dy, _, z, rfl, s13 _ _ hC, .inl ⟨b, dx, x, rfl, s13 _ _ hB, _, rfl, f3, _, rfl, rfl, last _ (sym z x)⟩⟩
/-! the two classes -/
theorem eqI_comm (i j : Int) : eqI i j = eqI j i := by
  unfold eqI
  exact decide_eq_decide.mpr ⟨Eq.symm, Eq.symm⟩
theorem eqI_refl (i : Int) : eqI i i = true := decide_eq_true rfl
theorem eqI_ne {i d : Int} (h : d ≠ 0) : eqI i (i + d) = false := by
  refine decide_eq_false fun e => ?_
  injection e with e
  omega
theorem eqR_refl (x : Ru) : eqR x x = true := by
  unfold eqR
  simp only [eqI_refl, Bool.and_self]
theorem eqR_comm (x z : Ru) : eqR x z = eqR z x := by
  unfold eqR
  rw [eqI_comm x.p, eqI_comm x.g, eqI_comm x.w, eqI_comm x.r, eqI_comm x.e, eqI_comm x.l]
theorem eqB_comm (x z : Int × Int) : eqB x z = eqB z x := by
  unfold eqB
  rw [eqI_comm x.1, eqI_comm x.2]
theorem eqR_of (x z : Ru) (h : rF x = rF z) : eqR x z = true := by
  obtain ⟨a1, a2, a3, a4, a5, a6⟩ := x
  obtain ⟨b1, b2, b3, b4, b5, b6⟩ := z
  simp only [rF, List.cons.injEq, Prod.mk.injEq, V.int.injEq, true_and, and_true] at h
  obtain ⟨rfl, rfl, rfl, rfl, rfl, rfl⟩ := h
  exact eqR_refl _
theorem eqB_of (x z : Int × Int) (h : fB x = fB z) : eqB x z = true := by
  obtain ⟨a1, a2⟩ := x
  obtain ⟨b1, b2⟩ := z
  simp only [fB, bF, List.cons.injEq, Prod.mk.injEq, V.int.injEq, true_and, and_true] at h
  obtain ⟨rfl, rfl⟩ := h
  unfold eqB
  rw [eqI_refl, eqI_refl]
  rfl
theorem own_R (T : Tx K mg a) : OwnC K a.C_Rule a.f_Rule___eq__ := ⟨T.me_Rule___eq__.at_, T.me_Rule___eq__.fn, T.is_Rule.hm, T.x_Rule_ne, T.x_Rule_no, T.x_Rule_NoneType, T.is_Rule⟩
theorem own_B (T : Tx K mg a) : OwnC K a.C_Bounds a.f_Bounds___eq__ := ⟨T.me_Bounds___eq__.at_, T.me_Bounds___eq__.fn, T.is_Bounds.hm, T.x_Bounds_ne, T.x_Bounds_no, T.x_Bounds_NoneType, T.is_Bounds⟩
theorem ok_sameR (T : Tx K mg a) : FnOk P w K mg base CX0 3 a.f__law_same_right a.d__law_same_right ["_law_one", "_law_other", "_law_due"] (spSame a.C_Rule rF eqR) := ok_same T (ok_req T) (own_R T) T.b_Rule___eq__ eqR_comm eqR_of
theorem ok_sameB (T : Tx K mg a) : FnOk P w K mg base CX0 3 a.f__law_same_right a.d__law_same_right ["_law_one", "_law_other", "_law_due"] (spSame a.C_Bounds fB eqB) := ok_same T (ok_beq T) (own_B T) T.b_Bounds___eq__ eqB_comm eqB_of
/-! the law -/
def bump (x : Ru) (n : Nat) (d : Int) : Ru := match n with
  | 0 => { x with p := x.p + d }
  | 1 => { x with g := x.g + d }
  | 2 => { x with w := x.w + d }
  | 3 => { x with r := x.r + d }
  | 4 => { x with e := x.e + d }
  | _ => { x with l := x.l + d }
theorem bump_ok {x : Ru} {d : Int} (ok : RuOk x) (h0 : d ≠ 0) (h1 : -1 ≤ d ∧ d ≤ 1) : ∀ {n : Nat}, n < 6 → ∃ v, (six x)[n]? = some (.int v) ∧ (six x).set n (.int (v + d)) = six (bump x n d) ∧ eqR x (bump x n d) = false ∧ big (bump x n d).p
  | 0, _ => ⟨x.p, rfl, rfl, by unfold eqR; rw [show (bump x 0 d).p = x.p + d from rfl, eqI_ne h0]; rfl, by have := ok.p; exact ⟨by show -1000000 ≤ x.p + d; omega, by show x.p + d ≤ 1000000; omega⟩⟩
  | 1, _ => ⟨x.g, rfl, rfl, by unfold eqR; rw [show (bump x 1 d).g = x.g + d from rfl, eqI_ne h0]; simp, by have := ok.p; exact ⟨by show -1000000 ≤ x.p; omega, by show x.p ≤ 1000000; omega⟩⟩
  | 2, _ => ⟨x.w, rfl, rfl, by unfold eqR; rw [show (bump x 2 d).w = x.w + d from rfl, eqI_ne h0]; simp, by have := ok.p; exact ⟨by show -1000000 ≤ x.p; omega, by show x.p ≤ 1000000; omega⟩⟩
  | 3, _ => ⟨x.r, rfl, rfl, by unfold eqR; rw [show (bump x 3 d).r = x.r + d from rfl, eqI_ne h0]; simp, by have := ok.p; exact ⟨by show -1000000 ≤ x.p; omega, by show x.p ≤ 1000000; omega⟩⟩
  | 4, _ => ⟨x.e, rfl, rfl, by unfold eqR; rw [show (bump x 4 d).e = x.e + d from rfl, eqI_ne h0]; simp, by have := ok.p; exact ⟨by show -1000000 ≤ x.p; omega, by show x.p ≤ 1000000; omega⟩⟩
  | 5, _ => ⟨x.l, rfl, rfl, by unfold eqR; rw [show (bump x 5 d).l = x.l + d from rfl, eqI_ne h0]; simp, by have := ok.p; exact ⟨by show -1000000 ≤ x.p; omega, by show x.p ≤ 1000000; omega⟩⟩
  | n + 6, h => absurd h (by omega)
theorem eqv_two (i j k l : Int) : PyData.eqv (.tuple [.int i, .int j]) (.tuple [.int k, .int l]) = eqB (k, l) (i, j) := by
  have one : ∀ a b : Int, PyData.eqv (.int a) (.int b) = eqI b a := by
    intro a b
    show (a == b) = _
    unfold eqI
    by_cases e : a = b
    · subst e
      rw [decide_eq_true rfl]
      exact beq_self_eq_true a
    · rw [decide_eq_false (fun z => e (by injection z with z; exact z.symm))]
      exact beq_false_of_ne e
  show (PyData.eqv (.int i) (.int k) && (PyData.eqv (.int j) (.int l) && true)) = _
  rw [one, one, Bool.and_true]
  rfl
theorem bagS {H H' : Hp} {b : Addr} (s : Same H H') (h : Bag H b) : Bag H' b := by
  obtain ⟨g, m, e, r⟩ := h
  exact ⟨g, m, s _ _ e, r⟩
theorem at_kp {bg : Addr} {H H' : Hp} {b C dx : Addr} {fs : List (Str × V)} (h : H b = some (.ins C dx fs)) (k : Kp bg H H') (hb : Bag H bg) : H' b = some (.ins C dx fs) := by
  obtain ⟨g, m, z, _⟩ := hb
  exact k _ _ (ne_of h z (fun q => nomatch q)) h
/-- a thing of another type than C -/
def Oth (K : PySem.W.Frag) (H : Hp) (C : Addr) (v : V) : Prop := ∃ t, TyX K H v t ∧ PySem.W.kitOne K t (.ref C) = some false
theorem nf_of {C : Addr} {t : Value} (h : PySem.W.kitOne K t (.ref C) = some false) : PySem.W.notFirst K C t = true := by
  unfold PySem.W.kitOne at h
  split at h
  · cases h
  · unfold PySem.W.kitCls at h
    dsimp only at h
    split at h
    · unfold PySem.W.notFirst
      rw [h]
      simp
    · cases h
def spLaw (K : PySem.W.Frag) : Sp := fun vs H Q _ => ∃ (a : Addr) (ns : List Int), vs = [.ref a] ∧ SqL K H a (ns.map V.int) ∧ ns.length ≤ 63 ∧ ∀ H', Q (.bl true) H'
theorem ok_law (T : Tx K mg a) : FnG P w K mg base CX0 8 a.f_law a.d_law ["_law_script"] (spLaw K) := by
  refine fnG0 T.F_law sc_law (fun vs H Q E h => ?_) (fun cdv A outer s H vs Q E gd hr h => ?_)
  · obtain ⟨l, ns, rfl, _⟩ := h
    rfl
  · obtain ⟨al, ns, rfl, hS, hlen, q⟩ := h
    refine ⟨_, (pss_cons (ps_for PassesOwn.never rfl (pi_range1 rfl T.m_range (pa_cons (pe_callB (call_max2 rfl) (by rfl) T.m_max (by decide +kernel) (pa_cons pe_int (pa_cons (pe_callB (call_min2 rfl) (by rfl) T.m_min (by decide +kernel) (pa_cons pe_int (pa_cons (pe_callB call_len_seq (by rfl) T.m_len PySem.boot_len (pa_cons (pv 0) pa_nil)) pa_nil))) pa_nil))) pa_nil)) (pg_name (i := 1) sc_law.nd rfl (.inl rfl)) (pss_cons (ps_set (i := 2) sc_law.nd rfl (.inl rfl) (pe_call (ok__law_bag T) (hr.mono (by decide)) (by rfl) T.g__law_bag T.F__law_bag.kp T.b__law_bag .nil pass0 (pa_cons (pv 0) (pa_cons (pv 1) pa_nil))))
      (pss_cons (ps_set (i := 3) sc_law.nd rfl (.inl rfl) (pe_call (ok__law_parts T) (hr.mono (by decide)) (by rfl) T.g__law_parts T.F__law_parts.kp T.b__law_parts .nil pass0 (pa_cons (pv 2) pa_nil)))
      (pss_cons (ps_asg (pe_callB (call_max2 rfl) (by rfl) T.m_max (by decide +kernel) (pa_cons (pe_ix ix_list (pv 3) pe_int (fun _ _ => rfl)) (pa_cons (pe_op op_add (pe_op op_add (pe_op op_mul (pe_callB (call_max2 rfl) (by rfl) T.m_max (by decide +kernel) (pa_cons pe_int (pa_cons (pe_op op_sub (pe_ix ix_list (pv 3) pe_int (fun _ _ => rfl)) pe_int) pa_nil))) (pe_ix ix_list (pv 3) pe_int (fun _ _ => rfl))) (pe_ix ix_list (pv 3) pe_int (fun _ _ => rfl))) pe_int) pa_nil))) (pg_sub (pv 3) pe_int set_list))
      (pss_cons (ps_par (i := 4) (j := 5) rfl sc_law.nd rfl rfl (by decide) rfl rfl (pa_cons (pe_call (ok__law_made_rule T) (hr.mono (by decide)) (by rfl) T.g__law_made_rule T.F__law_made_rule.kp T.b__law_made_rule .nil pass0 (pa_cons (pv 3) pa_nil)) (pa_cons (pe_call (ok__law_made_rule T) (hr.mono (by decide)) (by rfl) T.g__law_made_rule T.F__law_made_rule.kp T.b__law_made_rule .nil pass0 (pa_cons (pe_callTy call_list_of (by rfl) T.m_list (by decide +kernel) (pa_cons (pv 3) pa_nil)) pa_nil)) pa_nil)) rfl)
      (pss_cons (ps_if (PW.pt (pw_or (pt_not (pt_val (pe_call (ok_sameR T) (hr.mono (by decide)) (by rfl) T.g__law_same_right T.F__law_same_right.kp T.b__law_same_right .nil pass0 (pa_cons (pv 4) (pa_cons (pv 5) (pa_cons pe_bl pa_nil)))))) (pw_or1 (pt_not (pt_val (pe_call (ok_sameR T) (hr.mono (by decide)) (by rfl) T.g__law_same_right T.F__law_same_right.kp T.b__law_same_right .nil pass0 (pa_cons (pv 4) (pa_cons (pv 4) (pa_cons pe_bl pa_nil))))))))) (pss_one (ps_ret pe_bl)) pss_nil)
      (pss_cons (ps_for PassesOwn.never rfl (pi_range1 rfl T.m_range (pa_cons pe_int pa_nil)) (pg_name (i := 6) sc_law.nd rfl (.inl rfl)) (pss_one (ps_for PassesOwn.never rfl (pi_list (pe_lst (pa_cons (pe_un un_neg pe_int) (pa_cons pe_int pa_nil)))) (pg_name (i := 7) sc_law.nd rfl (.inl rfl)) (pss_cons (ps_set (i := 8) sc_law.nd rfl (.inl rfl) (pe_callTy call_list_of (by rfl) T.m_list (by decide +kernel) (pa_cons (pv 3) pa_nil)))
      (pss_cons (ps_asg (pe_op op_add (pe_ix ix_list (pv 3) (pv 6) (fun _ _ => rfl)) (pv 7)) (pg_sub (pv 8) (pv 6) set_list))
      (pss_one (ps_if (PW.pt (pw_and (pt_val (pe_call (ok__law_is_rule T) (hr.mono (by decide)) (by rfl) T.g__law_is_rule T.F__law_is_rule.kp T.b__law_is_rule .nil pass0 (pa_cons (pv 8) pa_nil))) (pw_and1 (pt_not (pt_val (pe_call (ok_sameR T) (hr.mono (by decide)) (by rfl) T.g__law_same_right T.F__law_same_right.kp T.b__law_same_right .nil pass0 (pa_cons (pv 4) (pa_cons (pe_call (ok__law_made_rule T) (hr.mono (by decide)) (by rfl) T.g__law_made_rule T.F__law_made_rule.kp T.b__law_made_rule .nil pass0 (pa_cons (pv 8) pa_nil)) (pa_cons pe_bl pa_nil))))))))) (pss_one (ps_ret pe_bl)) pss_nil)))))))
      (pss_cons (ps_par (i := 9) (j := 10) rfl sc_law.nd rfl rfl (by decide) rfl rfl (pa_cons (pe_call (ok__law_take T) (hr.mono (by decide)) (by rfl) T.g__law_take T.F__law_take.kp T.b__law_take .nil pass0 (pa_cons (pv 2) (pa_cons pe_int pa_nil))) (pa_cons (pe_op op_add pe_int (pe_call (ok__law_take T) (hr.mono (by decide)) (by rfl) T.g__law_take T.F__law_take.kp T.b__law_take .nil pass0 (pa_cons (pv 2) (pa_cons pe_int pa_nil)))) pa_nil)) rfl)
      (pss_cons (ps_set (i := 11) sc_law.nd rfl (.inl rfl) (pe_makeK0 T.mk_Bounds (ok_binit T) (hr.mono (by decide)) (by rfl) T.g_Bounds T.q_B1 pass0 (pk_cons (pv 9) (pk_cons (pv 10) pk_nil))))
      (pss_cons (ps_for PassesOwn.never rfl (pi_range1 rfl T.m_range (pa_cons pe_int pa_nil)) (pg_name (i := 12) sc_law.nd rfl (.inl rfl)) (pss_one (ps_for PassesOwn.never rfl (pi_range2 rfl T.m_range (pa_cons pe_int (pa_cons pe_int pa_nil))) (pg_name (i := 13) sc_law.nd rfl (.inl rfl)) (pss_one (ps_if (pt_not (pt_val (pe_call (ok_sameB T) (hr.mono (by decide)) (by rfl) T.g__law_same_right T.F__law_same_right.kp T.b__law_same_right .nil pass0 (pa_cons (pv 11) (pa_cons (pe_makeK0 T.mk_Bounds (ok_binit T) (hr.mono (by decide)) (by rfl) T.g_Bounds T.q_B2 pass0 (pk_cons (pv 13) (pk_cons (pv 12) pk_nil))) (pa_cons (pe_cmpR (op_eqD hr.units) (pe_tup (pa_cons (pv 12) (pa_cons (pv 13) pa_nil))) (pe_tup (pa_cons (pv 9) (pa_cons (pv 10) pa_nil))) (nomark _)) pa_nil)))))) (pss_one (ps_ret pe_bl)) pss_nil)))))
      (pss_cons (ps_for PassesOwn.never rfl (pi_list (pe_lst (pa_cons pe_non (pa_cons (pe_callTy call_tuple_of (by rfl) T.m_tuple (by decide +kernel) (pa_cons (pv 3) pa_nil)) (pa_cons (pe_callTy call_list_of (by rfl) T.m_list (by decide +kernel) (pa_cons (pv 3) pa_nil)) (pa_cons (pe_callB (call_reprOwn (ok_rrepr T) T.me_Rule___repr__.at_ T.me_Rule___repr__.fn T.b_Rule___repr__ pass0 (hr.mono (by decide))) (by rfl) T.m_repr (by decide +kernel) (pa_cons (pv 4) pa_nil)) (pa_cons (pe_ix ix_list (pv 3) pe_int (fun _ _ => rfl)) (pa_cons (pv 11) (pa_cons pe_bl pa_nil))))))))) (pg_name (i := 14) sc_law.nd rfl (.inl rfl)) (pss_one (ps_if (PW.pt (pw_or (pt_cmpR (op_eqOwn (ok_req T) T.me_Rule___eq__.at_ T.me_Rule___eq__.fn T.b_Rule___eq__ pass0 (hr.mono (by decide))) (pv 4) (pv 14) (nomark _)) (pw_or1 (pt_not (pt_cmpR (op_neOwn (ok_req T) T.is_Rule.hm T.x_Rule_ne T.me_Rule___eq__.at_ T.me_Rule___eq__.fn T.b_Rule___eq__ pass0 (hr.mono (by decide))) (pv 4) (pv 14) (nomark _)))))) (pss_one (ps_ret pe_bl)) pss_nil)))
      (pss_one (ps_for PassesOwn.never rfl (pi_list (pe_lst (pa_cons pe_non (pa_cons (pe_tup (pa_cons (pv 9) (pa_cons (pv 10) pa_nil))) (pa_cons (pe_lst (pa_cons (pv 9) (pa_cons (pv 10) pa_nil))) (pa_cons (pe_callB (call_reprOwn (ok_brepr T) T.me_Bounds___repr__.at_ T.me_Bounds___repr__.fn T.b_Bounds___repr__ pass0 (hr.mono (by decide))) (by rfl) T.m_repr (by decide +kernel) (pa_cons (pv 11) pa_nil)) (pa_cons (pv 9) (pa_cons (pv 4) (pa_cons pe_bl pa_nil))))))))) (pg_name (i := 14) sc_law.nd rfl (.inl rfl)) (pss_one (ps_if (PW.pt (pw_or (pt_cmpR (op_eqOwn (ok_beq T) T.me_Bounds___eq__.at_ T.me_Bounds___eq__.fn T.b_Bounds___eq__ pass0 (hr.mono (by decide))) (pv 11) (pv 14) (nomark _)) (pw_or1 (pt_not (pt_cmpR (op_neOwn (ok_beq T) T.is_Bounds.hm T.x_Bounds_ne T.me_Bounds___eq__.at_ T.me_Bounds___eq__.fn T.b_Bounds___eq__ pass0 (hr.mono (by decide))) (pv 11) (pv 14) (nomark _)))))) (pss_one (ps_ret pe_bl)) pss_nil)))))))))))))))
      (pss_one (ps_ret pe_bl))), ?_⟩
    have tn := turns (L := (ns.map V.int).length) (m := 6) (by decide)
    refine ⟨_, rfl, al, _, rfl, .inl hS, 6, _, rfl, 1, _, rfl, _, rfl, by omega, by omega, for_range (n := _) (fun _ σ H3 => ∃ y1 y2 y3 y4 y5 y6 y7 y8 y9 y10 y11 y12 y13 y14, σ = [some (.ref al), y1, y2, y3, y4, y5, y6, y7, y8, y9, y10, y11, y12, y13, y14] ∧ SqL K H3 al (ns.map V.int)) ⟨_, _, _, _, _, _, _, _, _, _, _, _, _, _, rfl, hS⟩ (fun i σ H1 hi hW => ?_) (fun σ H1 _ => q _)⟩
    obtain ⟨y1, y2, y3, y4, y5, y6, y7, y8, y9, y10, y11, y12, y13, y14, rfl, hS1⟩ := hW
    rw [Int.zero_add]
    refine ⟨_, rfl, _, rfl, al, ns, i, rfl, hS1, by omega, fun H2 bg sm nb hb => ?_⟩
    -- the parts, the period long enough
    refine ⟨_, rfl, bg, rfl, hb, fun l x0 H3 nl nlb hl okp hb3 k3 => ?_⟩
    have cl := claim_le okp.p okp.g okp.w
    have ec : mx 0 (x0.p - 1) * x0.g + x0.w = claimT x0.p x0.g x0.w := by rw [mx_comm]; rfl
    obtain ⟨x, hx, okx⟩ : ∃ x : Ru, six x = (six x0).set 4 (.int (if mx 0 (x0.p - 1) * x0.g + x0.w + 2 > x0.e then mx 0 (x0.p - 1) * x0.g + x0.w + 2 else x0.e)) ∧ RuOk x := by
      refine ⟨{ x0 with e := (if mx 0 (x0.p - 1) * x0.g + x0.w + 2 > x0.e then mx 0 (x0.p - 1) * x0.g + x0.w + 2 else x0.e) }, rfl, okp.p, okp.g, okp.w, okp.r, ?_, okp.l, ?_⟩
      · have := okp.e
        dsimp only
        rw [ec]
        split <;> omega
      · dsimp only
        rw [ec]
        split <;> omega
    have h0 := okp.p
    refine ⟨_, rfl, l, _, 4, .int x0.e, rfl, rfl, SqL.of hl, rfl, _, rfl, l, _, 0, .int x0.p, rfl, rfl, SqL.of hl, rfl, x0.p, 1, rfl, rfl, 0, x0.p - 1, rfl, _, rfl, l, _, 1, .int x0.g, rfl, rfl, SqL.of hl, rfl, _, x0.g, rfl, rfl, .inl ⟨by split <;> omega, by split <;> omega⟩, _, rfl, l, _, 2, .int x0.w, rfl, rfl, SqL.of hl, rfl, _, x0.w, rfl, rfl, _, 2, rfl, rfl, x0.e, _, rfl, _, rfl, l, _, 4, 4, rfl, rfl, hl, rfl, ?_⟩
    generalize e4 : upd H3 l _ = H4
    have f4 : H4 l = some (.lst (six x)) := by
      rw [← e4, upd_same]
      exact congrArg (fun z => some (HO.lst z)) hx.symm
    have hb4 : Bag H4 bg := e4 ▸ hb3.upd nlb
    have k4 : Kp bg H2 H4 := e4 ▸ k3.put nl
    clear e4
    -- made, again
    refine ⟨_, rfl, l, x, rfl, SqL.of f4, okx, fun pm H5 s5 npm rm => ?_⟩
    refine ⟨_, rfl, l, _, rfl, .inl (SqL.of (s5 _ _ f4)), fun l2 nl2 => ?_⟩
    generalize e6 : upd H5 l2 _ = H6
    obtain ⟨s6, f6⟩ := fresh nl2 e6
    refine ⟨l2, x, rfl, SqL.of f6, okx, fun pg H7 s7 npg rg => ?_⟩
    refine ⟨_, _, rfl, ?_⟩
    obtain ⟨dm, em⟩ := rm.same (s6.trans s7)
    obtain ⟨dg, eg⟩ := rg
    refine ⟨_, rfl, _, rfl, pm, pg, dm, dg, x, x, by rw [eqR_refl]; rfl, em, eg, fun H8 s8 => ⟨true, rfl, iteF ?_⟩⟩
    refine ⟨_, rfl, _, rfl, pm, pm, dm, dm, x, x, by rw [eqR_refl]; rfl, s8 _ _ em, s8 _ _ em, fun H9 s9 => ⟨true, rfl, iteF ?_⟩⟩
    have s49 : Same H4 H9 := s5.trans (s6.trans (s7.trans (s8.trans s9)))
    have em9 := (s8.trans s9) _ _ em
    have fl9 := s49 _ _ f4
    have hb9 := bagS s49 hb4
    have k9 : Kp bg H1 H9 := (Same.kp sm).trans (k4.trans (Same.kp s49))
    clear e6
    -- one number otherwise
    refine ⟨6, rfl, by decide, by decide, for_range (n := 6) (fun _ σ Hx => ∃ z6 z7 z8, σ = [some (.ref al), some (.int (i : Int)), some (.ref bg), some (.ref l), some (.ref pm), some (.ref pg), z6, z7, z8, y9, y10, y11, y12, y13, y14] ∧ Same H9 Hx) ⟨_, _, _, rfl, Same.refl _⟩ (fun n σ Hx hn hW => ?_) (fun σ Hx hW => ?_)⟩
    · obtain ⟨z6, z7, z8, rfl, sx⟩ := hW
      rw [Int.zero_add]
      refine ⟨1, rfl, by show 2 ≤ sizeLine; decide, fun l3 n3 => ?_⟩
      generalize e3 : upd Hx l3 _ = Hy
      obtain ⟨s3, f3⟩ := fresh n3 e3
      refine ⟨l3, rfl, ⟨_, SqL.of f3⟩, for_list (xs := [.int (-1), .int 1]) (fun _ σ Hz => ∃ z7 z8, σ = [some (.ref al), some (.int (i : Int)), some (.ref bg), some (.ref l), some (.ref pm), some (.ref pg), some (.int (n : Int)), z7, z8, y9, y10, y11, y12, y13, y14] ∧ Same Hy Hz) ⟨_, _, rfl, Same.refl _⟩ (fun j σ Hz _ hW => ?_) (fun j v σ Hz hj hW => ?_) (fun σ Hz hW => ?_)⟩
      · obtain ⟨_, _, _, sz⟩ := hW
        exact SqL.of (sz _ _ f3)
      · obtain ⟨u7, u8, rfl, sz⟩ := hW
        obtain ⟨d, rfl, d0, d1⟩ : ∃ d : Int, v = .int d ∧ d ≠ 0 ∧ (-1 ≤ d ∧ d ≤ 1) := by
          match j, hj with
          | 0, hj => exact ⟨-1, (Option.some.inj hj).symm, by decide, by decide⟩
          | 1, hj => exact ⟨1, (Option.some.inj hj).symm, by decide, by decide⟩
          | j + 2, hj => exact absurd hj (by simp)
        obtain ⟨v, hv, hset, hne, hbig⟩ := bump_ok okx d0 d1 hn
        have s9z : Same H9 Hz := sx.trans (s3.trans sz)
        have flz := s9z _ _ fl9
        refine ⟨_, rfl, l, _, rfl, .inl (SqL.of flz), fun l4 n4 => ?_⟩
        generalize eA : upd Hz l4 _ = HA
        obtain ⟨sA, fA⟩ := fresh n4 eA
        refine ⟨_, rfl, _, rfl, l, _, (n : Int), .int v, rfl, rfl, SqL.of (sA _ _ flz), atI_nat hv, _, rfl, v, d, rfl, rfl, _, rfl, _, rfl, l4, _, (n : Int), n, rfl, rfl, fA, Evl.ixN_nat hn, ?_⟩
        rw [hset]
        generalize eB : upd HA l4 _ = HB
        have fB : HB l4 = some (.lst (six (bump x n d))) := by rw [← eB, upd_same]
        have sB : Same Hz HB := by
          rw [← eB, ← eA, upd_upd]
          exact same_upd n4
        refine ⟨_, rfl, l4, _, rfl, SqL.of fB, hbig, fun HC sC => ⟨_, rfl, ite2 (fun e => ?_) (fun e => iteF ⟨_, _, rfl, sz.trans (sB.trans sC)⟩)⟩⟩
        have oky := rule_iff.mp e
        refine ⟨_, rfl, _, rfl, l4, _, rfl, SqL.of (sC _ _ fB), oky, fun po HD sD npo ro => ?_⟩
        obtain ⟨dO, eo⟩ := ro
        exact ⟨pm, po, dm, dO, x, _, by rw [hne]; rfl, (s9z.trans (sB.trans (sC.trans sD))) _ _ em9, eo, fun HE sE => ⟨true, rfl, iteF ⟨_, _, rfl, sz.trans (sB.trans (sC.trans (sD.trans sE)))⟩⟩⟩
      · obtain ⟨u7, u8, rfl, sz⟩ := hW
        exact ⟨_, _, _, rfl, sx.trans (s3.trans sz)⟩
    · obtain ⟨z6, z7, z8, rfl, sx⟩ := hW
      have hbx := bagS sx hb9
      refine ⟨_, rfl, bg, 4, rfl, hbx, ⟨by decide, by decide⟩, fun fw Ha f0 f1 hba ka => ?_⟩
      refine ⟨_, rfl, bg, 5, rfl, hba, ⟨by decide, by decide⟩, fun o Hb o0 o1 hbb kb => ?_⟩
      obtain ⟨od, eod⟩ : ∃ y : Int, y = 1 + o := ⟨_, rfl⟩
      refine ⟨1, o, rfl, rfl, .int fw, .int od, by rw [eod], ?_⟩
      have okB : BdOk fw od := ⟨by omega, by omega⟩
      refine ⟨_, rfl, _, rfl, rfl, rfl, fun hp hd nh nhd nhe => ⟨hp, hd, fw, od, rfl, upd_same, okB, rfl, ?_⟩⟩
      generalize ec : upd (upd (upd Hb hd (.own hp)) hp (.ins a.C_Bounds hd [])) hp (.ins a.C_Bounds hd (bF fw od)) = Hc
      have sc : Same Hb Hc := ec ▸ same_made nh nhd
      have bc : Hc hp = some (.ins a.C_Bounds hd (bF fw od)) := by rw [← ec]; exact upd_same
      have kab := ka.trans kb
      have emc := sc _ _ (at_kp (sx _ _ em9) kab hbx)
      have flc : Hc l = some (.lst (six x)) := sc _ _ (kab _ _ nlb (sx _ _ fl9))
      have kc : Kp bg H1 Hc := k9.trans ((Same.kp sx).trans (kab.trans (Same.kp sc)))
      have hbc := bagS sc hbb
      clear ec
      -- all bounds beside
      refine ⟨4, rfl, by decide, by decide, for_range (n := 4) (fun _ σ Hd => ∃ z12 z13, σ = [some (.ref al), some (.int (i : Int)), some (.ref bg), some (.ref l), some (.ref pm), some (.ref pg), z6, z7, z8, some (.int fw), some (.int od), some (.ref hp), z12, z13, y14] ∧ Same Hc Hd) ⟨_, _, rfl, Same.refl _⟩ (fun n1 σ Hd hn1 hW => ?_) (fun σ Hd hW => ?_)⟩
      · obtain ⟨z12, z13, rfl, sd⟩ := hW
        rw [Int.zero_add]
        refine ⟨1, 6, rfl, ⟨by decide, by decide, by decide, by decide⟩, for_range (n := 5) (fun _ σ He => ∃ z13, σ = [some (.ref al), some (.int (i : Int)), some (.ref bg), some (.ref l), some (.ref pm), some (.ref pg), z6, z7, z8, some (.int fw), some (.int od), some (.ref hp), some (.int (n1 : Int)), z13, y14] ∧ Same Hc He) ⟨_, rfl, sd⟩ (fun n2 σ He hn2 hW => ?_) (fun σ He hW => ?_)⟩
        · obtain ⟨u13, rfl, se⟩ := hW
          obtain ⟨tw, etw⟩ : ∃ y : Int, y = 1 + (n2 : Int) := ⟨_, rfl⟩
          rw [← etw]
          refine ⟨_, rfl, _, rfl, _, rfl, rfl, rfl, fun op dO nop ndo neo => ⟨op, dO, (n1 : Int), tw, rfl, upd_same, ⟨by omega, by omega⟩, rfl, ?_⟩⟩
          generalize ef : upd (upd (upd He dO (.own op)) op (.ins a.C_Bounds dO [])) op (.ins a.C_Bounds dO (bF (n1 : Int) tw)) = Hf
          have sf : Same He Hf := ef ▸ same_made nop ndo
          have bf : Hf op = some (.ins a.C_Bounds dO (bF (n1 : Int) tw)) := by rw [← ef]; exact upd_same
          clear ef
          refine ⟨_, rfl, _, rfl, by show 2 ≤ sizeLine; decide, fun t1 m1 => ?_⟩
          generalize eg' : upd Hf t1 _ = Hg
          obtain ⟨sg, fg⟩ := fresh m1 eg'
          refine ⟨_, rfl, _, rfl, by show 2 ≤ sizeLine; decide, fun t2 m2 => ?_⟩
          generalize eh : upd Hg t2 _ = Hh
          obtain ⟨sh, fh⟩ := fresh m2 eh
          refine ⟨_, _, .tup (SqT.of (sh _ _ fg)) (.cons (.int _) (.cons (.int _) .nil)), .tup (SqT.of fh) (.cons (.int _) (.cons (.int _) .nil)), rfl, rfl, ?_⟩
          rw [eqv_two]
          exact ⟨hp, op, hd, dO, (fw, od), ((n1 : Int), tw), rfl, (se.trans (sf.trans (sg.trans sh))) _ _ bc, (sg.trans sh) _ _ bf, fun Hi si => ⟨true, rfl, iteF ⟨_, rfl, se.trans (sf.trans (sg.trans (sh.trans si)))⟩⟩⟩
        · obtain ⟨u13, rfl, se⟩ := hW
          exact ⟨_, _, rfl, se⟩
      · obtain ⟨z12, z13, rfl, sd⟩ := hW
        have emd := sd _ _ emc
        have fld := sd _ _ flc
        have bd := sd _ _ bc
        -- things that are no rule
        refine ⟨_, rfl, l, _, rfl, .inl ⟨SqL.of fld, fun t1 m1 => ?_⟩⟩
        generalize ee : upd Hd t1 _ = He
        obtain ⟨se, fe⟩ := fresh m1 ee
        refine ⟨_, rfl, l, _, rfl, .inl (SqL.of (se _ _ fld)), fun l1 m2 => ?_⟩
        generalize ef : upd He l1 _ = Hf
        obtain ⟨sf, ff⟩ := fresh m2 ef
        have sdf := se.trans sf
        refine ⟨_, rfl, pm, dm, _, rfl, sdf _ _ emd, pm, dm, x, rfl, sdf _ _ emd, okx, fun zt => ⟨zt, rfl, ?_⟩⟩
        refine ⟨_, rfl, l, _, 0, .int x.p, rfl, rfl, SqL.of (sdf _ _ fld), rfl, _, rfl, by show 7 ≤ sizeLine; decide, fun l2 m3 => ?_⟩
        generalize eg' : upd Hf l2 _ = Hg
        obtain ⟨sg, fg⟩ := fresh m3 eg'
        have sdg := sdf.trans sg
        have oth : ∀ (j : Nat) (v : V), [V.non, .ref t1, .ref l1, .str zt, .int x.p, .ref hp, .bl true][j]? = some v → Oth K Hg a.C_Rule v := by
          intro j v hj
          match j, hj with
          | 0, hj => cases hj; exact ⟨_, .base .non, T.x_Rule_NoneType⟩
          | 1, hj => cases hj; exact ⟨_, .base (.tup ((sf.trans sg) _ _ fe)), T.x_Rule_tuple⟩
          | 2, hj => cases hj; exact ⟨_, .base (.lst (sg _ _ ff)), T.x_Rule_list⟩
          | 3, hj => cases hj; exact ⟨_, .base (.str _), T.x_Rule_str⟩
          | 4, hj => cases hj; exact ⟨_, .base (.int _), T.x_Rule_int⟩
          | 5, hj => cases hj; exact ⟨_, ty_ins T.is_Bounds (sdg _ _ bd), T.x_Rule_Bounds⟩
          | 6, hj => cases hj; exact ⟨_, .base (.bl _), T.x_Rule_bool⟩
          | j + 7, hj => exact absurd hj (by simp)
        refine ⟨l2, rfl, ⟨_, SqL.of fg⟩, for_list (xs := [V.non, .ref t1, .ref l1, .str zt, .int x.p, .ref hp, .bl true]) (fun _ σ Hz => ∃ z14, σ = [some (.ref al), some (.int (i : Int)), some (.ref bg), some (.ref l), some (.ref pm), some (.ref pg), z6, z7, z8, some (.int fw), some (.int od), some (.ref hp), z12, z13, z14] ∧ Hg = Hz) ⟨_, rfl, rfl⟩ (fun j σ Hz _ hW => ?_) (fun j v σ Hz hj hW => ?_) (fun σ Hz hW => ?_)⟩
        · obtain ⟨_, _, rfl⟩ := hW
          exact SqL.of fg
        · obtain ⟨u14, rfl, rfl⟩ := hW
          obtain ⟨t, ht, kt⟩ := oth j v hj
          have em' := sdg _ _ emd
          refine ⟨_, rfl, _, rfl, pm, dm, _, t, rfl, em', ht, nf_of kt, pm, dm, _, x, rfl, em', .inr ⟨t, ht, kt, false, rfl, iteF ?_⟩⟩
          exact ⟨_, rfl, _, rfl, pm, dm, _, t, rfl, em', ht, nf_of kt, pm, dm, _, x, rfl, em', .inr ⟨t, ht, kt, false, rfl, true, rfl, iteF ⟨_, rfl, rfl⟩⟩⟩
        · obtain ⟨u14, rfl, rfl⟩ := hW
          -- things that are no bounds
          have bg' := sdg _ _ bd
          have em' := sdg _ _ emd
          refine ⟨_, rfl, _, rfl, by show 2 ≤ sizeLine; decide, fun t2 m4 => ?_⟩
          generalize eh : upd Hg t2 _ = Hh
          obtain ⟨sh, fh⟩ := fresh m4 eh
          refine ⟨_, rfl, _, rfl, by show 2 ≤ sizeLine; decide, fun l3 m5 => ?_⟩
          generalize ei : upd Hh l3 _ = Hi
          obtain ⟨si, fi⟩ := fresh m5 ei
          have shi := sh.trans si
          refine ⟨_, rfl, hp, hd, _, rfl, shi _ _ bg', hp, hd, (fw, od), rfl, shi _ _ bg', okB, fun zt2 => ⟨zt2, rfl, ?_⟩⟩
          refine ⟨_, rfl, _, rfl, by show 7 ≤ sizeLine; decide, fun l4 m6 => ?_⟩
          generalize ej : upd Hi l4 _ = Hj
          obtain ⟨sj, fj⟩ := fresh m6 ej
          have shj := shi.trans sj
          have oth2 : ∀ (j : Nat) (v : V), [V.non, .ref t2, .ref l3, .str zt2, .int fw, .ref pm, .bl false][j]? = some v → Oth K Hj a.C_Bounds v := by
            intro j v hj
            match j, hj with
            | 0, hj => cases hj; exact ⟨_, .base .non, T.x_Bounds_NoneType⟩
            | 1, hj => cases hj; exact ⟨_, .base (.tup ((si.trans sj) _ _ fh)), T.x_Bounds_tuple⟩
            | 2, hj => cases hj; exact ⟨_, .base (.lst (sj _ _ fi)), T.x_Bounds_list⟩
            | 3, hj => cases hj; exact ⟨_, .base (.str _), T.x_Bounds_str⟩
            | 4, hj => cases hj; exact ⟨_, .base (.int _), T.x_Bounds_int⟩
            | 5, hj => cases hj; exact ⟨_, ty_ins T.is_Rule (shj _ _ em'), T.x_Bounds_Rule⟩
            | 6, hj => cases hj; exact ⟨_, .base (.bl _), T.x_Bounds_bool⟩
            | j + 7, hj => exact absurd hj (by simp)
          refine ⟨l4, rfl, ⟨_, SqL.of fj⟩, for_list (xs := [V.non, .ref t2, .ref l3, .str zt2, .int fw, .ref pm, .bl false]) (fun _ σ Hz => ∃ z14, σ = [some (.ref al), some (.int (i : Int)), some (.ref bg), some (.ref l), some (.ref pm), some (.ref pg), z6, z7, z8, some (.int fw), some (.int od), some (.ref hp), z12, z13, z14] ∧ Hj = Hz) ⟨_, rfl, rfl⟩ (fun j σ Hz _ hW => ?_) (fun j v σ Hz hj hW => ?_) (fun σ Hz hW => ?_)⟩
          · obtain ⟨_, _, rfl⟩ := hW
            exact SqL.of fj
          · obtain ⟨u14, rfl, rfl⟩ := hW
            obtain ⟨t, ht, kt⟩ := oth2 j v hj
            have bj := shj _ _ bg'
            refine ⟨_, rfl, _, rfl, hp, hd, _, t, rfl, bj, ht, nf_of kt, hp, hd, _, (fw, od), rfl, bj, .inr ⟨t, ht, kt, false, rfl, iteF ?_⟩⟩
            exact ⟨_, rfl, _, rfl, hp, hd, _, t, rfl, bj, ht, nf_of kt, hp, hd, _, (fw, od), rfl, bj, .inr ⟨t, ht, kt, false, rfl, true, rfl, iteF ⟨_, rfl, rfl⟩⟩⟩
          · obtain ⟨u14, rfl, rfl⟩ := hW
            have kz : Kp bg H1 Hj := kc.trans (Same.kp (sd.trans (sdg.trans shj)))
            exact ⟨_, _, _, _, _, _, _, _, _, _, _, _, _, _, rfl, kz.sqn nb hS1⟩
end
theorem all_mk {l : PySem.W.OpenLaw} {w : World} {K : PySem.W.Frag} {h : Heap} {mg : Str → Option Value} {fa C_Bounds C_Rule f_is_whole f_is_within f_is_gap f_claiming_ticks f_least_period f__law_bag f__law_take f__law_is_whole f__law_parts f__law_is_rule f__law_made_rule f__law_same_right f_law f_Bounds___init__ f_Bounds___eq__ f_Bounds___repr__ f_Rule___init__ f_Rule___eq__ f_Rule___repr__ : Addr} (X : K.In h) (G : h.Ns mainGlobals mg) (hfa : mg "law" = some (.ref fa))
    {od_is_whole an_is_whole od_is_within an_is_within od_is_gap an_is_gap od_claiming_ticks an_claiming_ticks od_least_period an_least_period od__law_bag an__law_bag od__law_take an__law_take od__law_is_whole an__law_is_whole od__law_parts an__law_parts od__law_is_rule an__law_is_rule od__law_made_rule an__law_made_rule od__law_same_right an__law_same_right od_law an_law od_Bounds___init__ an_Bounds___init__ od_Bounds___eq__ an_Bounds___eq__ od_Bounds___repr__ an_Bounds___repr__ od_Rule___init__ an_Rule___init__ od_Rule___eq__ an_Rule___eq__ od_Rule___repr__ an_Rule___repr__ : Option Addr} {sl_is_whole sl_is_within sl_is_gap sl_claiming_ticks sl_least_period sl__law_bag sl__law_take sl__law_is_whole sl__law_parts sl__law_is_rule sl__law_made_rule sl__law_same_right sl_law sl_Bounds___init__ sl_Bounds___eq__ sl_Bounds___repr__ sl_Rule___init__ sl_Rule___eq__ sl_Rule___repr__ : Array (Option Value)} {oc_is_whole kV_is_whole dc_is_whole pm_is_whole cd_is_whole ct_is_whole oc_is_within kV_is_within dc_is_within pm_is_within cd_is_within ct_is_within oc_is_gap kV_is_gap dc_is_gap pm_is_gap cd_is_gap ct_is_gap oc_claiming_ticks kV_claiming_ticks dc_claiming_ticks pm_claiming_ticks cd_claiming_ticks ct_claiming_ticks oc_least_period kV_least_period dc_least_period pm_least_period cd_least_period ct_least_period oc__law_bag kV__law_bag dc__law_bag pm__law_bag cd__law_bag ct__law_bag oc__law_take kV__law_take dc__law_take pm__law_take cd__law_take ct__law_take oc__law_is_whole kV__law_is_whole dc__law_is_whole pm__law_is_whole cd__law_is_whole ct__law_is_whole oc__law_parts kV__law_parts dc__law_parts pm__law_parts cd__law_parts ct__law_parts oc__law_is_rule kV__law_is_rule dc__law_is_rule pm__law_is_rule cd__law_is_rule ct__law_is_rule oc__law_made_rule kV__law_made_rule dc__law_made_rule pm__law_made_rule cd__law_made_rule ct__law_made_rule oc__law_same_right kV__law_same_right dc__law_same_right pm__law_same_right cd__law_same_right ct__law_same_right oc_law kV_law dc_law pm_law cd_law ct_law oc_Bounds___init__ kV_Bounds___init__ dc_Bounds___init__ pm_Bounds___init__ cd_Bounds___init__ ct_Bounds___init__ oc_Bounds___eq__ kV_Bounds___eq__ dc_Bounds___eq__ pm_Bounds___eq__ cd_Bounds___eq__ ct_Bounds___eq__ oc_Bounds___repr__ kV_Bounds___repr__ dc_Bounds___repr__ pm_Bounds___repr__ cd_Bounds___repr__ ct_Bounds___repr__ oc_Rule___init__ kV_Rule___init__ dc_Rule___init__ pm_Rule___init__ cd_Rule___init__ ct_Rule___init__ oc_Rule___eq__ kV_Rule___eq__ dc_Rule___eq__ pm_Rule___eq__ cd_Rule___eq__ ct_Rule___eq__ oc_Rule___repr__ kV_Rule___repr__ dc_Rule___repr__ pm_Rule___repr__ cd_Rule___repr__ ct_Rule___repr__ : Value}
    (g_Bounds : PySem.W.nsIn K mainGlobals "Bounds" = some (some (.ref C_Bounds)))
    (pg_Bounds : PySem.W.plainGet K C_Bounds Str.empty = true)
    (hd_Bounds : PySem.W.hasDictIn K C_Bounds = true)
    (po_Bounds : PySem.W.plainOver K C_Bounds = true)
    (sa_Bounds : PySem.W.findIn K (.ref C_Bounds) "__setattr__" = some (some (.builtin "object.__setattr__")))
    (mi_Bounds : PySem.W.makesIn K C_Bounds = true)
    (kc_Bounds : PySem.W.keepIn K (.ref C_Bounds) = true)
    (n_Bounds_lost : PySem.W.findIn K (.ref C_Bounds) "lost" = some none)
    (n_Bounds_late : PySem.W.findIn K (.ref C_Bounds) "late" = some none)
    (ia_Bounds : PySem.W.findIn K (.ref C_Bounds) "__class__" = some (some (.builtin "object.__class__")))
    (ib_Bounds : PySem.W.specialIn K (.builtin "object.__class__") "__get__" = some (some (.builtin "getset_descriptor.__get__")))
    (ic_Bounds : PySem.W.takesIn K (.builtin "object.__class__") = some true)
    (id_Bounds : PySem.W.mroIn K C_Bounds (.type "object") = some true)
    (g_Rule : PySem.W.nsIn K mainGlobals "Rule" = some (some (.ref C_Rule)))
    (pg_Rule : PySem.W.plainGet K C_Rule Str.empty = true)
    (hd_Rule : PySem.W.hasDictIn K C_Rule = true)
    (po_Rule : PySem.W.plainOver K C_Rule = true)
    (sa_Rule : PySem.W.findIn K (.ref C_Rule) "__setattr__" = some (some (.builtin "object.__setattr__")))
    (mi_Rule : PySem.W.makesIn K C_Rule = true)
    (kc_Rule : PySem.W.keepIn K (.ref C_Rule) = true)
    (n_Rule_probes : PySem.W.findIn K (.ref C_Rule) "probes" = some none)
    (n_Rule_gap : PySem.W.findIn K (.ref C_Rule) "gap" = some none)
    (n_Rule_wait : PySem.W.findIn K (.ref C_Rule) "wait" = some none)
    (n_Rule_repeats : PySem.W.findIn K (.ref C_Rule) "repeats" = some none)
    (n_Rule_period : PySem.W.findIn K (.ref C_Rule) "period" = some none)
    (n_Rule_life : PySem.W.findIn K (.ref C_Rule) "life" = some none)
    (ia_Rule : PySem.W.findIn K (.ref C_Rule) "__class__" = some (some (.builtin "object.__class__")))
    (ib_Rule : PySem.W.specialIn K (.builtin "object.__class__") "__get__" = some (some (.builtin "getset_descriptor.__get__")))
    (ic_Rule : PySem.W.takesIn K (.builtin "object.__class__") = some true)
    (id_Rule : PySem.W.mroIn K C_Rule (.type "object") = some true)
    (a_is_whole : PySem.W.nsIn K mainGlobals "is_whole" = some (some (.ref f_is_whole)))
    (l_is_whole : K.lookup f_is_whole = some ⟨oc_is_whole, od_is_whole, .func (PySem.W.fnOf "is_whole" "is_whole" (defArgs sWhole) (defBody sWhole) (defScope sWhole) .none kV_is_whole dc_is_whole pm_is_whole an_is_whole cd_is_whole ct_is_whole), sl_is_whole⟩)
    (c_is_whole : PySem.W.codeIn K cd_is_whole "is_whole" = true)
    (k_is_whole : PySem.W.keepIn K (.ref f_is_whole) = true)
    (a_is_within : PySem.W.nsIn K mainGlobals "is_within" = some (some (.ref f_is_within)))
    (l_is_within : K.lookup f_is_within = some ⟨oc_is_within, od_is_within, .func (PySem.W.fnOf "is_within" "is_within" (defArgs sWithin) (defBody sWithin) (defScope sWithin) .none kV_is_within dc_is_within pm_is_within an_is_within cd_is_within ct_is_within), sl_is_within⟩)
    (c_is_within : PySem.W.codeIn K cd_is_within "is_within" = true)
    (k_is_within : PySem.W.keepIn K (.ref f_is_within) = true)
    (a_is_gap : PySem.W.nsIn K mainGlobals "is_gap" = some (some (.ref f_is_gap)))
    (l_is_gap : K.lookup f_is_gap = some ⟨oc_is_gap, od_is_gap, .func (PySem.W.fnOf "is_gap" "is_gap" (defArgs sGap) (defBody sGap) (defScope sGap) .none kV_is_gap dc_is_gap pm_is_gap an_is_gap cd_is_gap ct_is_gap), sl_is_gap⟩)
    (c_is_gap : PySem.W.codeIn K cd_is_gap "is_gap" = true)
    (k_is_gap : PySem.W.keepIn K (.ref f_is_gap) = true)
    (a_claiming_ticks : PySem.W.nsIn K mainGlobals "claiming_ticks" = some (some (.ref f_claiming_ticks)))
    (l_claiming_ticks : K.lookup f_claiming_ticks = some ⟨oc_claiming_ticks, od_claiming_ticks, .func (PySem.W.fnOf "claiming_ticks" "claiming_ticks" (defArgs sClaim) (defBody sClaim) (defScope sClaim) .none kV_claiming_ticks dc_claiming_ticks pm_claiming_ticks an_claiming_ticks cd_claiming_ticks ct_claiming_ticks), sl_claiming_ticks⟩)
    (c_claiming_ticks : PySem.W.codeIn K cd_claiming_ticks "claiming_ticks" = true)
    (k_claiming_ticks : PySem.W.keepIn K (.ref f_claiming_ticks) = true)
    (a_least_period : PySem.W.nsIn K mainGlobals "least_period" = some (some (.ref f_least_period)))
    (l_least_period : K.lookup f_least_period = some ⟨oc_least_period, od_least_period, .func (PySem.W.fnOf "least_period" "least_period" (defArgs sPeriod) (defBody sPeriod) (defScope sPeriod) .none kV_least_period dc_least_period pm_least_period an_least_period cd_least_period ct_least_period), sl_least_period⟩)
    (c_least_period : PySem.W.codeIn K cd_least_period "least_period" = true)
    (k_least_period : PySem.W.keepIn K (.ref f_least_period) = true)
    (a__law_bag : PySem.W.nsIn K mainGlobals "_law_bag" = some (some (.ref f__law_bag)))
    (l__law_bag : K.lookup f__law_bag = some ⟨oc__law_bag, od__law_bag, .func (PySem.W.fnOf "_law_bag" "_law_bag" (defArgs sBag) (defBody sBag) (defScope sBag) .none kV__law_bag dc__law_bag pm__law_bag an__law_bag cd__law_bag ct__law_bag), sl__law_bag⟩)
    (c__law_bag : PySem.W.codeIn K cd__law_bag "_law_bag" = true)
    (k__law_bag : PySem.W.keepIn K (.ref f__law_bag) = true)
    (a__law_take : PySem.W.nsIn K mainGlobals "_law_take" = some (some (.ref f__law_take)))
    (l__law_take : K.lookup f__law_take = some ⟨oc__law_take, od__law_take, .func (PySem.W.fnOf "_law_take" "_law_take" (defArgs sTake) (defBody sTake) (defScope sTake) .none kV__law_take dc__law_take pm__law_take an__law_take cd__law_take ct__law_take), sl__law_take⟩)
    (c__law_take : PySem.W.codeIn K cd__law_take "_law_take" = true)
    (k__law_take : PySem.W.keepIn K (.ref f__law_take) = true)
    (a__law_is_whole : PySem.W.nsIn K mainGlobals "_law_is_whole" = some (some (.ref f__law_is_whole)))
    (l__law_is_whole : K.lookup f__law_is_whole = some ⟨oc__law_is_whole, od__law_is_whole, .func (PySem.W.fnOf "_law_is_whole" "_law_is_whole" (defArgs sLWhole) (defBody sLWhole) (defScope sLWhole) .none kV__law_is_whole dc__law_is_whole pm__law_is_whole an__law_is_whole cd__law_is_whole ct__law_is_whole), sl__law_is_whole⟩)
    (c__law_is_whole : PySem.W.codeIn K cd__law_is_whole "_law_is_whole" = true)
    (k__law_is_whole : PySem.W.keepIn K (.ref f__law_is_whole) = true)
    (a__law_parts : PySem.W.nsIn K mainGlobals "_law_parts" = some (some (.ref f__law_parts)))
    (l__law_parts : K.lookup f__law_parts = some ⟨oc__law_parts, od__law_parts, .func (PySem.W.fnOf "_law_parts" "_law_parts" (defArgs sParts) (defBody sParts) (defScope sParts) .none kV__law_parts dc__law_parts pm__law_parts an__law_parts cd__law_parts ct__law_parts), sl__law_parts⟩)
    (c__law_parts : PySem.W.codeIn K cd__law_parts "_law_parts" = true)
    (k__law_parts : PySem.W.keepIn K (.ref f__law_parts) = true)
    (a__law_is_rule : PySem.W.nsIn K mainGlobals "_law_is_rule" = some (some (.ref f__law_is_rule)))
    (l__law_is_rule : K.lookup f__law_is_rule = some ⟨oc__law_is_rule, od__law_is_rule, .func (PySem.W.fnOf "_law_is_rule" "_law_is_rule" (defArgs sIsR) (defBody sIsR) (defScope sIsR) .none kV__law_is_rule dc__law_is_rule pm__law_is_rule an__law_is_rule cd__law_is_rule ct__law_is_rule), sl__law_is_rule⟩)
    (c__law_is_rule : PySem.W.codeIn K cd__law_is_rule "_law_is_rule" = true)
    (k__law_is_rule : PySem.W.keepIn K (.ref f__law_is_rule) = true)
    (a__law_made_rule : PySem.W.nsIn K mainGlobals "_law_made_rule" = some (some (.ref f__law_made_rule)))
    (l__law_made_rule : K.lookup f__law_made_rule = some ⟨oc__law_made_rule, od__law_made_rule, .func (PySem.W.fnOf "_law_made_rule" "_law_made_rule" (defArgs sMade) (defBody sMade) (defScope sMade) .none kV__law_made_rule dc__law_made_rule pm__law_made_rule an__law_made_rule cd__law_made_rule ct__law_made_rule), sl__law_made_rule⟩)
    (c__law_made_rule : PySem.W.codeIn K cd__law_made_rule "_law_made_rule" = true)
    (k__law_made_rule : PySem.W.keepIn K (.ref f__law_made_rule) = true)
    (a__law_same_right : PySem.W.nsIn K mainGlobals "_law_same_right" = some (some (.ref f__law_same_right)))
    (l__law_same_right : K.lookup f__law_same_right = some ⟨oc__law_same_right, od__law_same_right, .func (PySem.W.fnOf "_law_same_right" "_law_same_right" (defArgs sSame) (defBody sSame) (defScope sSame) .none kV__law_same_right dc__law_same_right pm__law_same_right an__law_same_right cd__law_same_right ct__law_same_right), sl__law_same_right⟩)
    (c__law_same_right : PySem.W.codeIn K cd__law_same_right "_law_same_right" = true)
    (k__law_same_right : PySem.W.keepIn K (.ref f__law_same_right) = true)
    (a_law : PySem.W.nsIn K mainGlobals "law" = some (some (.ref f_law)))
    (l_law : K.lookup f_law = some ⟨oc_law, od_law, .func (PySem.W.fnOf "law" "law" (defArgs sLaw) (defBody sLaw) (defScope sLaw) .none kV_law dc_law pm_law an_law cd_law ct_law), sl_law⟩)
    (c_law : PySem.W.codeIn K cd_law "law" = true)
    (k_law : PySem.W.keepIn K (.ref f_law) = true)
    (a_Bounds___init__ : PySem.W.findIn K (.ref C_Bounds) "__init__" = some (some (.ref f_Bounds___init__)))
    (i_Bounds___init__ : PySem.W.isFn K (.ref f_Bounds___init__) = true)
    (l_Bounds___init__ : K.lookup f_Bounds___init__ = some ⟨oc_Bounds___init__, od_Bounds___init__, .func (PySem.W.fnOf "__init__" "Bounds.__init__" (defArgs sBInit) (defBody sBInit) (defScope sBInit) .none kV_Bounds___init__ dc_Bounds___init__ pm_Bounds___init__ an_Bounds___init__ cd_Bounds___init__ ct_Bounds___init__), sl_Bounds___init__⟩)
    (c_Bounds___init__ : PySem.W.codeIn K cd_Bounds___init__ "Bounds.__init__" = true)
    (k_Bounds___init__ : PySem.W.keepIn K (.ref f_Bounds___init__) = true)
    (a_Bounds___eq__ : PySem.W.findIn K (.ref C_Bounds) "__eq__" = some (some (.ref f_Bounds___eq__)))
    (i_Bounds___eq__ : PySem.W.isFn K (.ref f_Bounds___eq__) = true)
    (l_Bounds___eq__ : K.lookup f_Bounds___eq__ = some ⟨oc_Bounds___eq__, od_Bounds___eq__, .func (PySem.W.fnOf "__eq__" "Bounds.__eq__" (defArgs sBEq) (defBody sBEq) (defScope sBEq) .none kV_Bounds___eq__ dc_Bounds___eq__ pm_Bounds___eq__ an_Bounds___eq__ cd_Bounds___eq__ ct_Bounds___eq__), sl_Bounds___eq__⟩)
    (c_Bounds___eq__ : PySem.W.codeIn K cd_Bounds___eq__ "Bounds.__eq__" = true)
    (k_Bounds___eq__ : PySem.W.keepIn K (.ref f_Bounds___eq__) = true)
    (a_Bounds___repr__ : PySem.W.findIn K (.ref C_Bounds) "__repr__" = some (some (.ref f_Bounds___repr__)))
    (i_Bounds___repr__ : PySem.W.isFn K (.ref f_Bounds___repr__) = true)
    (l_Bounds___repr__ : K.lookup f_Bounds___repr__ = some ⟨oc_Bounds___repr__, od_Bounds___repr__, .func (PySem.W.fnOf "__repr__" "Bounds.__repr__" (defArgs sBRepr) (defBody sBRepr) (defScope sBRepr) .none kV_Bounds___repr__ dc_Bounds___repr__ pm_Bounds___repr__ an_Bounds___repr__ cd_Bounds___repr__ ct_Bounds___repr__), sl_Bounds___repr__⟩)
    (c_Bounds___repr__ : PySem.W.codeIn K cd_Bounds___repr__ "Bounds.__repr__" = true)
    (k_Bounds___repr__ : PySem.W.keepIn K (.ref f_Bounds___repr__) = true)
    (a_Rule___init__ : PySem.W.findIn K (.ref C_Rule) "__init__" = some (some (.ref f_Rule___init__)))
    (i_Rule___init__ : PySem.W.isFn K (.ref f_Rule___init__) = true)
    (l_Rule___init__ : K.lookup f_Rule___init__ = some ⟨oc_Rule___init__, od_Rule___init__, .func (PySem.W.fnOf "__init__" "Rule.__init__" (defArgs sRInit) (defBody sRInit) (defScope sRInit) .none kV_Rule___init__ dc_Rule___init__ pm_Rule___init__ an_Rule___init__ cd_Rule___init__ ct_Rule___init__), sl_Rule___init__⟩)
    (c_Rule___init__ : PySem.W.codeIn K cd_Rule___init__ "Rule.__init__" = true)
    (k_Rule___init__ : PySem.W.keepIn K (.ref f_Rule___init__) = true)
    (a_Rule___eq__ : PySem.W.findIn K (.ref C_Rule) "__eq__" = some (some (.ref f_Rule___eq__)))
    (i_Rule___eq__ : PySem.W.isFn K (.ref f_Rule___eq__) = true)
    (l_Rule___eq__ : K.lookup f_Rule___eq__ = some ⟨oc_Rule___eq__, od_Rule___eq__, .func (PySem.W.fnOf "__eq__" "Rule.__eq__" (defArgs sREq) (defBody sREq) (defScope sREq) .none kV_Rule___eq__ dc_Rule___eq__ pm_Rule___eq__ an_Rule___eq__ cd_Rule___eq__ ct_Rule___eq__), sl_Rule___eq__⟩)
    (c_Rule___eq__ : PySem.W.codeIn K cd_Rule___eq__ "Rule.__eq__" = true)
    (k_Rule___eq__ : PySem.W.keepIn K (.ref f_Rule___eq__) = true)
    (a_Rule___repr__ : PySem.W.findIn K (.ref C_Rule) "__repr__" = some (some (.ref f_Rule___repr__)))
    (i_Rule___repr__ : PySem.W.isFn K (.ref f_Rule___repr__) = true)
    (l_Rule___repr__ : K.lookup f_Rule___repr__ = some ⟨oc_Rule___repr__, od_Rule___repr__, .func (PySem.W.fnOf "__repr__" "Rule.__repr__" (defArgs sRRepr) (defBody sRRepr) (defScope sRRepr) .none kV_Rule___repr__ dc_Rule___repr__ pm_Rule___repr__ an_Rule___repr__ cd_Rule___repr__ ct_Rule___repr__), sl_Rule___repr__⟩)
    (c_Rule___repr__ : PySem.W.codeIn K cd_Rule___repr__ "Rule.__repr__" = true)
    (k_Rule___repr__ : PySem.W.keepIn K (.ref f_Rule___repr__) = true)
    (z_len : PySem.W.nsIn K mainGlobals "len" = some none)
    (z_abs : PySem.W.nsIn K mainGlobals "abs" = some none)
    (z_range : PySem.W.nsIn K mainGlobals "range" = some none)
    (z_max : PySem.W.nsIn K mainGlobals "max" = some none)
    (z_min : PySem.W.nsIn K mainGlobals "min" = some none)
    (z_isinstance : PySem.W.nsIn K mainGlobals "isinstance" = some none)
    (z_bool : PySem.W.nsIn K mainGlobals "bool" = some none)
    (z_int : PySem.W.nsIn K mainGlobals "int" = some none)
    (z_all : PySem.W.nsIn K mainGlobals "all" = some none)
    (z_zip : PySem.W.nsIn K mainGlobals "zip" = some none)
    (z_list : PySem.W.nsIn K mainGlobals "list" = some none)
    (z_tuple : PySem.W.nsIn K mainGlobals "tuple" = some none)
    (z_repr : PySem.W.nsIn K mainGlobals "repr" = some none)
    (x_Bounds_NoneType : PySem.W.kitOne K (.type "NoneType") (.ref C_Bounds) = some false)
    (x_Bounds_tuple : PySem.W.kitOne K (.type "tuple") (.ref C_Bounds) = some false)
    (x_Bounds_list : PySem.W.kitOne K (.type "list") (.ref C_Bounds) = some false)
    (x_Bounds_str : PySem.W.kitOne K (.type "str") (.ref C_Bounds) = some false)
    (x_Bounds_int : PySem.W.kitOne K (.type "int") (.ref C_Bounds) = some false)
    (x_Bounds_bool : PySem.W.kitOne K (.type "bool") (.ref C_Bounds) = some false)
    (x_Bounds_Rule : PySem.W.kitOne K (.ref C_Rule) (.ref C_Bounds) = some false)
    (x_Bounds_ne : PySem.W.findIn K (.ref C_Bounds) "__ne__" = some (some (.builtin "object.__ne__")))
    (x_Bounds_no : PySem.W.subIn K (.ref C_Bounds) (.type "NoneType") = some false)
    (x_Rule_NoneType : PySem.W.kitOne K (.type "NoneType") (.ref C_Rule) = some false)
    (x_Rule_tuple : PySem.W.kitOne K (.type "tuple") (.ref C_Rule) = some false)
    (x_Rule_list : PySem.W.kitOne K (.type "list") (.ref C_Rule) = some false)
    (x_Rule_str : PySem.W.kitOne K (.type "str") (.ref C_Rule) = some false)
    (x_Rule_int : PySem.W.kitOne K (.type "int") (.ref C_Rule) = some false)
    (x_Rule_bool : PySem.W.kitOne K (.type "bool") (.ref C_Rule) = some false)
    (x_Rule_Bounds : PySem.W.kitOne K (.ref C_Bounds) (.ref C_Rule) = some false)
    (x_Rule_ne : PySem.W.findIn K (.ref C_Rule) "__ne__" = some (some (.builtin "object.__ne__")))
    (x_Rule_no : PySem.W.subIn K (.ref C_Rule) (.type "NoneType") = some false) :
    ∃ fd : FuncData, (∀ (s : Shared) (v : Value), BindsTo s fd ⟨[v], []⟩ [("_law_script", v)]) ∧ ∀ base : Heap, K.In base → base.Ns mainGlobals mg → FnG l.prog w K mg base CX0 8 fa fd ["_law_script"] (spLaw K) := by
  have e := hfa.symm.trans (PySem.W.mg_of X G a_law)
  cases e
  let a : Adr := { f_is_whole := f_is_whole, d_is_whole := (PySem.W.fnOf "is_whole" "is_whole" (defArgs sWhole) (defBody sWhole) (defScope sWhole) .none kV_is_whole dc_is_whole pm_is_whole an_is_whole cd_is_whole ct_is_whole), f_is_within := f_is_within, d_is_within := (PySem.W.fnOf "is_within" "is_within" (defArgs sWithin) (defBody sWithin) (defScope sWithin) .none kV_is_within dc_is_within pm_is_within an_is_within cd_is_within ct_is_within), f_is_gap := f_is_gap, d_is_gap := (PySem.W.fnOf "is_gap" "is_gap" (defArgs sGap) (defBody sGap) (defScope sGap) .none kV_is_gap dc_is_gap pm_is_gap an_is_gap cd_is_gap ct_is_gap), f_claiming_ticks := f_claiming_ticks, d_claiming_ticks := (PySem.W.fnOf "claiming_ticks" "claiming_ticks" (defArgs sClaim) (defBody sClaim) (defScope sClaim) .none kV_claiming_ticks dc_claiming_ticks pm_claiming_ticks an_claiming_ticks cd_claiming_ticks ct_claiming_ticks), f_least_period := f_least_period, d_least_period := (PySem.W.fnOf "least_period" "least_period" (defArgs sPeriod) (defBody sPeriod) (defScope sPeriod) .none kV_least_period dc_least_period pm_least_period an_least_period cd_least_period ct_least_period), f__law_bag := f__law_bag, d__law_bag := (PySem.W.fnOf "_law_bag" "_law_bag" (defArgs sBag) (defBody sBag) (defScope sBag) .none kV__law_bag dc__law_bag pm__law_bag an__law_bag cd__law_bag ct__law_bag), f__law_take := f__law_take, d__law_take := (PySem.W.fnOf "_law_take" "_law_take" (defArgs sTake) (defBody sTake) (defScope sTake) .none kV__law_take dc__law_take pm__law_take an__law_take cd__law_take ct__law_take), f__law_is_whole := f__law_is_whole, d__law_is_whole := (PySem.W.fnOf "_law_is_whole" "_law_is_whole" (defArgs sLWhole) (defBody sLWhole) (defScope sLWhole) .none kV__law_is_whole dc__law_is_whole pm__law_is_whole an__law_is_whole cd__law_is_whole ct__law_is_whole), f__law_parts := f__law_parts, d__law_parts := (PySem.W.fnOf "_law_parts" "_law_parts" (defArgs sParts) (defBody sParts) (defScope sParts) .none kV__law_parts dc__law_parts pm__law_parts an__law_parts cd__law_parts ct__law_parts), f__law_is_rule := f__law_is_rule, d__law_is_rule := (PySem.W.fnOf "_law_is_rule" "_law_is_rule" (defArgs sIsR) (defBody sIsR) (defScope sIsR) .none kV__law_is_rule dc__law_is_rule pm__law_is_rule an__law_is_rule cd__law_is_rule ct__law_is_rule), f__law_made_rule := f__law_made_rule, d__law_made_rule := (PySem.W.fnOf "_law_made_rule" "_law_made_rule" (defArgs sMade) (defBody sMade) (defScope sMade) .none kV__law_made_rule dc__law_made_rule pm__law_made_rule an__law_made_rule cd__law_made_rule ct__law_made_rule), f__law_same_right := f__law_same_right, d__law_same_right := (PySem.W.fnOf "_law_same_right" "_law_same_right" (defArgs sSame) (defBody sSame) (defScope sSame) .none kV__law_same_right dc__law_same_right pm__law_same_right an__law_same_right cd__law_same_right ct__law_same_right), f_law := fa, d_law := (PySem.W.fnOf "law" "law" (defArgs sLaw) (defBody sLaw) (defScope sLaw) .none kV_law dc_law pm_law an_law cd_law ct_law), C_Bounds := C_Bounds, f_Bounds___init__ := f_Bounds___init__, d_Bounds___init__ := (PySem.W.fnOf "__init__" "Bounds.__init__" (defArgs sBInit) (defBody sBInit) (defScope sBInit) .none kV_Bounds___init__ dc_Bounds___init__ pm_Bounds___init__ an_Bounds___init__ cd_Bounds___init__ ct_Bounds___init__), f_Bounds___eq__ := f_Bounds___eq__, d_Bounds___eq__ := (PySem.W.fnOf "__eq__" "Bounds.__eq__" (defArgs sBEq) (defBody sBEq) (defScope sBEq) .none kV_Bounds___eq__ dc_Bounds___eq__ pm_Bounds___eq__ an_Bounds___eq__ cd_Bounds___eq__ ct_Bounds___eq__), f_Bounds___repr__ := f_Bounds___repr__, d_Bounds___repr__ := (PySem.W.fnOf "__repr__" "Bounds.__repr__" (defArgs sBRepr) (defBody sBRepr) (defScope sBRepr) .none kV_Bounds___repr__ dc_Bounds___repr__ pm_Bounds___repr__ an_Bounds___repr__ cd_Bounds___repr__ ct_Bounds___repr__), C_Rule := C_Rule, f_Rule___init__ := f_Rule___init__, d_Rule___init__ := (PySem.W.fnOf "__init__" "Rule.__init__" (defArgs sRInit) (defBody sRInit) (defScope sRInit) .none kV_Rule___init__ dc_Rule___init__ pm_Rule___init__ an_Rule___init__ cd_Rule___init__ ct_Rule___init__), f_Rule___eq__ := f_Rule___eq__, d_Rule___eq__ := (PySem.W.fnOf "__eq__" "Rule.__eq__" (defArgs sREq) (defBody sREq) (defScope sREq) .none kV_Rule___eq__ dc_Rule___eq__ pm_Rule___eq__ an_Rule___eq__ cd_Rule___eq__ ct_Rule___eq__), f_Rule___repr__ := f_Rule___repr__, d_Rule___repr__ := (PySem.W.fnOf "__repr__" "Rule.__repr__" (defArgs sRRepr) (defBody sRRepr) (defScope sRRepr) .none kV_Rule___repr__ dc_Rule___repr__ pm_Rule___repr__ an_Rule___repr__ cd_Rule___repr__ ct_Rule___repr__) }
  have T : Tx K mg a :=
    { F_is_whole := fun_mk (st := sWhole) l_is_whole c_is_whole k_is_whole
      g_is_whole := PySem.W.mg_of X G a_is_whole
      b_is_whole := (fun_mk (st := sWhole) l_is_whole c_is_whole k_is_whole).binds (ps := ["thing"]) fun _ _ _ _ _ _ us hl => match us, hl with | [_], _ => rfl
      F_is_within := fun_mk (st := sWithin) l_is_within c_is_within k_is_within
      g_is_within := PySem.W.mg_of X G a_is_within
      b_is_within := (fun_mk (st := sWithin) l_is_within c_is_within k_is_within).binds (ps := ["thing", "low", "high"]) fun _ _ _ _ _ _ us hl => match us, hl with | [_, _, _], _ => rfl
      F_is_gap := fun_mk (st := sGap) l_is_gap c_is_gap k_is_gap
      g_is_gap := PySem.W.mg_of X G a_is_gap
      b_is_gap := (fun_mk (st := sGap) l_is_gap c_is_gap k_is_gap).binds (ps := ["thing"]) fun _ _ _ _ _ _ us hl => match us, hl with | [_], _ => rfl
      F_claiming_ticks := fun_mk (st := sClaim) l_claiming_ticks c_claiming_ticks k_claiming_ticks
      g_claiming_ticks := PySem.W.mg_of X G a_claiming_ticks
      b_claiming_ticks := (fun_mk (st := sClaim) l_claiming_ticks c_claiming_ticks k_claiming_ticks).binds (ps := ["probes", "gap", "wait"]) fun _ _ _ _ _ _ us hl => match us, hl with | [_, _, _], _ => rfl
      F_least_period := fun_mk (st := sPeriod) l_least_period c_least_period k_least_period
      g_least_period := PySem.W.mg_of X G a_least_period
      b_least_period := (fun_mk (st := sPeriod) l_least_period c_least_period k_least_period).binds (ps := ["probes", "gap", "wait"]) fun _ _ _ _ _ _ us hl => match us, hl with | [_, _, _], _ => rfl
      F__law_bag := fun_mk (st := sBag) l__law_bag c__law_bag k__law_bag
      g__law_bag := PySem.W.mg_of X G a__law_bag
      b__law_bag := (fun_mk (st := sBag) l__law_bag c__law_bag k__law_bag).binds (ps := ["_law_script", "_law_at"]) fun _ _ _ _ _ _ us hl => match us, hl with | [_, _], _ => rfl
      F__law_take := fun_mk (st := sTake) l__law_take c__law_take k__law_take
      g__law_take := PySem.W.mg_of X G a__law_take
      b__law_take := (fun_mk (st := sTake) l__law_take c__law_take k__law_take).binds (ps := ["_law_bag_here", "_law_many"]) fun _ _ _ _ _ _ us hl => match us, hl with | [_, _], _ => rfl
      F__law_is_whole := fun_mk (st := sLWhole) l__law_is_whole c__law_is_whole k__law_is_whole
      g__law_is_whole := PySem.W.mg_of X G a__law_is_whole
      b__law_is_whole := (fun_mk (st := sLWhole) l__law_is_whole c__law_is_whole k__law_is_whole).binds (ps := ["_law_thing"]) fun _ _ _ _ _ _ us hl => match us, hl with | [_], _ => rfl
      F__law_parts := fun_mk (st := sParts) l__law_parts c__law_parts k__law_parts
      g__law_parts := PySem.W.mg_of X G a__law_parts
      b__law_parts := (fun_mk (st := sParts) l__law_parts c__law_parts k__law_parts).binds (ps := ["_law_bag_here"]) fun _ _ _ _ _ _ us hl => match us, hl with | [_], _ => rfl
      F__law_is_rule := fun_mk (st := sIsR) l__law_is_rule c__law_is_rule k__law_is_rule
      g__law_is_rule := PySem.W.mg_of X G a__law_is_rule
      b__law_is_rule := (fun_mk (st := sIsR) l__law_is_rule c__law_is_rule k__law_is_rule).binds (ps := ["_law_parts_here"]) fun _ _ _ _ _ _ us hl => match us, hl with | [_], _ => rfl
      F__law_made_rule := fun_mk (st := sMade) l__law_made_rule c__law_made_rule k__law_made_rule
      g__law_made_rule := PySem.W.mg_of X G a__law_made_rule
      b__law_made_rule := (fun_mk (st := sMade) l__law_made_rule c__law_made_rule k__law_made_rule).binds (ps := ["_law_parts_here"]) fun _ _ _ _ _ _ us hl => match us, hl with | [_], _ => rfl
      F__law_same_right := fun_mk (st := sSame) l__law_same_right c__law_same_right k__law_same_right
      g__law_same_right := PySem.W.mg_of X G a__law_same_right
      b__law_same_right := (fun_mk (st := sSame) l__law_same_right c__law_same_right k__law_same_right).binds (ps := ["_law_one", "_law_other", "_law_due"]) fun _ _ _ _ _ _ us hl => match us, hl with | [_, _, _], _ => rfl
      F_law := fun_mk (st := sLaw) l_law c_law k_law
      g_law := PySem.W.mg_of X G a_law
      b_law := (fun_mk (st := sLaw) l_law c_law k_law).binds (ps := ["_law_script"]) fun _ _ _ _ _ _ us hl => match us, hl with | [_], _ => rfl
      g_Bounds := PySem.W.mg_of X G g_Bounds
      cl_Bounds := ⟨pg_Bounds, hd_Bounds, po_Bounds, sa_Bounds⟩
      n_Bounds_lost := n_Bounds_lost
      n_Bounds_late := n_Bounds_late
      is_Bounds := ⟨⟨pg_Bounds, hd_Bounds, po_Bounds, sa_Bounds⟩, ia_Bounds, ib_Bounds, ic_Bounds, id_Bounds, kit_self⟩
      F_Bounds___init__ := fun_mk (st := sBInit) l_Bounds___init__ c_Bounds___init__ k_Bounds___init__
      mk_Bounds := ⟨mi_Bounds, a_Bounds___init__, i_Bounds___init__, kc_Bounds⟩
      F_Bounds___eq__ := fun_mk (st := sBEq) l_Bounds___eq__ c_Bounds___eq__ k_Bounds___eq__
      me_Bounds___eq__ := ⟨a_Bounds___eq__, i_Bounds___eq__, k_Bounds___eq__⟩
      b_Bounds___eq__ := (fun_mk (st := sBEq) l_Bounds___eq__ c_Bounds___eq__ k_Bounds___eq__).binds (ps := ["self", "other"]) fun _ _ _ _ _ _ us hl => match us, hl with | [_, _], _ => rfl
      F_Bounds___repr__ := fun_mk (st := sBRepr) l_Bounds___repr__ c_Bounds___repr__ k_Bounds___repr__
      me_Bounds___repr__ := ⟨a_Bounds___repr__, i_Bounds___repr__, k_Bounds___repr__⟩
      b_Bounds___repr__ := (fun_mk (st := sBRepr) l_Bounds___repr__ c_Bounds___repr__ k_Bounds___repr__).binds (ps := ["self"]) fun _ _ _ _ _ _ us hl => match us, hl with | [_], _ => rfl
      g_Rule := PySem.W.mg_of X G g_Rule
      cl_Rule := ⟨pg_Rule, hd_Rule, po_Rule, sa_Rule⟩
      n_Rule_probes := n_Rule_probes
      n_Rule_gap := n_Rule_gap
      n_Rule_wait := n_Rule_wait
      n_Rule_repeats := n_Rule_repeats
      n_Rule_period := n_Rule_period
      n_Rule_life := n_Rule_life
      is_Rule := ⟨⟨pg_Rule, hd_Rule, po_Rule, sa_Rule⟩, ia_Rule, ib_Rule, ic_Rule, id_Rule, kit_self⟩
      F_Rule___init__ := fun_mk (st := sRInit) l_Rule___init__ c_Rule___init__ k_Rule___init__
      mk_Rule := ⟨mi_Rule, a_Rule___init__, i_Rule___init__, kc_Rule⟩
      F_Rule___eq__ := fun_mk (st := sREq) l_Rule___eq__ c_Rule___eq__ k_Rule___eq__
      me_Rule___eq__ := ⟨a_Rule___eq__, i_Rule___eq__, k_Rule___eq__⟩
      b_Rule___eq__ := (fun_mk (st := sREq) l_Rule___eq__ c_Rule___eq__ k_Rule___eq__).binds (ps := ["self", "other"]) fun _ _ _ _ _ _ us hl => match us, hl with | [_, _], _ => rfl
      F_Rule___repr__ := fun_mk (st := sRRepr) l_Rule___repr__ c_Rule___repr__ k_Rule___repr__
      me_Rule___repr__ := ⟨a_Rule___repr__, i_Rule___repr__, k_Rule___repr__⟩
      b_Rule___repr__ := (fun_mk (st := sRRepr) l_Rule___repr__ c_Rule___repr__ k_Rule___repr__).binds (ps := ["self"]) fun _ _ _ _ _ _ us hl => match us, hl with | [_], _ => rfl
      q_B1 := ⟨fun s us ws _ h1 h2 => match us, h1, ws, h2 with | [_], _, [_, _], _ => .of_eq rfl, pick_rel⟩
      q_B2 := ⟨fun s us ws _ h1 h2 => match us, h1, ws, h2 with | [_], _, [_, _], _ => .of_eq rfl, pick_rel⟩
      q_R1 := ⟨fun s us ws _ h1 h2 => match us, h1, ws, h2 with | [_], _, [_, _, _, _, _, _], _ => .of_eq rfl, pick_rel⟩
      m_len := PySem.W.mg_none_of X G z_len
      m_abs := PySem.W.mg_none_of X G z_abs
      m_range := PySem.W.mg_none_of X G z_range
      m_max := PySem.W.mg_none_of X G z_max
      m_min := PySem.W.mg_none_of X G z_min
      m_isinstance := PySem.W.mg_none_of X G z_isinstance
      m_bool := PySem.W.mg_none_of X G z_bool
      m_int := PySem.W.mg_none_of X G z_int
      m_all := PySem.W.mg_none_of X G z_all
      m_zip := PySem.W.mg_none_of X G z_zip
      m_list := PySem.W.mg_none_of X G z_list
      m_tuple := PySem.W.mg_none_of X G z_tuple
      m_repr := PySem.W.mg_none_of X G z_repr
      x_Bounds_NoneType := x_Bounds_NoneType
      x_Bounds_tuple := x_Bounds_tuple
      x_Bounds_list := x_Bounds_list
      x_Bounds_str := x_Bounds_str
      x_Bounds_int := x_Bounds_int
      x_Bounds_bool := x_Bounds_bool
      x_Bounds_Rule := x_Bounds_Rule
      x_Bounds_ne := x_Bounds_ne
      x_Bounds_no := x_Bounds_no
      x_Rule_NoneType := x_Rule_NoneType
      x_Rule_tuple := x_Rule_tuple
      x_Rule_list := x_Rule_list
      x_Rule_str := x_Rule_str
      x_Rule_int := x_Rule_int
      x_Rule_bool := x_Rule_bool
      x_Rule_Bounds := x_Rule_Bounds
      x_Rule_ne := x_Rule_ne
      x_Rule_no := x_Rule_no }
  exact ⟨a.d_law, fun s v => .of_eq rfl, fun base _ _ => ok_law T⟩
end K05
open PySem PySem.W PyProof.Rows
set_option maxHeartbeats 0 in
theorem PySem.Challenge.cw_wirenames_k05_the_same_bounds_and_rules_holds : PySem.Challenge.rw_wirenames_k05_the_same_bounds_and_rules.Holds := by
  w_on; o_law; k_head; (case hw => w_witness2)
  k_fill
  refine Gd.walkG (l := PySem.Challenge.rw_wirenames_k05_the_same_bounds_and_rules) (n := 63) (k := 8) (x := "_law_script") (sp := K05.spLaw) rfl (by decide) rfl ⟨rfl, by decide, by decide⟩ (fun w h Y => PySem.W.kIn_of Y) ?F (fun _ _ a ns hl hS => ⟨a, ns, rfl, hS, hl, fun _ => rfl⟩)
  case F =>
    intro w mg fa h KX G hmg
    refine' K05.all_mk KX G hmg ?g_Bounds ?pg_Bounds ?hd_Bounds ?po_Bounds ?sa_Bounds ?mi_Bounds ?kc_Bounds ?n_Bounds_lost ?n_Bounds_late ?ia_Bounds ?ib_Bounds ?ic_Bounds ?id_Bounds ?g_Rule ?pg_Rule ?hd_Rule ?po_Rule ?sa_Rule ?mi_Rule ?kc_Rule ?n_Rule_probes ?n_Rule_gap ?n_Rule_wait ?n_Rule_repeats ?n_Rule_period ?n_Rule_life ?ia_Rule ?ib_Rule ?ic_Rule ?id_Rule ?a_is_whole ?l_is_whole ?c_is_whole ?k_is_whole ?a_is_within ?l_is_within ?c_is_within ?k_is_within ?a_is_gap ?l_is_gap ?c_is_gap ?k_is_gap ?a_claiming_ticks ?l_claiming_ticks ?c_claiming_ticks ?k_claiming_ticks ?a_least_period ?l_least_period ?c_least_period ?k_least_period ?a__law_bag ?l__law_bag ?c__law_bag ?k__law_bag ?a__law_take ?l__law_take ?c__law_take ?k__law_take ?a__law_is_whole ?l__law_is_whole ?c__law_is_whole ?k__law_is_whole ?a__law_parts ?l__law_parts ?c__law_parts ?k__law_parts ?a__law_is_rule ?l__law_is_rule ?c__law_is_rule ?k__law_is_rule ?a__law_made_rule ?l__law_made_rule ?c__law_made_rule ?k__law_made_rule ?a__law_same_right ?l__law_same_right ?c__law_same_right ?k__law_same_right ?a_law ?l_law ?c_law ?k_law ?a_Bounds___init__ ?i_Bounds___init__ ?l_Bounds___init__ ?c_Bounds___init__ ?k_Bounds___init__ ?a_Bounds___eq__ ?i_Bounds___eq__ ?l_Bounds___eq__ ?c_Bounds___eq__ ?k_Bounds___eq__ ?a_Bounds___repr__ ?i_Bounds___repr__ ?l_Bounds___repr__ ?c_Bounds___repr__ ?k_Bounds___repr__ ?a_Rule___init__ ?i_Rule___init__ ?l_Rule___init__ ?c_Rule___init__ ?k_Rule___init__ ?a_Rule___eq__ ?i_Rule___eq__ ?l_Rule___eq__ ?c_Rule___eq__ ?k_Rule___eq__ ?a_Rule___repr__ ?i_Rule___repr__ ?l_Rule___repr__ ?c_Rule___repr__ ?k_Rule___repr__ ?z_len ?z_abs ?z_range ?z_max ?z_min ?z_isinstance ?z_bool ?z_int ?z_all ?z_zip ?z_list ?z_tuple ?z_repr ?x_Bounds_NoneType ?x_Bounds_tuple ?x_Bounds_list ?x_Bounds_str ?x_Bounds_int ?x_Bounds_bool ?x_Bounds_Rule ?x_Bounds_ne ?x_Bounds_no ?x_Rule_NoneType ?x_Rule_tuple ?x_Rule_list ?x_Rule_str ?x_Rule_int ?x_Rule_bool ?x_Rule_Bounds ?x_Rule_ne ?x_Rule_no
    (case g_Bounds => k_is)
    (case pg_Bounds => k_is)
    (case hd_Bounds => k_is)
    (case po_Bounds => k_is)
    (case sa_Bounds => k_is)
    (case mi_Bounds => k_is)
    (case kc_Bounds => k_is)
    (case n_Bounds_lost => k_is)
    (case n_Bounds_late => k_is)
    (case ia_Bounds => k_is)
    (case ib_Bounds => k_is)
    (case ic_Bounds => k_is)
    (case id_Bounds => k_is)
    (case g_Rule => k_is)
    (case pg_Rule => k_is)
    (case hd_Rule => k_is)
    (case po_Rule => k_is)
    (case sa_Rule => k_is)
    (case mi_Rule => k_is)
    (case kc_Rule => k_is)
    (case n_Rule_probes => k_is)
    (case n_Rule_gap => k_is)
    (case n_Rule_wait => k_is)
    (case n_Rule_repeats => k_is)
    (case n_Rule_period => k_is)
    (case n_Rule_life => k_is)
    (case ia_Rule => k_is)
    (case ib_Rule => k_is)
    (case ic_Rule => k_is)
    (case id_Rule => k_is)
    (case a_is_whole => k_is)
    (case l_is_whole => k_is)
    (case c_is_whole => k_is)
    (case k_is_whole => k_is)
    (case a_is_within => k_is)
    (case l_is_within => k_is)
    (case c_is_within => k_is)
    (case k_is_within => k_is)
    (case a_is_gap => k_is)
    (case l_is_gap => k_is)
    (case c_is_gap => k_is)
    (case k_is_gap => k_is)
    (case a_claiming_ticks => k_is)
    (case l_claiming_ticks => k_is)
    (case c_claiming_ticks => k_is)
    (case k_claiming_ticks => k_is)
    (case a_least_period => k_is)
    (case l_least_period => k_is)
    (case c_least_period => k_is)
    (case k_least_period => k_is)
    (case a__law_bag => k_is)
    (case l__law_bag => k_is)
    (case c__law_bag => k_is)
    (case k__law_bag => k_is)
    (case a__law_take => k_is)
    (case l__law_take => k_is)
    (case c__law_take => k_is)
    (case k__law_take => k_is)
    (case a__law_is_whole => k_is)
    (case l__law_is_whole => k_is)
    (case c__law_is_whole => k_is)
    (case k__law_is_whole => k_is)
    (case a__law_parts => k_is)
    (case l__law_parts => k_is)
    (case c__law_parts => k_is)
    (case k__law_parts => k_is)
    (case a__law_is_rule => k_is)
    (case l__law_is_rule => k_is)
    (case c__law_is_rule => k_is)
    (case k__law_is_rule => k_is)
    (case a__law_made_rule => k_is)
    (case l__law_made_rule => k_is)
    (case c__law_made_rule => k_is)
    (case k__law_made_rule => k_is)
    (case a__law_same_right => k_is)
    (case l__law_same_right => k_is)
    (case c__law_same_right => k_is)
    (case k__law_same_right => k_is)
    (case a_law => k_is)
    (case l_law => k_is)
    (case c_law => k_is)
    (case k_law => k_is)
    (case a_Bounds___init__ => k_is)
    (case i_Bounds___init__ => k_is)
    (case l_Bounds___init__ => k_is)
    (case c_Bounds___init__ => k_is)
    (case k_Bounds___init__ => k_is)
    (case a_Bounds___eq__ => k_is)
    (case i_Bounds___eq__ => k_is)
    (case l_Bounds___eq__ => k_is)
    (case c_Bounds___eq__ => k_is)
    (case k_Bounds___eq__ => k_is)
    (case a_Bounds___repr__ => k_is)
    (case i_Bounds___repr__ => k_is)
    (case l_Bounds___repr__ => k_is)
    (case c_Bounds___repr__ => k_is)
    (case k_Bounds___repr__ => k_is)
    (case a_Rule___init__ => k_is)
    (case i_Rule___init__ => k_is)
    (case l_Rule___init__ => k_is)
    (case c_Rule___init__ => k_is)
    (case k_Rule___init__ => k_is)
    (case a_Rule___eq__ => k_is)
    (case i_Rule___eq__ => k_is)
    (case l_Rule___eq__ => k_is)
    (case c_Rule___eq__ => k_is)
    (case k_Rule___eq__ => k_is)
    (case a_Rule___repr__ => k_is)
    (case i_Rule___repr__ => k_is)
    (case l_Rule___repr__ => k_is)
    (case c_Rule___repr__ => k_is)
    (case k_Rule___repr__ => k_is)
    (case z_len => k_is)
    (case z_abs => k_is)
    (case z_range => k_is)
    (case z_max => k_is)
    (case z_min => k_is)
    (case z_isinstance => k_is)
    (case z_bool => k_is)
    (case z_int => k_is)
    (case z_all => k_is)
    (case z_zip => k_is)
    (case z_list => k_is)
    (case z_tuple => k_is)
    (case z_repr => k_is)
    (case x_Bounds_NoneType => kit_is)
    (case x_Bounds_tuple => kit_is)
    (case x_Bounds_list => kit_is)
    (case x_Bounds_str => kit_is)
    (case x_Bounds_int => kit_is)
    (case x_Bounds_bool => kit_is)
    (case x_Bounds_Rule => kit_is)
    (case x_Bounds_ne => k_is)
    (case x_Bounds_no => k_is)
    (case x_Rule_NoneType => kit_is)
    (case x_Rule_tuple => kit_is)
    (case x_Rule_list => kit_is)
    (case x_Rule_str => kit_is)
    (case x_Rule_int => kit_is)
    (case x_Rule_bool => kit_is)
    (case x_Rule_Bounds => kit_is)
    (case x_Rule_ne => k_is)
    (case x_Rule_no => k_is)
