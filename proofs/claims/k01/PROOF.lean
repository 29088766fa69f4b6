import PyProof.Rows.All
import Wide.All
import OpenK.AllK
import Wide.FinOn
import HandS.ForMost
import HandS.Style
import HandS.Wide
import HandS.NoneIn
import HandS.Walk
import HandS.ExcInit
import HandS.ExcValue
import HandS.ExcOwn
import HandS.IsInst
import KE.KExcIs
import PyProof.ReprLen
import PySem.Challenge.RW_linkforests_k01_limits_and_errors
set_option Elab.async false
set_option linter.all false
set_option maxRecDepth 100000
set_option maxHeartbeats 2000000
namespace Lf
open PySem PySem.Spec PyProof.Rows L2

/-! ### data that repr shows -/
def keyD : Key → PyData
  | .inl i => .int i
  | .inr x => .str x
mutual
inductive Rp (H : Hp) : V → PyData → Prop
  | non : Rp H .non .none
  | bl (b : Bool) : Rp H (.bl b) (.bool b)
  | int (i : Int) : Rp H (.int i) (.int i)
  | str (x : Str) : Rp H (.str x) (.str x)
  | lst {a : Addr} {xs : List V} {ds : List PyData} : H a = some (.lst xs) → RpAll H xs ds → Rp H (.ref a) (.list ds)
  | tup {a : Addr} {xs : List V} {ds : List PyData} : H a = some (.tup xs) → RpAll H xs ds → Rp H (.ref a) (.tuple ds)
  | dct {a : Addr} {kvs : List (Key × V)} {es : List (PyData × PyData)} : H a = some (.dK kvs) → RpKv H kvs es → Rp H (.ref a) (.dict es)
inductive RpAll (H : Hp) : List V → List PyData → Prop
  | nil : RpAll H [] []
  | cons {v : V} {vs : List V} {d : PyData} {ds : List PyData} : Rp H v d → RpAll H vs ds → RpAll H (v :: vs) (d :: ds)
inductive RpKv (H : Hp) : List (Key × V) → List (PyData × PyData) → Prop
  | nil : RpKv H [] []
  | cons {k : Key} {v : V} {r : List (Key × V)} {d : PyData} {es : List (PyData × PyData)} : Rp H v d → RpKv H r es → RpKv H ((k, v) :: r) ((keyD k, d) :: es)
end

theorem reads_key {h : Heap} {k : Key} {v : Value} (e : keyIs k v = true) : Reads h v (keyD k) [] := by
  rcases keyIs_shape e with ⟨i, t, rfl, rfl⟩ | ⟨x, t, rfl, rfl⟩
  · exact Reads.int i t
  · exact Reads.str x t

section
variable {X : Cx} {pins : List (Addr × Obj)} {σ : L2.St} {H : Hp} {s : Shared}
theorem not_sys (I : Inv X pins σ H s) (hs : ∃ o, X.base.get? sysModules = some o) {a : Addr} {o : HO} (e : H a = some o) : sysModules ≠ a := by
  obtain ⟨o', h1⟩ := hs
  intro z
  have q := (I.bs _ _ h1).2
  rw [z, e] at q
  cases q
mutual
theorem Rp.reads (I : Inv X pins σ H s) (hs : ∃ o, X.base.get? sysModules = some o) : ∀ {v : V} {d : PyData}, Rp H v d → ∀ u, RelV v u → ∃ as, Reads s.heap u d as ∧ sysModules ∉ as
  | _, _, .non, u, r => by
    cases r
    exact ⟨[], Reads.none, List.not_mem_nil⟩
  | _, _, .bl b, u, r => by
    cases r
    exact ⟨[], Reads.bool b, List.not_mem_nil⟩
  | _, _, .int i, u, r => by
    obtain ⟨t, rfl⟩ := r
    exact ⟨[], Reads.int i t, List.not_mem_nil⟩
  | _, _, .str x, u, r => by
    obtain ⟨t, rfl⟩ := r
    exact ⟨[], Reads.str x t, List.not_mem_nil⟩
  | _, _, .lst (a := a) (xs := xs) e q, u, r => by
    cases r
    obtain ⟨_, its, n, rv, ho⟩ := (show ObjOk X.prog X.w H s.heap a (.lst xs) from I.hok a _ e)
    obtain ⟨as, h1, h2⟩ := RpAll.reads I hs q its rv
    refine ⟨a :: as, Reads.list ho rfl rfl h1, fun z => ?_⟩
    rcases List.mem_cons.mp z with z | z
    · exact not_sys I hs e z
    · exact h2 z
  | _, _, .tup (a := a) (xs := xs) e q, u, r => by
    cases r
    obtain ⟨_, its, rv, o, ho, hc, n, hd⟩ := (show ObjOk X.prog X.w H s.heap a (.tup xs) from I.hok a _ e)
    obtain ⟨as, h1, h2⟩ := RpAll.reads I hs q its rv
    exact ⟨as, Reads.tuple ho hc hd h1, h2⟩
  | _, _, .dct (a := a) (kvs := kvs) e q, u, r => by
    cases r
    obtain ⟨_, _, vs, kv, o, es, ep, ho, hx, hd, hko, hp, _⟩ := (show ObjOk X.prog X.w H s.heap a (.dK kvs) from I.hok a _ e)
    obtain ⟨as, h1, h2, h3⟩ := RpKv.reads I hs q vs kv es.toList hp
    refine ⟨a :: [] ++ as, Reads.dict ho hx.1 hd h1 h2, fun z => ?_⟩
    rcases List.mem_cons.mp z with z | z
    · exact not_sys I hs e z
    · exact h3 z
theorem RpAll.reads (I : Inv X pins σ H s) (hs : ∃ o, X.base.get? sysModules = some o) : ∀ {vs : List V} {ds : List PyData}, RpAll H vs ds → ∀ us, Vals vs us → ∃ as, ReadsAll s.heap us ds as ∧ sysModules ∉ as
  | _, _, .nil, us, r => by
    cases r
    exact ⟨[], ReadsAll.nil, List.not_mem_nil⟩
  | _, _, .cons q1 q2, us, r => by
    cases r with
    | cons r1 r2 =>
      obtain ⟨as, h1, h2⟩ := Rp.reads I hs q1 _ r1
      obtain ⟨bs, h3, h4⟩ := RpAll.reads I hs q2 _ r2
      exact ⟨as ++ bs, ReadsAll.cons h1 h3, fun z => (List.mem_append.mp z).elim h2 h4⟩
theorem RpKv.reads (I : Inv X pins σ H s) (hs : ∃ o, X.base.get? sysModules = some o) : ∀ {kvs : List (Key × V)} {es : List (PyData × PyData)}, RpKv H kvs es → ∀ vs, KV kvs vs → ∀ ens, Pairs (mixKind X.prog X.w) ens vs →
    ∃ as, ReadsAll s.heap (ens.map (·.key)) (es.map (·.1)) [] ∧ ReadsAll s.heap (ens.map (·.val)) (es.map (·.2)) as ∧ sysModules ∉ as
  | _, _, .nil, vs, kv, ens, p => by
    cases kv
    cases p
    exact ⟨[], ReadsAll.nil, ReadsAll.nil, List.not_mem_nil⟩
  | _, _, .cons q1 q2, vs, kv, ens, p => by
    cases kv with
    | cons k1 k2 =>
      cases p with
      | cons p1 p2 p3 =>
        obtain ⟨e1, e2⟩ := k1
        rw [← p2] at e2
        obtain ⟨as, h1, h2⟩ := Rp.reads I hs q1 _ e2
        obtain ⟨bs, h3, h4, h5⟩ := RpKv.reads I hs q2 _ k2 _ p3
        refine ⟨as ++ bs, ReadsAll.cons (as := []) ?_ h3, ReadsAll.cons h1 h4, fun z => (List.mem_append.mp z).elim h2 h5⟩
        rw [← e1] at p1
        exact reads_key p1
end
end

/-! what stood stands: the same data reads the same -/
mutual
theorem Rp.mono {H H' : Hp} (k : ∀ b o, H b = some o → H' b = some o) : ∀ {v : V} {d : PyData}, Rp H v d → Rp H' v d
  | _, _, .non => .non
  | _, _, .bl b => .bl b
  | _, _, .int i => .int i
  | _, _, .str x => .str x
  | _, _, .lst e q => .lst (k _ _ e) (RpAll.mono k q)
  | _, _, .tup e q => .tup (k _ _ e) (RpAll.mono k q)
  | _, _, .dct e q => .dct (k _ _ e) (RpKv.mono k q)
theorem RpAll.mono {H H' : Hp} (k : ∀ b o, H b = some o → H' b = some o) : ∀ {vs : List V} {ds : List PyData}, RpAll H vs ds → RpAll H' vs ds
  | _, _, .nil => .nil
  | _, _, .cons q1 q2 => .cons (Rp.mono k q1) (RpAll.mono k q2)
theorem RpKv.mono {H H' : Hp} (k : ∀ b o, H b = some o → H' b = some o) : ∀ {kvs : List (Key × V)} {es : List (PyData × PyData)}, RpKv H kvs es → RpKv H' kvs es
  | _, _, .nil => .nil
  | _, _, .cons q1 q2 => .cons (Rp.mono k q1) (RpKv.mono k q2)
end

section
variable {X : Cx}
/-- repr of a list or a tuple -/
theorem call_repr (hs : ∃ o, X.base.get? sysModules = some o) (hg : X.A.guards = some []) (hu : X.A.units + 200 < cLine) :
    CallR X (.builtin "repr") (fun xs H Q => ∃ (a : Addr) (d : PyData), xs = [.ref a] ∧ Rp H (.ref a) d ∧ d.showable = true ∧ d.depth ≤ 100 ∧ d.shown.length ≤ sizeLine ∧ Q (.str d.shown) H) := by
  intro pins s σ H xs us Q I r h
  obtain ⟨a, d, rfl, hr, h1, h2, h3, q⟩ := h
  obtain ⟨u, rfl, r1⟩ := vals1 r
  cases (show u = Value.ref a from r1)
  obtain ⟨as, rd, na⟩ := Rp.reads I hs hr _ rfl
  exact repr_of_reads' rd h1 (fun _ => na) hg (by omega) (fun _ _ e => e) (fun h' t tk k => ⟨.str d.shown, H, I.kept k, ⟨t, rfl⟩, q⟩) h3
end
end Lf
namespace Lf
open PySem PySem.Spec PyProof.Rows L2

/-! ### the law's own call: nothing is being shown around it (repr's guard is empty), the modules' table stands below all -/
/-- a promise of the def at f for a caller whose repr guard is empty -/
def RunG (P : Program) (w : World) (K : PySem.W.Frag) (mg : Str → Option Value) (base : Heap) (k : Nat) (f : Addr) (fd : FuncData) (ps : List Str) (sp : Sp) : Prop :=
  ∀ (A : Around) (outer : List Env) (s : Shared) (H : Hp) (args : Args) (us : List Value) (vs : List V) (Q : VK) (E : XK), A.guards = some [] →
    Room k A → Env0 P w K mg base A outer s H → BindsTo s fd args (ps.zip us) → Vals vs us → sp vs H Q E → codeAny (model P w) A (.call (.ref f) args) (CR CX0 outer P w H s Q E) s

theorem runG_of {P : Program} {w : World} {K : PySem.W.Frag} {mg : Str → Option Value} {base : Heap} {name qual : Str} {st : Stmt} {f : Addr} {fd : FuncData} {N ps : List Str} {k : Nat} {sp : Sp}
    (Fn : Fun K name qual st f fd) (Sc : FnScope N ps (defScope st)) (lens : ∀ vs H Q E, sp vs H Q E → vs.length = ps.length)
    (bd : ∀ (cdv : Value) (A : Around) (outer : List Env) (s : Shared) (H : Hp) (vs : List V) (Q : VK) (E : XK), A.guards = some [] → Room k (A.deeper (envOfC qual (defScope st) s.heap.objs.size f cdv)) → sp vs H Q E →
      ∃ t, PSs (cxOf CX0 P w K mg base N qual (defScope st) f cdv A outer s H E).nox (defBody st) t ∧ t { nx := fun _ H' => Q .non H', rt := Q } (start N vs) H) :
    RunG P w K mg base (k + 1) f fd ps sp := by
  obtain ⟨oc, od, kV, doc, pm, an, cdv, ct, osl, rfl, look, code⟩ := Fn.ex
  intro A outer s H args us vs Q E gu room env bind vals want
  have within : K.In s.heap := env.mod.kin.keeps fun b o z => (env.bs b o z).1
  have free : s.heap.NoLimit := env.mod.nolimit.keeps fun b o z => (env.bs b o z).1
  have kinds : ∀ y ∈ ps.zip us, (defScope st).names.lookup y.1 = some .local ∨ ((defScope st).names.lookup y.1 = some .cell ∧ ((cellsFrom (s.heap.objs.size + 1) (defScope st).names []).lookup y.1).isSome = true) := by
    rintro ⟨n, v⟩ mem
    exact (Sc.par n (List.of_mem_zip mem).1).imp id fun z => ⟨z, PySem.W.cellsFrom_some _ _ _ (.inl z)⟩
  apply codeAny_call_function room.depth (within _ _ look) rfl Sc.co Sc.gen rfl (PySem.W.codeRec_of within code)
  apply bind
  apply wpAny_newFunctionEnv_cells Sc.kind kinds
  rintro env' rfl s1 called
  refine ⟨free.keeps called.toInCall.keep, codeAny_func ?_⟩
  obtain ⟨t, walk, read⟩ := bd cdv A outer s H vs Q E gu (room.deeper _) want
  have inv : Inv (cxOf CX0 P w K mg base N qual (defScope st) f cdv A outer s H E) [] (start N vs) H s1 := inv_start Sc room.hd env (lens _ _ _ _ want) vals called
  refine wpAny_mono (walk.nox.run [] s1 (start N vs) H _ inv read) ?_ (fun _ _ z => z)
  rintro (_ | u | _ | _) s' got
  · obtain ⟨σ', H', J, q⟩ := got
    exact ⟨.non, H', J.os, J.bare, J.base, J.hok, rfl, q⟩
  all_goals first
    | (obtain ⟨v, σ', H', J, rv, q⟩ := got; exact ⟨v, H', J.os, J.bare, J.base, J.hok, rv, q⟩)
    | (obtain ⟨_, _, _, q⟩ := got; exact q.elim)

/-- from the law's promise to the goal that k_head leaves; F may use the loose names' values and the modules' table -/
theorem walk_g {l : PySem.W.OpenLaw} {n k : Nat} {q : Program} {loose : List Str} {XP : (Str → Option Value) → Heap → Prop} {YP : World → Heap → Prop} {d : DefRec} {K : Params → PySem.W.Frag} {sp : PySem.W.Frag → Sp} {x : Str}
    (most : l.most = some n) (fits : n ≤ sizeLine) (plain : d.params.defaults = []) (room : Room k callerA) (noimp : importsNone q = true)
    (hY : ∀ (w : World) (h : Heap), YP w h → (K w.params).In h)
    (F : ∀ (w : World) (mg : Str → Option Value) (fa : Addr) (h : Heap), (K w.params).In h → h.Ns mainGlobals mg → XP mg h → mg d.name = some (.ref fa) →
      ∃ fd : FuncData, (∀ (s : Shared) (u : Value), BindsTo s fd ⟨[u], []⟩ [(x, u)]) ∧
        ∀ base : Heap, (K w.params).In base → base.Ns mainGlobals mg → (∃ o, base.get? sysModules = some o) → RunG l.prog w (K w.params) mg base k fa fd [x] (sp (K w.params)))
    (hsp : ∀ (K : PySem.W.Frag) (H : Hp) (a : Addr) (ns : List Int), ns.length ≤ n → Only H → SqL K H a (ns.map V.int) → sp K [.ref a] H (fun v _ => v = .bl true) fun _ _ _ => False) :
    PySem.W.WalkO q loose XP YP l.row.toRowW d [] (fun f vs => PySem.call f vs) := by
  refine Att.attach_call most plain ?_
  intro w s₀ s₁ mg mb fa o pm cd doc a vs ns Gr Y _ _ _ named script areInts short gens
  have KX := hY w _ Y
  obtain ⟨fd, binds, FB⟩ := F w mg fa _ KX Gr.T.g Gr.X named
  obtain ⟨mm, hmm, _⟩ := (Gr.T.seer noimp).mods
  have pairs := vals_ints areInts
  have size := areInts.length
  have long : ns.length ≤ sizeLine := Nat.le_trans short fits
  -- whatever of the script is tracked
  have go : ∀ H : Hp, Only H → SqL (K w.params) H a (ns.map V.int) → HOk l.prog w H s₁.heap → (∀ b, H b ≠ none → b = a) → (H a ≠ none → (K w.params).lookup a = none) →
      codeAny (model l.prog w) callerA (.call (.ref fa) ⟨[.ref a], []⟩) (fun r s' => r = .ok (.ret (.bool true)) ∧ OldK s₁.heap s'.heap ∧ s'.os = s₁.os ∧ AllBare s'.gens) s₁ := by
    intro H only listed held lone off
    have low : ∀ {b : Addr} {m : Str → Option Value}, s₁.heap.Ns b m → (hidT s₁.heap H).Ns b m := by
      rintro b m ⟨ob, es, ep, z, dz, rz⟩
      refine ⟨ob, es, ep, hidT_get z ?_, dz, rz⟩
      cases hb : H b with
      | none => rfl
      | some u =>
        obtain rfl := lone b (by rw [hb]; exact fun z => nomatch z)
        rw [script] at z
        cases z
        cases dz
    have inb : (K w.params).In (hidT s₁.heap H) := by
      intro b ob z
      refine hidT_get (KX b ob z) ?_
      cases hb : H b with
      | none => rfl
      | some u =>
        obtain rfl := lone b (by rw [hb]; exact fun z => nomatch z)
        rw [off (by rw [hb]; exact fun z => nomatch z)] at z
        cases z
    have modu : Mod (K w.params) mg (hidT s₁.heap H) := by
      obtain ⟨mc, c1, c2⟩ := Gr.T.nolimit
      exact ⟨inb, low Gr.T.g, ⟨mb, low Gr.T.b, Gr.T.builtins⟩, ⟨mc, low c1, c2⟩⟩
    have e0 : Env0 l.prog w (K w.params) mg (hidT s₁.heap H) callerA [] s₁ H :=
      ⟨rfl, modu, fun b ob z => of_hidT z, Nat.le_of_eq (hidT_size _ _), trivial, (fun b z => nomatch z), held, AllBare.of_eq gens⟩
    have sys : ∃ ob, (hidT s₁.heap H).get? sysModules = some ob := by
      obtain ⟨ob, _, _, z, _⟩ := low hmm
      exact ⟨ob, z⟩
    have done := FB _ inb (low Gr.T.g) sys callerA [] s₁ H ⟨[.ref a], []⟩ [.ref a] [.ref a] _ _ rfl room e0 (binds s₁ (.ref a)) (.cons rfl .nil) (hsp _ H a ns short only listed)
    refine codeAny_mono done ?_
    intro r s' got
    cases r with
    | error er => exact False.elim got
    | ok fl =>
      cases fl with
      | next => exact False.elim got
      | brk => exact False.elim got
      | cont => exact False.elim got
      | ret u =>
        obtain ⟨v, H', hos, bare, un, held', rv, hv⟩ := got
        cases (show v = .bl true from hv)
        cases (show u = Value.bool true from rv)
        refine ⟨rfl, OldK.of_keep ?_, hos, bare⟩
        intro b ob z
        rcases only b with hb | ⟨o2, xs, hb⟩
        · exact un.keep b ob z hb (fun y => nomatch y) (fun y => nomatch y)
        · have z1 := (held b _ hb).1
          have z2 := (held' b _ (un.frzs b o2 _ hb)).1
          rw [z] at z1
          cases z1
          exact z2
  cases lk : (K w.params).lookup a with
  | none =>
    refine go (fun b => if b = a then some (.frz { cls := .type "list", data := .seq vs.toArray } (.lst (ns.map V.int))) else none) ?_ (.inl (.inr ⟨_, if_pos rfl⟩)) ?_ ?_ (fun _ => lk)
    · intro b
      by_cases hb : b = a
      · exact .inr ⟨_, _, if_pos hb⟩
      · exact .inl (if_neg hb)
    · intro b u z
      by_cases hb : b = a
      · subst hb
        have z := (if_pos rfl).symm.trans z
        cases z
        exact ⟨script, by rw [List.length_map]; exact long, vs, _, pairs, script⟩
      · have z := (if_neg hb).symm.trans z
        cases z
    · intro b z
      by_cases hb : b = a
      · exact hb
      · exact absurd (if_neg hb) z
  | some ob =>
    have z := KX a ob lk
    rw [script] at z
    cases z
    exact go (fun _ => none) (fun _ => .inl rfl) (.inr ⟨_, vs.toArray, _, lk, rfl, rfl, rfl, by rw [List.size_toArray, size]; exact long, by simpa using pairs⟩) (fun b u z => nomatch z) (fun b z => absurd rfl z) (fun z => absurd rfl z)
end Lf
namespace Lf
open PySem PySem.Spec PyProof.Rows L2

/-! ### own errors as values -/
/-- C(e), C's own __init__ keeping its one argument under the name f -/
def spInit (K : PySem.W.Frag) (C : Addr) (f : Str) : Sp := fun vs H Q _ => ∃ (a : Addr) (v : V), vs = [.ref a, v] ∧ H a = some (exo a C none) ∧
  ∀ dx, H dx = none → dx ≠ a → Q .non (upd (upd H dx (exd dx [(f, v)])) a (exo a C (some dx)))
/-- what the class C must say, so that isinstance asks its instances rightly, and their fields are read -/
structure ExK (K : PySem.W.Frag) (C : Addr) : Prop where
  cl : (PySem.W.clsIn K C).isSome = true
  ga : PySem.W.findIn K (.ref C) "__getattribute__" = some (some (.builtin "BaseException.__getattribute__"))
  gg : PySem.W.findIn K (.ref C) "__getattr__" = some none
  sb : PySem.W.subIn K (.ref C) (.type "BaseException") = some true
  ca : PySem.W.findIn K (.ref C) "__class__" = some (some (.builtin "object.__class__"))
  cg : PySem.W.specialIn K (.builtin "object.__class__") "__get__" = some (some (.builtin "getset_descriptor.__get__"))
  ct : PySem.W.takesIn K (.builtin "object.__class__") = some true
  cm : PySem.W.mroIn K C (.type "object") = some true
  hd : PySem.W.hasDictIn K C = true
/-- an error of the class at C stands at a -/
def IsEx (H : Hp) (a C : Addr) : Prop := H a = some (exo a C none) ∨ ∃ (d : Addr) (fs : List (Str × V)), H a = some (exo a C (some d)) ∧ H d = some (exd d fs)
theorem IsEx.mono {H H' : Hp} {a C : Addr} (k : ∀ b o, H b = some o → H' b = some o) : IsEx H a C → IsEx H' a C
  | .inl h => .inl (k _ _ h)
  | .inr ⟨d, fs, h1, h2⟩ => .inr ⟨d, fs, k _ _ h1, k _ _ h2⟩
def rIsx (K : PySem.W.Frag) : List V → Hp → VK → Prop := fun xs H Q => ∃ (a C : Addr) (c : V) (u : Value) (b : Bool), xs = [.ref a, c] ∧ IsEx H a C ∧ ClsV c u ∧ ExK K C ∧ PySem.W.kitOne K (.ref C) u = some b ∧ Q (.bl b) H
section
variable {X : Cx} {x : Str} {p pos : Pos} {e : Expr} {te : TE}
/-- C(), an own error class without own __init__ -/
theorem pe_exc0 {C : Addr} {bmB : List Value} {B newId initId : String} (FB : ExcBaseFacts B newId initId bmB) (ex : PySem.W.excIn X.K C bmB newId = true) (gC : X.mg x = some (.ref C)) (kC : PySem.W.keepIn X.K (.ref C) = true) (hg : Gl X x)
    (hdb : (x == ("__debug__" : Str)) = false := by decide) :
    PE X (.Call (.Name x p) [] [] pos) (fun σ H Q => ∀ a, H a = none → Q (.ref a) (upd H a (exo a C none))) := by
  refine ⟨fun pins s σ H Q I h => ?_⟩
  refine wpAny_Call_Name_kw (ld_glob I hg gC ?_ hdb)
  apply PySem.W.callWith_K0 I.kIn kC
  obtain ⟨bm, N, nm, qn, bs, hdct, sn, sub, ab, col, dd, k0, k1, k2, k3, k5, mN, hC, hN, hni, tail⟩ := exc_obj I.kIn ex
  show wpAny _ _ (call (.ref C) []) _ _ _
  refine wpAny_call_exc_subT FB tail hC hN hni ?_ (by show 0 ≤ sizeLine; omega)
  intro h' a made
  have new : H a = none := I.hok.gone made.new
  obtain ⟨t, there, _, _⟩ := made.there
  exact ⟨.ref a, _, I.laidN made.keeps made.new new (exo_ok there), rfl, h a new⟩
/-- C(e): the new error and its own dict -/
theorem pe_excF {C fI : Addr} {k : Nat} {fd : FuncData} {f : Str} (T : OexC X.K C) (iC : PySem.W.findIn X.K (.ref C) "__init__" = some (some (.ref fI))) (tI : PySem.W.typeIn X.K (.ref fI) = some (.type "function"))
    (F1 : FnOk X.prog X.w X.K X.mg X.base CX0 k fI fd ["self", f] (spInit X.K C f)) (room : Room (k + 1) X.A) (hb : Binds X.K fd ["self", f] []) (hg : Gl X x) (hm : X.mg x = some (.ref C)) (he : PE X e te)
    (hdb : (x == ("__debug__" : Str)) = false := by decide) (hst : starEach [e] X.env = (false, eval e X.env) :: starEach [] X.env := by rfl) :
    PE X (.Call (.Name x p) [e] [] pos) (fun σ H Q => te σ H fun v H1 => ∀ a d, H1 a = none → H1 d = none → a ≠ d → Q (.ref a) (upd (upd H1 d (exd d [(f, v)])) a (exo a C (some d)))) := by
  refine ⟨fun pins s σ H Q I h => ?_⟩
  obtain ⟨nm, q, N, bs, bm, sn, sub, ab, col, dd, k0, k1, k2, k3, k5, hC, hbm⟩ := T.cls
  refine wpAny_Call_Name_kw (ld_glob I hg hm ?_ hdb)
  refine PySem.W.callWith_K (h₀ := X.base) I.ok.mod.kin T.kC ?_ hst (by rfl)
  rw [hst]
  show wpAny _ _ (spliced ((false, eval e X.env) :: backTo pos (starEach [] X.env))) _ _ s
  refine Calls.spliced_cons (thn (he.run pins s σ H _ I h) ?_)
  rintro u s1 ⟨v, H1, I1, r1, q1⟩
  refine Calls.spliced_nil ⟨I1.kIn, ?_⟩
  show wpAny _ _ (call (.ref C) [u]) _ _ _
  obtain ⟨hp, g, dr, tk, os⟩ := s1
  let a := hp.objs.size + 1
  let hp2 := (hp.push (PySem.W.kdv_tup [u])).push (PySem.HandSPX.excO C hp.objs.size)
  have up : hp.objs.size ≤ a := Nat.le_succ _
  have na : H1 a = none := I1.hok.fresh up
  have kept : ∀ b o, hp.get? b = some o → hp2.get? b = some o := fun b o z => Heap.get?_push_of_some _ (Heap.get?_push_of_some _ z)
  have there : hp2.get? a = some (PySem.HandSPX.excO C hp.objs.size) := by
    show ((hp.push (PySem.W.kdv_tup [u])).push (PySem.HandSPX.excO C hp.objs.size)).get? (hp.objs.size + 1) = _
    heap_get
  have I2 : Inv X pins σ (upd H1 a (exo a C none)) ⟨hp2, g, dr, tk, os⟩ := I1.laid (t' := tk) kept up (exo_ok there)
  have want : spInit X.K C f [.ref a, v] (upd H1 a (exo a C none)) (fun y H2 => y = .non ∧ ∃ d, H1 d = none ∧ a ≠ d ∧ H2 = upd (upd H1 d (exd d [(f, v)])) a (exo a C (some d))) (fun _ _ _ => False) := by
    refine ⟨a, v, rfl, upd_same, fun d hd hda => ⟨rfl, d, ?_, fun z => hda z.symm, ?_⟩⟩
    · rw [upd_ne hda] at hd
      exact hd
    · funext b
      by_cases h1 : b = a
      · rw [h1, upd_same, upd_same]
      · rw [upd_ne h1, upd_ne h1]
        by_cases h2 : b = d
        · rw [h2, upd_same, upd_same]
        · rw [upd_ne h2, upd_ne h2, upd_ne h1]
  have pairs : Vals [V.ref a, v] [Value.ref a, u] := .cons rfl (.cons r1 .nil)
  refine wpAny_call (PySem.HandSPX.call_own F.excBase_ValueError (fun Y => PySem.HandSPX.refsVE_contains Y bm hbm) (I1.kIn _ _ hC) (PySem.W.looks_findIn I1.kIn iC) (fun self => PySem.W.bind_fn I1.kIn self tI) (by show 1 ≤ sizeLine; rw [sizeLine_eq]; omega) ?_)
  have run := F1.run _ X.stack _ _ ⟨[Value.ref a, u], []⟩ [Value.ref a, u] _ _ (fun _ _ _ => False) (room.make C [u] []) (I2.env0.make C [u] []) (hb _ [Value.ref a, u] I2.kIn rfl) pairs want
  refine codeAny_mono run ?_
  intro r s' got
  cases r with
  | error er => exact False.elim got
  | ok fl =>
    cases fl with
    | next => exact False.elim got
    | brk => exact False.elim got
    | cont => exact False.elim got
    | ret y =>
      obtain ⟨yv, H2, hos, bare, un, held, ry, rfl, d, hd, had, rfl⟩ := got
      have U : Un (frs X.stack) [] H1 (upd (upd H1 d (exd d [(f, v)])) a (exo a C (some d))) hp s'.heap := (Un.laid kept up na).trans un
      refine ⟨ry, ⟨.ref a, _, I1.call' (ch := []) hos U held bare (fun b z => nomatch z), rfl, q1 a d na hd had⟩⟩
/-- isinstance(e, c), e an own error -/
theorem call_isx : CallR X (.builtin "isinstance") (rIsx X.K) := by
  intro pins s σ H xs us Q I r h
  obtain ⟨a, C, c, u, b, rfl, hx, hc, T, ek, q⟩ := h
  obtain ⟨u1, u2, rfl, r1, r2⟩ := vals2 r
  cases (show u1 = Value.ref a from r1)
  have e2 := hc.eq r2
  subst e2
  rcases hx with hx | ⟨d, fs, hx, hd⟩
  · obtain ⟨t1, ho⟩ := exo_at I.hok hx
    exact PySem.W.kia_one (PySem.W.kitx_exc (ox := { cls := .ref C, dict := none, data := .fields #[.ref t1, .none, .none, .none, .bool false, .none] }) (od := none) T.cl T.ga T.gg T.sb T.ca T.cg T.ct T.cm) I.kIn ⟨ho, rfl, rfl, trivial⟩ ek (fun z => nomatch z)
      fun tk => ⟨.bl b, H, I.tok tk, rfl, q⟩
  · obtain ⟨t1, ho⟩ := exo_at I.hok hx
    obtain ⟨mA, ⟨od, es, ep, hod, _⟩, _⟩ := exd_at I.hok hd
    exact PySem.W.kia_one (PySem.W.kitx_exc (ox := { cls := .ref C, dict := some d, data := .fields #[.ref t1, .none, .none, .none, .bool false, .none] }) (od := some od) T.cl T.ga T.gg T.sb T.ca T.cg T.ct T.cm) I.kIn ⟨ho, rfl, rfl, hod⟩ ek (fun z => nomatch z)
      fun tk => ⟨.bl b, H, I.tok tk, rfl, q⟩
/-- e.f, e an own error -/
theorem pe_exf {C : Addr} {f : Str} (T : ExK X.K C) (hno : PySem.W.findIn X.K (.ref C) f = some none) (he : PE X e te) (hb : attributeBase e f X.env (eval e X.env) = eval e X.env := by rfl) :
    PE X (.Attribute e f pos) (fun σ H Q => te σ H fun y H1 => ∃ (a d : Addr) (v : V), y = .ref a ∧ H1 a = some (exo a C (some d)) ∧ H1 d = some (exd d [(f, v)]) ∧ Q v H1) := by
  refine ⟨fun pins s σ H Q I h => ?_⟩
  refine attr_of hb (thn (he.run pins s σ H _ I h) ?_)
  rintro u s1 ⟨y, H1, I1, ry, a, d, v, rfl, ha, hd, q⟩
  cases (show u = Value.ref a from ry)
  obtain ⟨t1, ho⟩ := exo_at I1.hok ha
  obtain ⟨mA, hns, rel⟩ := exd_at I1.hok hd
  obtain ⟨od, hod, hl⟩ := lookIn_ns hns
  have lk : List.lookup f [(f, v)] = some v := by simp [List.lookup]
  obtain ⟨w, hw, rw'⟩ := RelO.some_of (v := v) (o := mA f) (by rw [← lk]; exact rel f)
  have J : PySem.W.InstAt s1.heap a { cls := .ref C, dict := some d, data := .fields #[.ref t1, .none, .none, .none, .bool false, .none] } C (some od) := ⟨ho, rfl, rfl, hod⟩
  exact HandSPX.exc_get I1.kIn J T.ga T.gg T.sb (PySem.W.findObj_own T.hd hno rfl (by rw [hl, hw])) (handed_of rw') ⟨v, H1, I1.tok _, rw', q⟩
end
/-- def __init__(self, f): self.f = f -/
theorem ok_init {P : Program} {w : World} {K : PySem.W.Frag} {mg : Str → Option Value} {base : Heap} {C fI : Addr} {fd : FuncData} {f qual : Str} {st : Stmt} (Fn : Fun K "__init__" qual st fI fd) (Sc : FnScope ["self", f] ["self", f] (defScope st)) (T : OexC K C) (hno : PySem.W.findIn K (.ref C) f = some none)
    (body : ∃ q1 q2 q3 q4, defBody st = [.Assign [.Attribute (.Name "self" q1) f q2] (.Name f q3) q4]) (v0 : Vis (defScope st) "self") (v1 : Vis (defScope st) f) (d1 : (f == Str.ofString "__debug__") = false) (d2 : (f == Str.ofString "__classdict__") = false) :
    FnOk P w K mg base CX0 1 fI fd ["self", f] (spInit K C f) := by
  refine Fn.ok Sc (fun vs H Q E h => ?_) (fun cdv A outer s H vs Q E hr h => ?_)
  · obtain ⟨a, v, rfl, _⟩ := h
    rfl
  · obtain ⟨a, v, rfl, ha, q⟩ := h
    obtain ⟨q1, q2, q3, q4, eb⟩ := body
    rw [eb]
    refine ⟨_, pss_one (ps_ost (pe_var (i := 0) rfl v0) (pe_var (i := 1) rfl v1 (hd := d1) (hcd := d2))), ?_⟩
    exact ⟨v, rfl, .ref a, rfl, a, C, rfl, T, hno, .inl ⟨ha, fun dx hd hne => q dx hd hne⟩⟩
end Lf
namespace Lf
open PySem PySem.Spec PyProof.Rows L2

def topS (i : Nat) : Stmt := PySem.Challenge.pw_linkforests_k01_limits_and_errors.main.body.getD i (.Pass ⟨0, 0, 0, 0⟩)
abbrev sWell : Stmt := topS 29
abbrev sPull : Stmt := topS 30
abbrev sItem : Stmt := topS 31

/-! ### the drawing well: a list of great numbers at l and a state below 2 ^ 64, both in the list at w -/
def Well (w l : Addr) (H : Hp) : Prop := w ≠ l ∧ ∃ (xs : List Int) (st : Int), H w = some (.lst [.ref l, .int st]) ∧ H l = some (.lst (xs.map V.int)) ∧ xs.length ≤ 63 ∧ 0 ≤ st ∧ st < 18446744073709551616
def Keep (w l : Addr) (H H' : Hp) : Prop := ∀ b o, b ≠ w → b ≠ l → H b = some o → H' b = some o
theorem Keep.refl {w l : Addr} {H : Hp} : Keep w l H H := fun _ _ _ _ h => h
theorem Keep.trans {w l : Addr} {H H1 H2 : Hp} (a : Keep w l H H1) (b : Keep w l H1 H2) : Keep w l H H2 := fun c o h1 h2 h => b c o h1 h2 (a c o h1 h2 h)
theorem Keep.of {w l : Addr} {H H1 : Hp} (a : Same H H1) : Keep w l H H1 := fun c o _ _ h => a c o h
theorem same_new {H : Hp} {p : Addr} {o : HO} (h : H p = none) : Same H (upd H p o) := fun b u e => by
  rw [upd_ne (ne_of_none e h)]
  exact e
theorem Well.same {w l : Addr} {H H' : Hp} (a : Well w l H) (s : Same H H') : Well w l H' := by
  obtain ⟨n, xs, st, h1, h2, h3⟩ := a
  exact ⟨n, xs, st, s _ _ h1, s _ _ h2, h3⟩

theorem dpInts {K : PySem.W.Frag} {H : Hp} : ∀ xs : List Int, DpAll K H (xs.map V.int) (xs.map PyData.int)
  | [] => .nil
  | x :: xs => .cons (.int x) (dpInts xs)
theorem layInts : ∀ xs : List Int, PyData.canLayAll0 (xs.map PyData.int) = true
  | [] => rfl
  | x :: xs => by
    show (PyData.canLay0 (.int x) && PyData.canLayAll0 (xs.map PyData.int)) = true
    rw [layInts xs]
    rfl
theorem deepInts : ∀ xs : List Int, PyData.depthAll (xs.map PyData.int) = 0
  | [] => rfl
  | x :: xs => by
    show max (PyData.depth (.int x)) (PyData.depthAll (xs.map PyData.int)) = 0
    rw [deepInts xs]
    rfl
theorem shInts (xs : List Int) : SeqAt.shaped (.list (xs.map PyData.int)) = true := by
  show (PyData.canLayAll0 (xs.map PyData.int) && decide (PyData.depthAll (xs.map PyData.int) + 1 ≤ 64)) = true
  rw [layInts, deepInts]
  rfl
theorem get_last {α : Type} (ys : List α) (y : α) : (ys ++ [y])[(ys ++ [y]).length - 1]? = some y := by
  rw [List.length_append]
  show (ys ++ [y])[ys.length]? = some y
  simp

theorem nil_or_snoc {α : Type} (xs : List α) : xs = [] ∨ ∃ ys y, xs = ys ++ [y] := by
  rcases List.eq_nil_or_concat xs with h | ⟨ys, y, h⟩
  · exact .inl h
  · exact .inr ⟨ys, y, by rw [h, List.concat_eq_append]⟩

def spWell (K : PySem.W.Frag) : Sp := fun vs H Q _ => ∃ (a : Addr) (ns : List Int), vs = [.ref a] ∧ SqL K H a (ns.map V.int) ∧ ns.length ≤ 63 ∧
  ∀ H' w l, Same H H' → Well w l H' → H w = none → H l = none → Q (.ref w) H'
def spPull : Sp := fun vs H Q _ => ∃ (w l : Addr) (many : Int), vs = [.ref w, .int many] ∧ Well w l H ∧ 0 < many ∧ many < 1073741824 ∧
  ∀ r H', 0 ≤ r → r < many → Well w l H' → Keep w l H H' → Q (.int r) H'
def spItem : Sp := fun vs H Q _ => ∃ (w l p : Addr) (xs : List V), vs = [.ref w, .ref p] ∧ Well w l H ∧ H p = some (.lst xs) ∧ p ≠ w ∧ p ≠ l ∧ xs ≠ [] ∧ xs.length < 1073741824 ∧
  ∀ v H', v ∈ xs → Well w l H' → Keep w l H H' → Q v H'

section
variable {P : Program} {w : World} {K : PySem.W.Frag} {mg : Str → Option Value} {base : Heap}
theorem scWell : FnScope ["_law_script", "_law_state", "_law_cell"] ["_law_script"] (defScope sWell) := ⟨rfl, rfl, rfl, by decide +kernel, rfl, by decide +kernel, by decide +kernel⟩
theorem ok_well {f : Addr} {fd : FuncData} (F : Fun K "_law_well" "_law_well" sWell f fd) (ml : mg "len" = none) (ma : mg "abs" = none) (mi : mg "int" = none) : FnOk P w K mg base CX0 1 f fd ["_law_script"] (spWell K) := by
  refine F.ok scWell (fun vs H Q E h => ?_) (fun cdv A outer s H vs Q E hr h => ?_)
  · obtain ⟨a, ns, rfl, _⟩ := h
    rfl
  · obtain ⟨a, ns, rfl, hS, hlen, q⟩ := h
    refine ⟨_, pss_cons (ps_set (i := 1) scWell.nd rfl (.inl rfl) (pe_op op_add pe_int (pe_op op_mul pe_int (pe_callB call_len_seq (by rfl) ml PySem.boot_len (pa_cons (pv 0) pa_nil)))))
      (pss_cons (ps_for PassesOwn.never rfl (pi_list (pv 0)) (pg_name (i := 2) scWell.nd rfl (.inl rfl)) (pss_one (ps_set (i := 1) scWell.nd rfl (.inl rfl)
        (pe_op op_mod (pe_op op_add (pe_op op_add (pe_op op_add (pe_op op_mul (pv 1) pe_int) (pe_op op_mul pe_int (pe_callB call_abs (by rfl) ma (by decide +kernel) (pa_cons (pv 2) pa_nil))))
          (pe_callTy call_int1 (by rfl) mi (by decide +kernel) (pa_cons (pe_cmpR op_lt (pv 2) pe_int (nomark _)) pa_nil))) pe_int) (pe_op op_pow pe_int pe_int)))))
      (pss_one (ps_ret (pe_lst (pa_cons (pe_revL (pe_lc (own := [("_law_cell", 2)]) (g := gName 2) (by rfl) scWell.nd (pi_list (pv 0)) (blkOk_by (own := [("_law_cell", 2)]) (N := ["_law_script", "_law_state", "_law_cell"]) (sc := defScope sWell) (by decide +kernel))
        (fun _ _ _ _ _ => pg_name (i := 2) scWell.nd rfl (Or.inl rfl)) (fun _ _ _ _ _ => pts_one (pt_cmpR op_ge (pe_callB call_abs (by rfl) ma (by decide +kernel) (pa_cons (pv 2) pa_nil)) (pe_op op_pow pe_int pe_int) (nomark _)))
        (fun _ _ _ _ _ => pe_callB call_abs (by rfl) ma (by decide +kernel) (pa_cons (pv 2) pa_nil)))) (pa_cons (pv 1) pa_nil)))))), ?_⟩
    refine ⟨.ref a, rfl, a, _, rfl, .inl hS, 977, _, rfl, rfl, .inl ⟨by decide, by decide⟩, _, _, rfl, rfl, ?_⟩
    refine ⟨.ref a, rfl, a, rfl, ⟨_, hS⟩, for_list (K := K) (a := a) (xs := ns.map V.int) (fun i σ H' => H' = H ∧ ∃ (st : Int) (c : Option V), σ = [some (.ref a), some (.int st), c] ∧ 0 ≤ st ∧ st < 18446744073709551616)
      ⟨rfl, _, none, rfl, by omega, by rw [List.length_map]; omega⟩ (fun i σ H' _ p => p.1 ▸ hS) ?_ ?_⟩
    · rintro i y σ H' hi ⟨rfl, st, c, rfl, h0, h1⟩
      obtain ⟨z, hz, rfl⟩ : ∃ z, ns[i]? = some z ∧ y = V.int z := by
        rw [List.getElem?_map] at hi
        cases e : ns[i]? with
        | none =>
          rw [e] at hi
          cases hi
        | some z =>
          rw [e] at hi
          exact ⟨z, rfl, (Option.some.inj hi).symm⟩
      refine ⟨.int st, rfl, st, _, rfl, rfl, .inl ⟨by omega, by omega⟩, .int z, rfl, z, rfl, 2, _, rfl, rfl, .inl ⟨by decide, by decide⟩, _, _, rfl, rfl, .int z, rfl, z, 0, rfl, rfl, .inr ⟨_, rfl, _, _, rfl, rfl, _, _, rfl, rfl, 2, 64, rfl, rfl, ⟨by decide, by decide, by decide⟩, _, _, rfl, rfl, (by show (0 : Int) < 2 ^ 64; decide), ?_⟩⟩
      refine ⟨rfl, _, _, rfl, Int.emod_nonneg _ (by decide), Int.emod_lt_of_pos _ (by decide)⟩
    · rintro σ H' ⟨rfl, st, c, rfl, h0, h1⟩
      refine ⟨.ref a, rfl, a, rfl, ⟨_, hS⟩, fun D nD => lc_list (K := K) (a := a) (xs := ns.map V.int) (fun i H2 => Same H' H2 ∧ ∃ ms : List Int, H2 D = some (.lst (ms.map V.int)) ∧ ms.length ≤ i) ⟨same_new nD, [], upd_same, Nat.le_refl _⟩ (fun i H2 _ p => p.1.seq hS) ?_ ?_⟩
      · rintro i y H2 hi ⟨sm, ms, hD, hm⟩
        have hin : i < (ns.map V.int).length := by
          rcases Nat.lt_or_ge i (ns.map V.int).length with z | z
          · exact z
          · rw [List.getElem?_eq_none z] at hi
            cases hi
        rw [List.length_map] at hin
        obtain ⟨z, hz, rfl⟩ : ∃ z, ns[i]? = some z ∧ y = V.int z := by
          rw [List.getElem?_map] at hi
          cases e : ns[i]? with
          | none =>
            rw [e] at hi
            cases hi
          | some z =>
            rw [e] at hi
            exact ⟨z, rfl, (Option.some.inj hi).symm⟩
        refine ⟨rfl, .int z, rfl, z, rfl, 10, 18, rfl, rfl, ⟨by decide, by decide, by decide⟩, _, _, rfl, rfl, _, rfl, ite2 (fun _ => ?_) (fun _ => ?_)⟩
        · refine ⟨.int z, rfl, z, rfl, _, hD, ?_, fun b o e => ?_, ms ++ [if z < 0 then -z else z], ?_, ?_⟩
          · rw [List.length_map]
            exact small1000 (by omega)
          · rw [upd_ne (ne_of_none e nD)]
            exact sm _ _ e
          · rw [upd_same, List.map_append]
            rfl
          · rw [List.length_append]
            show ms.length + 1 ≤ i + 1
            omega
        · exact ⟨sm, ms, hD, by omega⟩
      · rintro H2 ⟨sm, ms, hD, hm⟩
        rw [List.length_map] at hm
        refine ⟨D, _, rfl, SqL.of hD, fun l nl => ⟨.int st, rfl, by show 2 ≤ sizeLine; decide, fun w nw => ?_⟩⟩
        have nlw : w ≠ l := fun z => by
          rw [z, upd_same] at nw
          cases nw
        have nw2 : H2 w = none := by
          rw [upd_ne nlw] at nw
          exact nw
        refine q _ w l (sm.trans ((same_new nl).trans (same_new nw))) ⟨nlw, ms.reverse, st, upd_same, ?_, ?_, h0, h1⟩ (sm.free nw2) (sm.free nl)
        · rw [upd_ne (Ne.symm nlw), upd_same, List.map_reverse]
        · rw [List.length_reverse]
          omega
theorem scPull : FnScope ["_law_well_here", "_law_many", "_law_rest"] ["_law_well_here", "_law_many"] (defScope sPull) := ⟨rfl, rfl, rfl, by decide +kernel, rfl, by decide +kernel, by decide +kernel⟩
theorem ok_pull {f : Addr} {fd : FuncData} (F : Fun K "_law_pull" "_law_pull" sPull f fd) : FnOk P w K mg base CX0 1 f fd ["_law_well_here", "_law_many"] spPull := by
  refine F.ok scPull (fun vs H Q E h => ?_) (fun cdv A outer s H vs Q E hr h => ?_)
  · obtain ⟨a, l, m, rfl, _⟩ := h
    rfl
  · obtain ⟨w, l, many, rfl, hW, m0, m1, q⟩ := h
    refine ⟨_, pss_cons (ps_while PassesOwn.never (pt_cmpR (op_neD hr.units) (pe_ix ix_list (pv 0) pe_int (fun _ _ => rfl)) (pe_lst pa_nil) (nomark _))
        (pss_cons (ps_set (i := 2) scPull.nd rfl (.inl rfl) (pe_bm0 PySem.F.plainAttrs_list PySem.F.slot_list_pop PySem.F.type_list_pop mt_pop (pe_ix ix_list (pv 0) pe_int (fun _ _ => rfl))))
        (pss_one (ps_if (pt_cmpR op_gt (pv 2) pe_int (nomark _))
          (pss_cons (ps_expr (pe_bm PySem.F.plainAttrs_list PySem.F.slot_list_append PySem.F.type_list_append mt_append (pe_ix ix_list (pv 0) pe_int (fun _ _ => rfl)) (pa_cons (pe_op op_fdiv (pv 2) (pv 1)) pa_nil)))
          (pss_one (ps_ret (pe_op op_mod (pv 2) (pv 1))))) pss_nil))))
      (pss_cons (ps_asg (pe_op op_mod (pe_op op_add (pe_op op_mul (pe_ix ix_list (pv 0) pe_int (fun _ _ => rfl)) pe_int) pe_int) (pe_op op_pow pe_int pe_int)) (pg_sub (pv 0) pe_int set_list))
      (pss_one (ps_ret (pe_op op_mod (pe_op op_fdivW (pe_ix ix_list (pv 0) pe_int (fun _ _ => rfl)) (pe_op op_pow pe_int pe_int)) (pv 1))))), ?_⟩
    obtain ⟨nwl, xs0, st0, hw0, hl0, hx0, s00, s01⟩ := hW
    refine ⟨fun m σ H1 => ∃ (xs : List Int) (st : Int) (c : Option V), m = xs.length ∧ σ = [some (.ref w), some (.int many), c] ∧ H1 w = some (.lst [.ref l, .int st]) ∧ H1 l = some (.lst (xs.map V.int)) ∧ xs.length ≤ 63 ∧ 0 ≤ st ∧ st < 18446744073709551616 ∧ Keep w l H H1,
      ⟨_, xs0, st0, none, rfl, rfl, hw0, hl0, hx0, s00, s01, Keep.refl⟩, ?_⟩
    rintro m σ H1 ⟨xs, st, c, rfl, rfl, hw, hl, hx, s0, s1, kp⟩
    refine ⟨.ref w, rfl, w, _, 0, .ref l, rfl, rfl, SqL.of hw, atI_nat (j := 0) rfl, by show 0 ≤ sizeLine; omega, fun p np => ?_⟩
    have sm := same_new (o := .lst []) np
    have hw2 := sm _ _ hw
    have hl2 := sm _ _ hl
    refine ⟨.list (xs.map .int), .list [], .lst (SqL.of hl2) (dpInts xs), .lst (SqL.of upd_same) .nil, shInts xs, rfl, _, rfl, ?_⟩
    rcases nil_or_snoc xs with rfl | ⟨ys, y, rfl⟩
    · -- the state's own draw
      refine iteF ?_
      refine ⟨.ref w, rfl, w, _, 1, .int st, rfl, rfl, SqL.of hw2, atI_nat (j := 1) rfl, st, _, rfl, rfl, .inl ⟨by omega, by omega⟩, _, _, rfl, rfl, 2, 64, rfl, rfl, ⟨by decide, by decide, by decide⟩, _, _, rfl, rfl, (by show (0 : Int) < 2 ^ 64; decide), ?_⟩
      refine ⟨.ref w, rfl, w, _, 1, 1, rfl, rfl, hw2, rfl, ?_⟩
      have b0 : 0 ≤ (st * 6364136223846793005 + 1442695040888963407) % 18446744073709551616 := Int.emod_nonneg _ (by decide)
      have b1 : (st * 6364136223846793005 + 1442695040888963407) % 18446744073709551616 < 18446744073709551616 := Int.emod_lt_of_pos _ (by decide)
      refine ⟨.ref w, rfl, w, _, 1, _, rfl, rfl, SqL.of upd_same, atI_nat (j := 1) rfl, 2, 33, rfl, rfl, ⟨by decide, by decide, by decide⟩, _, _, rfl, rfl, ?_, .int many, rfl, _, many, rfl, rfl, m0, ?_⟩
      · exact wide_div (by show (0 : Int) < 2 ^ 33; decide) (b := 34) (by decide) (by decide) (by decide)
      · refine q _ _ (Int.emod_nonneg _ (by omega)) (Int.emod_lt_of_pos _ m0) ⟨nwl, [], _, upd_same, ?_, hx, b0, b1⟩ (kp.trans ((Keep.of sm).trans fun b o h1 h2 h => ?_))
        · rw [upd_ne (Ne.symm nwl)]
          exact hl2
        · rw [upd_ne h1]
          exact h
    · have hv : PyData.eqv (.list ((ys ++ [y]).map .int)) (.list []) = false := by
        cases ys <;> rfl
      rw [hv]
      refine iteT ⟨fun σ' H' => ∃ (st : Int) (c : Option V), σ' = [some (.ref w), some (.int many), c] ∧ H' w = some (.lst [.ref l, .int st]) ∧ H' l = some (.lst (ys.map V.int)) ∧ 0 ≤ st ∧ st < 18446744073709551616 ∧ Keep w l H H', ?_, ?_⟩
      · rintro σ' H' ⟨st', c', rfl, z1, z2, z3, z4, z5⟩
        rw [List.length_append] at hx ⊢
        exact ⟨ys.length, by simp, ys, st', c', rfl, rfl, z1, z2, by omega, z3, z4, z5⟩
      · have lst2 : (upd (upd H1 p (.lst [])) l (.lst ((ys ++ [y]).map V.int).dropLast)) l = some (.lst (ys.map V.int)) := by
          rw [upd_same, List.map_append]
          simp
        refine ⟨.ref w, rfl, w, _, 0, .ref l, rfl, rfl, SqL.of hw2, atI_nat (j := 0) rfl, .inl ⟨rfl, _, SqL.of hl2⟩, l, _, .int y, rfl, rfl, hl2, ?_, .int y, rfl, y, 0, rfl, rfl, _, rfl, ite2 (fun hy => ?_) (fun hy => ?_)⟩
        · rw [List.map_append]
          exact get_last (ys.map V.int) (.int y)
        · have hw3 : (upd (upd H1 p (.lst [])) l (.lst ((ys ++ [y]).map V.int).dropLast)) w = some (.lst [.ref l, .int st]) := by
            rw [upd_ne nwl]
            exact hw2
          refine ⟨.ref w, rfl, w, _, 0, .ref l, rfl, rfl, SqL.of hw3, atI_nat (j := 0) rfl, .inl ⟨rfl, _, SqL.of lst2⟩, .int y, rfl, .int many, rfl, y, many, rfl, rfl, ⟨m0, m1⟩, l, _, _, rfl, rfl, lst2, ?_, ?_⟩
          · rw [List.length_map]
            rw [List.length_append] at hx
            exact small1000 (by omega)
          · refine ⟨.int y, rfl, .int many, rfl, y, many, rfl, rfl, m0, ?_⟩
            refine q _ _ (Int.emod_nonneg _ (by omega)) (Int.emod_lt_of_pos _ m0) ⟨nwl, ys ++ [y / many], st, ?_, ?_, ?_, s0, s1⟩ (kp.trans ((Keep.of sm).trans fun b o h1 h2 h => ?_))
            · rw [upd_ne nwl]
              exact hw3
            · rw [upd_same, List.map_append]
              rfl
            · rw [List.length_append] at hx ⊢
              exact hx
            · rw [upd_ne h2, upd_ne h2]
              exact h
        · refine ⟨st, some (.int y), rfl, ?_, lst2, s0, s1, kp.trans ((Keep.of sm).trans fun b o h1 h2 h => ?_)⟩
          · rw [upd_ne nwl]
            exact hw2
          · rw [upd_ne h2]
            exact h
theorem scItem : FnScope ["_law_well_here", "_law_items"] ["_law_well_here", "_law_items"] (defScope sItem) := ⟨rfl, rfl, rfl, by decide +kernel, rfl, by decide +kernel, by decide +kernel⟩
theorem ok_item {f fP : Addr} {fd fdP : FuncData} (F : Fun K "_law_item" "_law_item" sItem f fd) (FP : Fun K "_law_pull" "_law_pull" sPull fP fdP) (bP : Binds K fdP ["_law_well_here", "_law_many"] []) (gP : mg "_law_pull" = some (.ref fP)) (ml : mg "len" = none) :
    FnOk P w K mg base CX0 2 f fd ["_law_well_here", "_law_items"] spItem := by
  have GP : FnOk P w K mg base CX0 1 fP fdP ["_law_well_here", "_law_many"] spPull := ok_pull FP
  refine F.ok scItem (fun vs H Q E h => ?_) (fun cdv A outer s H vs Q E hr h => ?_)
  · obtain ⟨w, l, p, xs, rfl, _⟩ := h
    rfl
  · obtain ⟨w, l, p, xs, rfl, hW, hp, npw, npl, hne, hlen, q⟩ := h
    refine ⟨_, pss_one (ps_ret (pe_ix ix_list (pv 1) (pe_call GP hr (by rfl) gP FP.kp bP .nil pass0 (pa_cons (pv 0) (pa_cons (pe_callB call_len_seq (by rfl) ml PySem.boot_len (pa_cons (pv 1) pa_nil)) pa_nil))) (fun _ _ => rfl))), ?_⟩
    have pos : 0 < xs.length := List.length_pos_iff.mpr hne
    refine ⟨.ref p, rfl, .ref w, rfl, .ref p, rfl, p, xs, rfl, .inl (SqL.of hp), w, l, _, rfl, hW, by omega, by omega, fun r H' r0 r1 hW' kp => ?_⟩
    have hi : r.toNat < xs.length := by omega
    have er : ((r.toNat : Nat) : Int) = r := Int.toNat_of_nonneg r0
    refine ⟨p, xs, r, xs[r.toNat], rfl, rfl, SqL.of (kp _ _ npw npl hp), ?_, q _ _ (List.getElem_mem hi) hW' kp⟩
    have z := atI_nat (List.getElem?_eq_getElem hi)
    rw [er] at z
    exact z
end
end Lf
namespace Lf
open PySem PySem.Spec PyProof.Rows L2
abbrev sOdd : Stmt := topS 32
/-- the heap without the well -/
def hid (w l : Addr) (H : Hp) : Hp := fun b => if b = w ∨ b = l then none else H b
theorem hid_ne {w l b : Addr} {H : Hp} (h1 : b ≠ w) (h2 : b ≠ l) : hid w l H b = H b := if_neg (fun z => z.elim h1 h2)
theorem hid_keep {w l : Addr} {H H' : Hp} (k : Keep w l H H') : Same (hid w l H) (hid w l H') := fun b o e => by
  unfold hid at e ⊢
  by_cases z : b = w ∨ b = l
  · rw [if_pos z] at e
    cases e
  · rw [if_neg z] at e ⊢
    exact k b o (fun y => z (.inl y)) (fun y => z (.inr y)) e
theorem hid_same {w l : Addr} {H : Hp} : Same (hid w l H) H := fun b o e => by
  unfold hid at e
  by_cases z : b = w ∨ b = l
  · rw [if_pos z] at e
    cases e
  · rw [if_neg z] at e
    exact e
/-- what is drawn: small data that repr shows -/
structure Odd (d : PyData) : Prop where
  shows : d.showable = true
  deep : d.depth ≤ 4
  short : d.shown.length ≤ 100
/-- of H' what H does not track -/
def fresh (H H' : Hp) : Hp := fun b => if (H b).isSome = true then none else H' b
theorem fresh_of {H H' : Hp} {b : Addr} (h : H b = none) : fresh H H' b = H' b := if_neg (by rw [h]; exact Bool.false_ne_true)
theorem of_fresh {H H' : Hp} {b : Addr} {o : HO} (e : fresh H H' b = some o) : H b = none ∧ H' b = some o := by
  unfold fresh at e
  cases h : H b with
  | none =>
    rw [h] at e
    exact ⟨rfl, e⟩
  | some u =>
    rw [h] at e
    cases e
def spOdd : Sp := fun vs H Q _ => ∃ (w l : Addr), vs = [.ref w] ∧ Well w l H ∧ ∀ v d H', Rp (fresh H H') v d → Odd d → Well w l H' → Keep w l H H' → Q v H'
section
variable {P : Program} {w : World} {K : PySem.W.Frag} {mg : Str → Option Value} {base : Heap}
theorem scOdd : FnScope ["_law_well_here", "_law_items"] ["_law_well_here"] (defScope sOdd) := ⟨rfl, rfl, rfl, by decide +kernel, rfl, by decide +kernel, by decide +kernel⟩
theorem ok_odd {f fI : Addr} {fd fdI : FuncData} (F : Fun K "_law_odd" "_law_odd" sOdd f fd) (FI : Fun K "_law_item" "_law_item" sItem fI fdI) (GI : FnOk P w K mg base CX0 2 fI fdI ["_law_well_here", "_law_items"] spItem) (bI : Binds K fdI ["_law_well_here", "_law_items"] []) (gI : mg "_law_item" = some (.ref fI)) :
    FnOk P w K mg base CX0 3 f fd ["_law_well_here"] spOdd := by
  refine F.ok scOdd (fun vs H Q E h => ?_) (fun cdv A outer s H vs Q E hr h => ?_)
  · obtain ⟨w, l, rfl, _⟩ := h
    rfl
  · obtain ⟨w, l, rfl, hW, q⟩ := h
    refine ⟨_, pss_cons (ps_set (i := 1) scOdd.nd rfl (.inl rfl) (pe_lst (pa_cons pe_non (pa_cons pe_bl (pa_cons pe_bl (pa_cons (pe_un un_neg pe_int) (pa_cons pe_int (pa_cons pe_int (pa_cons pe_int (pa_cons (pe_op op_pow pe_int pe_int)
        (pa_cons pe_str (pa_cons pe_str (pa_cons pe_str (pa_cons pe_str (pa_cons (pe_tup pa_nil) (pa_cons (pe_lst pa_nil) (pa_cons pe_dnewK (pa_cons (pe_tup (pa_cons pe_int pa_nil)) (pa_cons (pe_lst (pa_cons pe_int pa_nil)) (pa_cons (pe_tup (pa_cons pe_bl pa_nil)) pa_nil))))))))))))))))))))
      (pss_one (ps_ret (pe_call GI hr (by rfl) gI FI.kp bI .nil pass0 (pa_cons (pv 0) (pa_cons (pe_op op_cat (pv 1) (pe_lst (pa_cons (pe_tup (pa_cons pe_int (pa_cons pe_int pa_nil))) (pa_cons (pe_tup (pa_cons (pe_tup (pa_cons pe_int (pa_cons pe_int pa_nil))) pa_nil))
        (pa_cons (pe_disp (pps_cons pe_str pe_int pps_nil) (by rfl) (by rfl) (fun z => by cases z) (by decide)) (pa_cons (pe_tup (pa_cons pe_non (pa_cons pe_int pa_nil))) (pa_cons (pe_tup (pa_cons pe_str (pa_cons pe_int pa_nil))) (pa_cons pe_str (pa_cons (pe_tup (pa_cons pe_int (pa_cons pe_int pa_nil))) pa_nil))))))))) pa_nil))))), ?_⟩
    refine ⟨1, rfl, 10, 39, rfl, rfl, ⟨by decide, by decide, by decide⟩, (by show _ ≤ sizeLine; decide), fun p1 n1 => ?_⟩
    generalize hH1 : upd H p1 (.tup []) = H1
    have S1 : Same H H1 := hH1 ▸ same_new n1
    have e1 : H1 p1 = some (.tup []) := hH1 ▸ upd_same
    clear hH1
    refine ⟨(by show _ ≤ sizeLine; decide), fun p2 n2 => ?_⟩
    generalize hH2 : upd H1 p2 (.lst []) = H2
    have S2 : Same H1 H2 := hH2 ▸ same_new n2
    have e2 : H2 p2 = some (.lst []) := hH2 ▸ upd_same
    clear hH2
    refine fun p3 n3 => ?_
    generalize hH3 : upd H2 p3 (.dK []) = H3
    have S3 : Same H2 H3 := hH3 ▸ same_new n3
    have e3 : H3 p3 = some (.dK []) := hH3 ▸ upd_same
    clear hH3
    refine ⟨(by show _ ≤ sizeLine; decide), fun p4 n4 => ?_⟩
    generalize hH4 : upd H3 p4 (.tup [.int 0]) = H4
    have S4 : Same H3 H4 := hH4 ▸ same_new n4
    have e4 : H4 p4 = some (.tup [.int 0]) := hH4 ▸ upd_same
    clear hH4
    refine ⟨(by show _ ≤ sizeLine; decide), fun p5 n5 => ?_⟩
    generalize hH5 : upd H4 p5 (.lst [.int 0]) = H5
    have S5 : Same H4 H5 := hH5 ▸ same_new n5
    have e5 : H5 p5 = some (.lst [.int 0]) := hH5 ▸ upd_same
    clear hH5
    refine ⟨(by show _ ≤ sizeLine; decide), fun p6 n6 => ?_⟩
    generalize hH6 : upd H5 p6 (.tup [.bl true]) = H6
    have S6 : Same H5 H6 := hH6 ▸ same_new n6
    have e6 : H6 p6 = some (.tup [.bl true]) := hH6 ▸ upd_same
    clear hH6
    refine ⟨(by show 18 ≤ sizeLine; decide), fun p7 n7 => ?_⟩
    dsimp only
    generalize hH7 : upd H6 p7 (.lst [V.non, V.bl true, V.bl false, V.int (-1), V.int 0, V.int 1, V.int 24, V.int (10 ^ Int.toNat 39), V.str (Str.ofString ""), V.str (Str.ofString "0"), V.str (Str.ofString "none"), V.str (Str.ofString "history"), V.ref p1, V.ref p2, V.ref p3, V.ref p4, V.ref p5, V.ref p6]) = H7
    have S7 : Same H6 H7 := hH7 ▸ same_new n7
    have e7 : H7 p7 = some (.lst [V.non, V.bl true, V.bl false, V.int (-1), V.int 0, V.int 1, V.int 24, V.int (10 ^ Int.toNat 39), V.str (Str.ofString ""), V.str (Str.ofString "0"), V.str (Str.ofString "none"), V.str (Str.ofString "history"), V.ref p1, V.ref p2, V.ref p3, V.ref p4, V.ref p5, V.ref p6]) := hH7 ▸ upd_same
    clear hH7
    refine ⟨.ref w, rfl, .ref p7, rfl, (by show _ ≤ sizeLine; decide), fun p8 n8 => ?_⟩
    generalize hH8 : upd H7 p8 (.tup [.int 0, .int 0]) = H8
    have S8 : Same H7 H8 := hH8 ▸ same_new n8
    have e8 : H8 p8 = some (.tup [.int 0, .int 0]) := hH8 ▸ upd_same
    clear hH8
    refine ⟨(by show _ ≤ sizeLine; decide), fun p9 n9 => ?_⟩
    generalize hH9 : upd H8 p9 (.tup [.int 0, .int 1]) = H9
    have S9 : Same H8 H9 := hH9 ▸ same_new n9
    have e9 : H9 p9 = some (.tup [.int 0, .int 1]) := hH9 ▸ upd_same
    clear hH9
    refine ⟨(by show 1 ≤ sizeLine; decide), fun p10 n10 => ?_⟩
    generalize hH10 : upd H9 p10 (.tup [.ref p9]) = H10
    have S10 : Same H9 H10 := hH10 ▸ same_new n10
    have e10 : H10 p10 = some (.tup [.ref p9]) := hH10 ▸ upd_same
    clear hH10
    refine fun p11 n11 => ⟨upd_same, [(Sum.inr (Str.ofString "a"), .int 0)], rfl, by decide, ?_⟩
    rw [upd_upd]
    rw [show mergeK [] [((Sum.inr (Str.ofString "a") : Key), V.int 0)] = [((Sum.inr (Str.ofString "a") : Key), V.int 0)] from rfl]
    generalize hH11 : upd H10 p11 (.dK [(Sum.inr (Str.ofString "a"), .int 0)]) = H11
    have S11 : Same H10 H11 := hH11 ▸ same_new n11
    have e11 : H11 p11 = some (.dK [(Sum.inr (Str.ofString "a"), .int 0)]) := hH11 ▸ upd_same
    clear hH11
    refine ⟨(by show _ ≤ sizeLine; decide), fun p12 n12 => ?_⟩
    generalize hH12 : upd H11 p12 (.tup [.non, .int 1]) = H12
    have S12 : Same H11 H12 := hH12 ▸ same_new n12
    have e12 : H12 p12 = some (.tup [.non, .int 1]) := hH12 ▸ upd_same
    clear hH12
    refine ⟨(by show _ ≤ sizeLine; decide), fun p13 n13 => ?_⟩
    generalize hH13 : upd H12 p13 (.tup [.str (Str.ofString "heavy"), .int 1]) = H13
    have S13 : Same H12 H13 := hH13 ▸ same_new n13
    have e13 : H13 p13 = some (.tup [.str (Str.ofString "heavy"), .int 1]) := hH13 ▸ upd_same
    clear hH13
    refine ⟨(by show _ ≤ sizeLine; decide), fun p14 n14 => ?_⟩
    generalize hH14 : upd H13 p14 (.tup [.int 1, .int 0]) = H14
    have S14 : Same H13 H14 := hH14 ▸ same_new n14
    have e14 : H14 p14 = some (.tup [.int 1, .int 0]) := hH14 ▸ upd_same
    clear hH14
    refine ⟨(by show 7 ≤ sizeLine; decide), fun p15 n15 => ?_⟩
    generalize hH15 : upd H14 p15 (.lst [V.ref p8, V.ref p10, V.ref p11, V.ref p12, V.ref p13, V.str (Str.ofString "heavy 1"), V.ref p14]) = H15
    have S15 : Same H14 H15 := hH15 ▸ same_new n15
    have e15 : H15 p15 = some (.lst [V.ref p8, V.ref p10, V.ref p11, V.ref p12, V.ref p13, V.str (Str.ofString "heavy 1"), V.ref p14]) := hH15 ▸ upd_same
    clear hH15
    have c7 : Same H7 H15 := S8.trans (S9.trans (S10.trans (S11.trans (S12.trans (S13.trans (S14.trans S15))))))
    refine ⟨p7, p15, _, _, rfl, rfl, c7 _ _ e7, e15, (by show 25 ≤ sizeLine; decide), fun p16 n16 => ?_⟩
    have c6 : Same H6 H15 := S7.trans c7
    have c5 : Same H5 H15 := S6.trans c6
    have c4 : Same H4 H15 := S5.trans c5
    have c3 : Same H3 H15 := S4.trans c4
    have c2 : Same H2 H15 := S3.trans c3
    have c1 : Same H1 H15 := S2.trans c2
    have c0 : Same H H15 := S1.trans c1
    have c14 : Same H14 H15 := S15
    have c13 : Same H13 H15 := S14.trans c14
    have c12 : Same H12 H15 := S13.trans c13
    have c11 : Same H11 H15 := S12.trans c12
    have c10 : Same H10 H15 := S11.trans c11
    have c9 : Same H9 H15 := S10.trans c10
    have c8 : Same H8 H15 := S9.trans c9
    obtain ⟨nwl, xs0, st0, hw0, hl0, hx0⟩ := hW
    have new : ∀ {Hn : Hp} {p : Addr}, Same H Hn → Hn p = none → p ≠ w ∧ p ≠ l := fun sm n => ⟨(ne_of_none (sm _ _ hw0) n).symm, (ne_of_none (sm _ _ hl0) n).symm⟩
    have u1 := n1
    have u2 := S1.free n2
    have u3 := (S1.trans S2).free n3
    have u4 := (S1.trans (S2.trans S3)).free n4
    have u5 := (S1.trans (S2.trans (S3.trans S4))).free n5
    have u6 := (S1.trans (S2.trans (S3.trans (S4.trans S5)))).free n6
    have d7 : Same H H7 := S1.trans (S2.trans (S3.trans (S4.trans (S5.trans (S6.trans S7)))))
    have d8 := d7.trans S8
    have d9 := d8.trans S9
    have d10 := d9.trans S10
    have d11 := d10.trans S11
    have d12 := d11.trans S12
    have d13 := d12.trans S13
    have u8 := d7.free n8
    have u9 := d8.free n9
    have u10 := d9.free n10
    have u11 := d10.free n11
    have u12 := d11.free n12
    have u13 := d12.free n13
    have u14 := d13.free n14
    have u16 := new c0 n16
    refine ⟨w, l, p16, _, rfl, ⟨nwl, xs0, st0, same_new n16 _ _ (c0 _ _ hw0), same_new n16 _ _ (c0 _ _ hl0), hx0⟩, upd_same, u16.1, u16.2, (fun z => nomatch z), (by show 25 < 1073741824; decide), fun v H' hv hW' kp => ?_⟩
    have fnd : ∀ {p : Addr} {o : HO}, H15 p = some o → H p = none → fresh H H' p = some o := fun {p o} e u => by
      rw [fresh_of u]
      exact kp _ _ (ne_of_none hw0 u).symm (ne_of_none hl0 u).symm (same_new n16 _ _ e)
    have kp' : Keep w l H H' := (Keep.of (c0.trans (same_new n16))).trans kp
    have fin : ∀ (v : V) (d : PyData), Rp (fresh H H') v d → (d.showable && (decide (d.depth ≤ 4) && decide (d.shown.length ≤ 100))) = true → Q v H' := fun v d rp ok => by
      obtain ⟨k1, k2⟩ := Bool.and_eq_true_iff.mp ok
      obtain ⟨k3, k4⟩ := Bool.and_eq_true_iff.mp k2
      exact q v d H' rp ⟨k1, of_decide_eq_true k3, of_decide_eq_true k4⟩ hW' kp'
    have g1 := fnd (c1 _ _ e1) u1
    have g2 := fnd (c2 _ _ e2) u2
    have g3 := fnd (c3 _ _ e3) u3
    have g4 := fnd (c4 _ _ e4) u4
    have g5 := fnd (c5 _ _ e5) u5
    have g6 := fnd (c6 _ _ e6) u6
    have g8 := fnd (c8 _ _ e8) u8
    have g9 := fnd (c9 _ _ e9) u9
    have g10 := fnd (c10 _ _ e10) u10
    have g11 := fnd (c11 _ _ e11) u11
    have g12 := fnd (c12 _ _ e12) u12
    have g13 := fnd (c13 _ _ e13) u13
    have g14 := fnd (c14 _ _ e14) u14
    simp only [List.cons_append, List.nil_append, List.mem_cons, List.not_mem_nil, or_false] at hv
    rcases hv with rfl | rfl | rfl | rfl | rfl | rfl | rfl | rfl | rfl | rfl | rfl | rfl | rfl | rfl | rfl | rfl | rfl | rfl | rfl | rfl | rfl | rfl | rfl | rfl | rfl
    · exact fin _ _ .non (by decide +kernel)
    · exact fin _ _ (.bl _) (by decide +kernel)
    · exact fin _ _ (.bl _) (by decide +kernel)
    · exact fin _ _ (.int _) (by decide +kernel)
    · exact fin _ _ (.int _) (by decide +kernel)
    · exact fin _ _ (.int _) (by decide +kernel)
    · exact fin _ _ (.int _) (by decide +kernel)
    · exact fin _ _ (.int _) (by decide +kernel)
    · exact fin _ _ (.str _) (by decide +kernel)
    · exact fin _ _ (.str _) (by decide +kernel)
    · exact fin _ _ (.str _) (by decide +kernel)
    · exact fin _ _ (.str _) (by decide +kernel)
    · exact fin _ _ (.tup g1 .nil) (by decide +kernel)
    · exact fin _ _ (.lst g2 .nil) (by decide +kernel)
    · exact fin _ _ (.dct g3 .nil) (by decide +kernel)
    · exact fin _ _ (.tup g4 (.cons (.int _) .nil)) (by decide +kernel)
    · exact fin _ _ (.lst g5 (.cons (.int _) .nil)) (by decide +kernel)
    · exact fin _ _ (.tup g6 (.cons (.bl _) .nil)) (by decide +kernel)
    · exact fin _ _ (.tup g8 (.cons (.int _) (.cons (.int _) .nil))) (by decide +kernel)
    · exact fin _ _ (.tup g10 (.cons (.tup g9 (.cons (.int _) (.cons (.int _) .nil))) .nil)) (by decide +kernel)
    · exact fin _ _ (.dct g11 (.cons (.int _) .nil)) (by decide +kernel)
    · exact fin _ _ (.tup g12 (.cons .non (.cons (.int _) .nil))) (by decide +kernel)
    · exact fin _ _ (.tup g13 (.cons (.str _) (.cons (.int _) .nil))) (by decide +kernel)
    · exact fin _ _ (.str _) (by decide +kernel)
    · exact fin _ _ (.tup g14 (.cons (.int _) (.cons (.int _) .nil))) (by decide +kernel)
end
end Lf
namespace Lf
open PySem PySem.Spec PyProof.Rows L2
abbrev sPlain : Stmt := topS 33
abbrev sFilled : Stmt := topS 34
/-- the classes: a 0 .. a 9 those without fields, a 10 .. a 18 those with one, a 19 what they have in common -/
structure Txt (K : PySem.W.Frag) (mg : Str → Option Value) (a : Nat → Addr) : Prop where
  g0 : mg "BadBatch" = some (.ref (a 0))
  g1 : mg "BadCount" = some (.ref (a 1))
  g2 : mg "BadShape" = some (.ref (a 2))
  g3 : mg "Busy" = some (.ref (a 3))
  g4 : mg "NoBeginning" = some (.ref (a 4))
  g5 : mg "NoHistory" = some (.ref (a 5))
  g6 : mg "NothingToUndo" = some (.ref (a 6))
  g7 : mg "SameTree" = some (.ref (a 7))
  g8 : mg "SameVertex" = some (.ref (a 8))
  g9 : mg "TooManyActions" = some (.ref (a 9))
  g10 : mg "BadJoin" = some (.ref (a 10))
  g11 : mg "BadText" = some (.ref (a 11))
  g12 : mg "NoIndex" = some (.ref (a 12))
  g13 : mg "NoStart" = some (.ref (a 13))
  g14 : mg "NoVersion" = some (.ref (a 14))
  g15 : mg "NoVertex" = some (.ref (a 15))
  g16 : mg "NotBuilt" = some (.ref (a 16))
  g17 : mg "Rejected" = some (.ref (a 17))
  g18 : mg "TooMany" = some (.ref (a 18))
  g19 : mg "LinkError" = some (.ref (a 19))
  nV : mg "ValueError" = none
  ex : ∀ i, i < 19 → ExK K (a i)
  kit : ∀ i j, i < 19 → j < 19 → PySem.W.kitOne K (.ref (a i)) (.ref (a j)) = some (decide (i = j))
  kitL : ∀ i, i < 19 → PySem.W.kitOne K (.ref (a i)) (.ref (a 19)) = some true
  kitV : ∀ i, i < 19 → PySem.W.kitOne K (.ref (a i)) (.type "ValueError") = some true
  mi : mg "isinstance" = none
  mr : mg "range" = none
  ml : mg "len" = none
  me : mg "enumerate" = none
  mp : mg "repr" = none
  xc : ∀ i, i < 10 → PySem.W.excIn K (a i) [.type "ValueError", .type "Exception", .type "BaseException", .type "object"] "ValueError.__new__" = true
  kp : ∀ i, i < 10 → PySem.W.keepIn K (.ref (a i)) = true

def plainAt (i : Nat) : List V := if i < 10 then [.int (i : Nat)] else []
def filledAt (i : Nat) : List V := if 10 ≤ i then [.int ((i - 10 : Nat) : Int)] else []
def spKind (a : Nat → Addr) (r : Nat → List V) : Sp := fun vs H Q _ => ∃ (e : Addr) (i : Nat), vs = [.ref e] ∧ i < 19 ∧ IsEx H e (a i) ∧ ∀ H' p, Same H H' → H p = none → H' p = some (.lst (r i)) → Q (.ref p) H'
section
variable {P : Program} {w : World} {K : PySem.W.Frag} {mg : Str → Option Value} {base : Heap} {a : Nat → Addr}
theorem scPlain : FnScope ["_law_error", "_law_kinds", "_law_k"] ["_law_error"] (defScope sPlain) := ⟨rfl, rfl, rfl, by decide +kernel, rfl, by decide +kernel, by decide +kernel⟩
theorem ok_plain {f : Addr} {fd : FuncData} (F : Fun K "_law_plain" "_law_plain" sPlain f fd) (T : Txt K mg a) : FnOk P w K mg base CX0 1 f fd ["_law_error"] (spKind a plainAt) := by
  refine F.ok scPlain (fun vs H Q E h => ?_) (fun cdv A outer s H vs Q E hr h => ?_)
  · obtain ⟨e, i, rfl, _⟩ := h
    rfl
  · obtain ⟨e, i, rfl, hi, hx, q⟩ := h
    refine ⟨_, pss_cons (ps_set (i := 1) scPlain.nd rfl (.inr rfl) (pe_lst (pa_cons (pe_callB call_isx (by rfl) T.mi (by decide +kernel) (pa_cons (pv 0) (pa_cons (pe_glob (v := .ref (a 0)) rfl T.g0 rfl) pa_nil)))
        (pa_cons (pe_callB call_isx (by rfl) T.mi (by decide +kernel) (pa_cons (pv 0) (pa_cons (pe_glob (v := .ref (a 1)) rfl T.g1 rfl) pa_nil)))
        (pa_cons (pe_callB call_isx (by rfl) T.mi (by decide +kernel) (pa_cons (pv 0) (pa_cons (pe_glob (v := .ref (a 2)) rfl T.g2 rfl) pa_nil))) pa_nil)))))
      (pss_cons (ps_set (i := 1) scPlain.nd rfl (.inr rfl) (pe_op op_cat (pv 1) (pe_lst (pa_cons (pe_callB call_isx (by rfl) T.mi (by decide +kernel) (pa_cons (pv 0) (pa_cons (pe_glob (v := .ref (a 3)) rfl T.g3 rfl) pa_nil)))
        (pa_cons (pe_callB call_isx (by rfl) T.mi (by decide +kernel) (pa_cons (pv 0) (pa_cons (pe_glob (v := .ref (a 4)) rfl T.g4 rfl) pa_nil)))
        (pa_cons (pe_callB call_isx (by rfl) T.mi (by decide +kernel) (pa_cons (pv 0) (pa_cons (pe_glob (v := .ref (a 5)) rfl T.g5 rfl) pa_nil))) pa_nil))))))
      (pss_cons (ps_set (i := 1) scPlain.nd rfl (.inr rfl) (pe_op op_cat (pv 1) (pe_lst (pa_cons (pe_callB call_isx (by rfl) T.mi (by decide +kernel) (pa_cons (pv 0) (pa_cons (pe_glob (v := .ref (a 6)) rfl T.g6 rfl) pa_nil)))
        (pa_cons (pe_callB call_isx (by rfl) T.mi (by decide +kernel) (pa_cons (pv 0) (pa_cons (pe_glob (v := .ref (a 7)) rfl T.g7 rfl) pa_nil))) pa_nil)))))
      (pss_cons (ps_set (i := 1) scPlain.nd rfl (.inr rfl) (pe_op op_cat (pv 1) (pe_lst (pa_cons (pe_callB call_isx (by rfl) T.mi (by decide +kernel) (pa_cons (pv 0) (pa_cons (pe_glob (v := .ref (a 8)) rfl T.g8 rfl) pa_nil)))
        (pa_cons (pe_callB call_isx (by rfl) T.mi (by decide +kernel) (pa_cons (pv 0) (pa_cons (pe_glob (v := .ref (a 9)) rfl T.g9 rfl) pa_nil))) pa_nil)))))
      (pss_one (ps_ret (pe_lc (own := [("_law_k", 2)]) (g := gName 2) (tt := tB (tOp (rIxL K) (tVar 1) (tVar 2))) (te := tVar 2) (by rfl) scPlain.nd (pi_range1 (by rfl) T.mr (pa_cons pe_int pa_nil)) (blkOk_by (own := [("_law_k", 2)]) (N := ["_law_error", "_law_kinds", "_law_k"]) (sc := defScope sPlain) (by decide +kernel))
        (fun _ _ _ _ _ => pg_name (i := 2) scPlain.nd rfl (Or.inl rfl)) (fun _ _ _ _ _ => pts_one (pt_val (pe_ix ix_list (pv 1) (pv 2) (fun _ _ => rfl)))) (fun _ _ _ _ _ => pv 2))))))), ?_⟩
    have X := T.ex i hi
    have ans : ∀ j, j < 19 → PySem.W.kitOne K (.ref (a i)) (.ref (a j)) = some (decide (i = j)) := fun j hj => T.kit i j hi hj
    refine ⟨.ref e, rfl, e, a i, .ref (a 0), .ref (a 0), _, rfl, hx, .own _, X, ans 0 (by decide), .ref e, rfl, e, a i, .ref (a 1), .ref (a 1), _, rfl, hx, .own _, X, ans 1 (by decide), .ref e, rfl, e, a i, .ref (a 2), .ref (a 2), _, rfl, hx, .own _, X, ans 2 (by decide), (by show 3 ≤ sizeLine; decide), fun p1 n1 => ?_⟩
    generalize hH1 : upd H p1 _ = H1
    have S1 : Same H H1 := hH1 ▸ same_new n1
    have e1 : H1 p1 = some (.lst [.bl (decide (i = 0)), .bl (decide (i = 1)), .bl (decide (i = 2))]) := hH1 ▸ upd_same
    clear hH1
    have hx1 := hx.mono S1
    refine ⟨.ref p1, rfl, .ref e, rfl, e, a i, .ref (a 3), .ref (a 3), _, rfl, hx1, .own _, X, ans 3 (by decide), .ref e, rfl, e, a i, .ref (a 4), .ref (a 4), _, rfl, hx1, .own _, X, ans 4 (by decide), .ref e, rfl, e, a i, .ref (a 5), .ref (a 5), _, rfl, hx1, .own _, X, ans 5 (by decide), (by show 3 ≤ sizeLine; decide), fun p2 n2 => ?_⟩
    generalize hH2 : upd H1 p2 _ = H2
    have S2 : Same H1 H2 := hH2 ▸ same_new n2
    have e2 : H2 p2 = some (.lst [.bl (decide (i = 3)), .bl (decide (i = 4)), .bl (decide (i = 5))]) := hH2 ▸ upd_same
    clear hH2
    refine ⟨p1, p2, _, _, rfl, rfl, S2 _ _ e1, e2, (by show 6 ≤ sizeLine; decide), fun p3 n3 => ?_⟩
    generalize hH3 : upd H2 p3 _ = H3
    have S3 : Same H2 H3 := hH3 ▸ same_new n3
    have e3 : H3 p3 = some (.lst [.bl (decide (i = 0)), .bl (decide (i = 1)), .bl (decide (i = 2)), .bl (decide (i = 3)), .bl (decide (i = 4)), .bl (decide (i = 5))]) := hH3 ▸ upd_same
    clear hH3
    have hx3 := (hx1.mono S2).mono S3
    refine ⟨.ref p3, rfl, .ref e, rfl, e, a i, .ref (a 6), .ref (a 6), _, rfl, hx3, .own _, X, ans 6 (by decide), .ref e, rfl, e, a i, .ref (a 7), .ref (a 7), _, rfl, hx3, .own _, X, ans 7 (by decide), (by show 2 ≤ sizeLine; decide), fun p4 n4 => ?_⟩
    generalize hH4 : upd H3 p4 _ = H4
    have S4 : Same H3 H4 := hH4 ▸ same_new n4
    have e4 : H4 p4 = some (.lst [.bl (decide (i = 6)), .bl (decide (i = 7))]) := hH4 ▸ upd_same
    clear hH4
    refine ⟨p3, p4, _, _, rfl, rfl, S4 _ _ e3, e4, (by show 8 ≤ sizeLine; decide), fun p5 n5 => ?_⟩
    generalize hH5 : upd H4 p5 _ = H5
    have S5 : Same H4 H5 := hH5 ▸ same_new n5
    have e5 : H5 p5 = some (.lst [.bl (decide (i = 0)), .bl (decide (i = 1)), .bl (decide (i = 2)), .bl (decide (i = 3)), .bl (decide (i = 4)), .bl (decide (i = 5)), .bl (decide (i = 6)), .bl (decide (i = 7))]) := hH5 ▸ upd_same
    clear hH5
    have hx5 := (hx3.mono S4).mono S5
    refine ⟨.ref p5, rfl, .ref e, rfl, e, a i, .ref (a 8), .ref (a 8), _, rfl, hx5, .own _, X, ans 8 (by decide), .ref e, rfl, e, a i, .ref (a 9), .ref (a 9), _, rfl, hx5, .own _, X, ans 9 (by decide), (by show 2 ≤ sizeLine; decide), fun p6 n6 => ?_⟩
    generalize hH6 : upd H5 p6 _ = H6
    have S6 : Same H5 H6 := hH6 ▸ same_new n6
    have e6 : H6 p6 = some (.lst [.bl (decide (i = 8)), .bl (decide (i = 9))]) := hH6 ▸ upd_same
    clear hH6
    refine ⟨p5, p6, _, _, rfl, rfl, S6 _ _ e5, e6, (by show 10 ≤ sizeLine; decide), fun p7 n7 => ?_⟩
    generalize hH7 : upd H6 p7 _ = H7
    have S7 : Same H6 H7 := hH7 ▸ same_new n7
    have e7 : H7 p7 = some (.lst ((List.range 10).map fun j => .bl (decide (i = j)))) := hH7 ▸ upd_same
    clear hH7
    have S : Same H H7 := S1.trans (S2.trans (S3.trans (S4.trans (S5.trans (S6.trans S7)))))
    refine ⟨10, rfl, by decide, by decide, fun D nD => lc_range (lo := 0) (n := 10) (fun k H2 => Same H7 H2 ∧ H2 D = some (.lst (if i < k then [.int (i : Nat)] else []))) ⟨same_new nD, upd_same⟩ ?_ ?_⟩
    · rintro k H8 hk ⟨sm, hD⟩
      refine ⟨rfl, .ref p7, rfl, .int (0 + (k : Int)), rfl, p7, _, (k : Int), .bl (decide (i = k)), rfl, ?_, SqL.of (sm _ _ e7), ?_, _, rfl, ite2 (fun hik => ?_) (fun hik => ?_)⟩
      · rw [Int.zero_add]
      · exact atI_nat (by rw [List.getElem?_map, List.getElem?_range hk]; rfl)
      · have hik : i = k := of_decide_eq_true hik
        subst hik
        refine ⟨.int (0 + (i : Int)), rfl, _, hD, ?_, fun b o z => ?_, ?_⟩
        · rw [if_neg (Nat.lt_irrefl i)]
          decide
        · rw [upd_ne (ne_of_none z nD)]
          exact sm _ _ z
        · rw [upd_same, if_neg (Nat.lt_irrefl i), if_pos (Nat.lt_succ_self i), Int.zero_add]
          rfl
      · have hik : ¬ i = k := fun z => hik (decide_eq_true z)
        refine ⟨sm, ?_⟩
        rw [hD]
        by_cases z : i < k
        · rw [if_pos z, if_pos (by omega)]
        · rw [if_neg z, if_neg (by omega)]
    · rintro H8 ⟨sm, hD⟩
      exact q H8 D (S.trans sm) (S.free nD) hD
end
end Lf
namespace Lf
open PySem PySem.Spec PyProof.Rows L2
section
variable {P : Program} {w : World} {K : PySem.W.Frag} {mg : Str → Option Value} {base : Heap} {a : Nat → Addr}
theorem scFilled : FnScope ["_law_error", "_law_kinds", "_law_k"] ["_law_error"] (defScope sFilled) := ⟨rfl, rfl, rfl, by decide +kernel, rfl, by decide +kernel, by decide +kernel⟩
theorem ok_filled {f : Addr} {fd : FuncData} (F : Fun K "_law_filled" "_law_filled" sFilled f fd) (T : Txt K mg a) : FnOk P w K mg base CX0 1 f fd ["_law_error"] (spKind a filledAt) := by
  refine F.ok scFilled (fun vs H Q E h => ?_) (fun cdv A outer s H vs Q E hr h => ?_)
  · obtain ⟨e, i, rfl, _⟩ := h
    rfl
  · obtain ⟨e, i, rfl, hi, hx, q⟩ := h
    refine ⟨_, pss_cons (ps_set (i := 1) scFilled.nd rfl (.inr rfl) (pe_lst (pa_cons (pe_callB call_isx (by rfl) T.mi (by decide +kernel) (pa_cons (pv 0) (pa_cons (pe_glob (v := .ref (a 10)) rfl T.g10 rfl) pa_nil))) (pa_cons (pe_callB call_isx (by rfl) T.mi (by decide +kernel) (pa_cons (pv 0) (pa_cons (pe_glob (v := .ref (a 11)) rfl T.g11 rfl) pa_nil))) (pa_cons (pe_callB call_isx (by rfl) T.mi (by decide +kernel) (pa_cons (pv 0) (pa_cons (pe_glob (v := .ref (a 12)) rfl T.g12 rfl) pa_nil))) pa_nil)))))
      (pss_cons (ps_set (i := 1) scFilled.nd rfl (.inr rfl) (pe_op op_cat (pv 1) (pe_lst (pa_cons (pe_callB call_isx (by rfl) T.mi (by decide +kernel) (pa_cons (pv 0) (pa_cons (pe_glob (v := .ref (a 13)) rfl T.g13 rfl) pa_nil))) (pa_cons (pe_callB call_isx (by rfl) T.mi (by decide +kernel) (pa_cons (pv 0) (pa_cons (pe_glob (v := .ref (a 14)) rfl T.g14 rfl) pa_nil))) (pa_cons (pe_callB call_isx (by rfl) T.mi (by decide +kernel) (pa_cons (pv 0) (pa_cons (pe_glob (v := .ref (a 15)) rfl T.g15 rfl) pa_nil))) pa_nil))))))
      (pss_cons (ps_set (i := 1) scFilled.nd rfl (.inr rfl) (pe_op op_cat (pv 1) (pe_lst (pa_cons (pe_callB call_isx (by rfl) T.mi (by decide +kernel) (pa_cons (pv 0) (pa_cons (pe_glob (v := .ref (a 16)) rfl T.g16 rfl) pa_nil))) (pa_cons (pe_callB call_isx (by rfl) T.mi (by decide +kernel) (pa_cons (pv 0) (pa_cons (pe_glob (v := .ref (a 17)) rfl T.g17 rfl) pa_nil))) (pa_cons (pe_callB call_isx (by rfl) T.mi (by decide +kernel) (pa_cons (pv 0) (pa_cons (pe_glob (v := .ref (a 18)) rfl T.g18 rfl) pa_nil))) pa_nil))))))
      (pss_one (ps_ret (pe_lc (own := [("_law_k", 2)]) (g := gName 2) (tt := tB (tOp (rIxL K) (tVar 1) (tVar 2))) (te := tVar 2) (by rfl) scFilled.nd (pi_range1 (by rfl) T.mr (pa_cons pe_int pa_nil)) (blkOk_by (own := [("_law_k", 2)]) (N := ["_law_error", "_law_kinds", "_law_k"]) (sc := defScope sFilled) (by decide +kernel))
        (fun _ _ _ _ _ => pg_name (i := 2) scFilled.nd rfl (Or.inl rfl)) (fun _ _ _ _ _ => pts_one (pt_val (pe_ix ix_list (pv 1) (pv 2) (fun _ _ => rfl)))) (fun _ _ _ _ _ => pv 2)))))), ?_⟩
    have X := T.ex i hi
    have ans : ∀ j, j < 19 → PySem.W.kitOne K (.ref (a i)) (.ref (a j)) = some (decide (i = j)) := fun j hj => T.kit i j hi hj
    refine ⟨.ref e, rfl, e, a i, .ref (a 10), .ref (a 10), _, rfl, hx, .own _, X, ans 10 (by decide), .ref e, rfl, e, a i, .ref (a 11), .ref (a 11), _, rfl, hx, .own _, X, ans 11 (by decide), .ref e, rfl, e, a i, .ref (a 12), .ref (a 12), _, rfl, hx, .own _, X, ans 12 (by decide), (by show 3 ≤ sizeLine; decide), fun p1 n1 => ?_⟩
    generalize hH1 : upd H p1 _ = H1
    have S1 : Same H H1 := hH1 ▸ same_new n1
    have e1 : H1 p1 = some (.lst [.bl (decide (i = 10)), .bl (decide (i = 11)), .bl (decide (i = 12))]) := hH1 ▸ upd_same
    clear hH1
    have hx1 := hx.mono S1
    refine ⟨.ref p1, rfl, .ref e, rfl, e, a i, .ref (a 13), .ref (a 13), _, rfl, hx1, .own _, X, ans 13 (by decide), .ref e, rfl, e, a i, .ref (a 14), .ref (a 14), _, rfl, hx1, .own _, X, ans 14 (by decide), .ref e, rfl, e, a i, .ref (a 15), .ref (a 15), _, rfl, hx1, .own _, X, ans 15 (by decide), (by show 3 ≤ sizeLine; decide), fun p2 n2 => ?_⟩
    generalize hH2 : upd H1 p2 _ = H2
    have S2 : Same H1 H2 := hH2 ▸ same_new n2
    have e2 : H2 p2 = some (.lst [.bl (decide (i = 13)), .bl (decide (i = 14)), .bl (decide (i = 15))]) := hH2 ▸ upd_same
    clear hH2
    refine ⟨p1, p2, _, _, rfl, rfl, S2 _ _ e1, e2, (by show 6 ≤ sizeLine; decide), fun p3 n3 => ?_⟩
    generalize hH3 : upd H2 p3 _ = H3
    have S3 : Same H2 H3 := hH3 ▸ same_new n3
    have e3 : H3 p3 = some (.lst [.bl (decide (i = 10)), .bl (decide (i = 11)), .bl (decide (i = 12)), .bl (decide (i = 13)), .bl (decide (i = 14)), .bl (decide (i = 15))]) := hH3 ▸ upd_same
    clear hH3
    have hx3 := (hx1.mono S2).mono S3
    refine ⟨.ref p3, rfl, .ref e, rfl, e, a i, .ref (a 16), .ref (a 16), _, rfl, hx3, .own _, X, ans 16 (by decide), .ref e, rfl, e, a i, .ref (a 17), .ref (a 17), _, rfl, hx3, .own _, X, ans 17 (by decide), .ref e, rfl, e, a i, .ref (a 18), .ref (a 18), _, rfl, hx3, .own _, X, ans 18 (by decide), (by show 3 ≤ sizeLine; decide), fun p4 n4 => ?_⟩
    generalize hH4 : upd H3 p4 _ = H4
    have S4 : Same H3 H4 := hH4 ▸ same_new n4
    have e4 : H4 p4 = some (.lst [.bl (decide (i = 16)), .bl (decide (i = 17)), .bl (decide (i = 18))]) := hH4 ▸ upd_same
    clear hH4
    refine ⟨p3, p4, _, _, rfl, rfl, S4 _ _ e3, e4, (by show 9 ≤ sizeLine; decide), fun p7 n7 => ?_⟩
    generalize hH7 : upd H4 p7 _ = H7
    have S7 : Same H4 H7 := hH7 ▸ same_new n7
    have e7 : H7 p7 = some (.lst ((List.range 9).map fun j => .bl (decide (i = j + 10)))) := hH7 ▸ upd_same
    clear hH7
    have S : Same H H7 := S1.trans (S2.trans (S3.trans (S4.trans S7)))
    refine ⟨9, rfl, by decide, by decide, fun D nD => lc_range (lo := 0) (n := 9) (fun k H2 => Same H7 H2 ∧ H2 D = some (.lst (if 10 ≤ i ∧ i < k + 10 then [.int ((i - 10 : Nat) : Int)] else []))) ⟨same_new nD, ?_⟩ ?_ ?_⟩
    · rw [upd_same, if_neg (by omega)]
    · rintro k H8 hk ⟨sm, hD⟩
      refine ⟨rfl, .ref p7, rfl, .int (0 + (k : Int)), rfl, p7, _, (k : Int), .bl (decide (i = k + 10)), rfl, ?_, SqL.of (sm _ _ e7), ?_, _, rfl, ite2 (fun hik => ?_) (fun hik => ?_)⟩
      · rw [Int.zero_add]
      · exact atI_nat (by rw [List.getElem?_map, List.getElem?_range hk]; rfl)
      · have hik : i = k + 10 := of_decide_eq_true hik
        subst hik
        have no : ¬ (10 ≤ k + 10 ∧ k + 10 < k + 10) := by omega
        refine ⟨.int (0 + (k : Int)), rfl, _, hD, ?_, fun b o z => ?_, ?_⟩
        · rw [if_neg no]
          decide
        · rw [upd_ne (ne_of_none z nD)]
          exact sm _ _ z
        · rw [upd_same, if_neg no, if_pos (by omega), Int.zero_add]
          rfl
      · have hik : ¬ i = k + 10 := fun z => hik (decide_eq_true z)
        refine ⟨sm, ?_⟩
        rw [hD]
        by_cases z : 10 ≤ i ∧ i < k + 10
        · rw [if_pos z, if_pos (by omega)]
        · rw [if_neg z, if_neg (by omega)]
    · rintro H8 ⟨sm, hD⟩
      refine q H8 D (S.trans sm) (S.free nD) ?_
      rw [hD]
      unfold filledAt
      by_cases z : 10 ≤ i
      · rw [if_pos z, if_pos (by omega)]
      · rw [if_neg z, if_neg (by omega)]
end
end Lf
namespace Lf
open PySem PySem.Spec PyProof.Rows L2
abbrev sAlone : Stmt := topS 35
def spAlone (a : Nat → Addr) : Sp := fun vs H Q _ => ∃ (x y : Addr) (es os : List Addr), vs = [.ref x, .ref y] ∧ H x = some (.lst (es.map V.ref)) ∧ H y = some (.lst (os.map V.ref)) ∧ es.length = 10 ∧ os.length = 9 ∧
  (∀ i e, es[i]? = some e → IsEx H e (a i)) ∧ (∀ i e, os[i]? = some e → IsEx H e (a (i + 10))) ∧ ∀ H', Same H H' → Q (.bl true) H'
theorem get_map {es : List Addr} {i : Nat} {v : V} (h : (es.map V.ref)[i]? = some v) : ∃ e, es[i]? = some e ∧ v = .ref e := by
  rw [List.getElem?_map] at h
  cases z : es[i]? with
  | none =>
    rw [z] at h
    cases h
  | some e =>
    rw [z] at h
    exact ⟨e, rfl, (Option.some.inj h).symm⟩
theorem eqv_one (i : Int) : PyData.eqv (.list [.int i]) (.list [.int i]) = true := by
  show ((i == i) && true) = true
  simp
section
variable {P : Program} {w : World} {K : PySem.W.Frag} {mg : Str → Option Value} {base : Heap} {a : Nat → Addr}
theorem scAlone : FnScope ["_law_errors", "_law_others", "_law_k", "_law_error", "_law_every", "_law_strange"] ["_law_errors", "_law_others"] (defScope sAlone) := ⟨rfl, rfl, rfl, by decide +kernel, rfl, by decide +kernel, by decide +kernel⟩
theorem ok_alone {f fP fF : Addr} {fd fdP fdF : FuncData} (F : Fun K "_law_alone" "_law_alone" sAlone f fd) (T : Txt K mg a) (FP : Fun K "_law_plain" "_law_plain" sPlain fP fdP) (bP : Binds K fdP ["_law_error"] []) (gP : mg "_law_plain" = some (.ref fP))
    (FF : Fun K "_law_filled" "_law_filled" sFilled fF fdF) (bF : Binds K fdF ["_law_error"] []) (gF : mg "_law_filled" = some (.ref fF)) : FnOk P w K mg base CX0 2 f fd ["_law_errors", "_law_others"] (spAlone a) := by
  have GP : FnOk P w K mg base CX0 1 fP fdP ["_law_error"] (spKind a plainAt) := ok_plain FP T
  have GF : FnOk P w K mg base CX0 1 fF fdF ["_law_error"] (spKind a filledAt) := ok_filled FF T
  refine F.ok scAlone (fun vs H Q E h => ?_) (fun cdv A outer s H vs Q E hr h => ?_)
  · obtain ⟨x, y, es, os, rfl, _⟩ := h
    rfl
  · obtain ⟨x, y, es, os, rfl, hx, hy, le, lo, hes, hos, q⟩ := h
    refine ⟨_, pss_cons (ps_for PassesOwn.never rfl (pi_enum (by rfl) T.me (pa_cons (pv 0) pa_nil)) (pg_tup rfl (pgs_cons (pg_name (i := 2) scAlone.nd rfl (.inl rfl)) (pgs_cons (pg_name (i := 3) scAlone.nd rfl (.inl rfl)) pgs_nil)))
        (pss_one (ps_if (PW.pt (pw_or (pt_cmpR (op_neD hr.units) (pe_call GP hr (by rfl) gP FP.kp bP .nil pass0 (pa_cons (pv 3) pa_nil)) (pe_lst (pa_cons (pv 2) pa_nil)) (nomark _)) (pw_or1 (pt_cmpR (op_neD hr.units) (pe_call GF hr (by rfl) gF FF.kp bF .nil pass0 (pa_cons (pv 3) pa_nil)) (pe_lst pa_nil) (nomark _)))))
          (pss_one (ps_ret pe_bl)) pss_nil)))
      (pss_cons (ps_for PassesOwn.never rfl (pi_enum (by rfl) T.me (pa_cons (pv 1) pa_nil)) (pg_tup rfl (pgs_cons (pg_name (i := 2) scAlone.nd rfl (.inl rfl)) (pgs_cons (pg_name (i := 3) scAlone.nd rfl (.inl rfl)) pgs_nil)))
        (pss_one (ps_if (PW.pt (pw_or (pt_cmpR (op_neD hr.units) (pe_call GF hr (by rfl) gF FF.kp bF .nil pass0 (pa_cons (pv 3) pa_nil)) (pe_lst (pa_cons (pv 2) pa_nil)) (nomark _)) (pw_or1 (pt_cmpR (op_neD hr.units) (pe_call GP hr (by rfl) gP FP.kp bP .nil pass0 (pa_cons (pv 3) pa_nil)) (pe_lst pa_nil) (nomark _)))))
          (pss_one (ps_ret pe_bl)) pss_nil)))
      (pss_cons (ps_set (i := 4) scAlone.nd rfl (.inl rfl) (pe_op op_cat (pv 0) (pv 1)))
      (pss_cons (ps_setLc (i := 5) (own := [("_law_error", 3)]) (g := gName 3) (tt := tNot (tB (tCB (rIsx K) (tCons (tVar 3) (tCons (tC (.ref (a 19))) tNil))))) (te := tVar 3) (by rfl) scAlone.nd rfl rfl (sw_true rfl rfl rfl (by decide +kernel)) (pi_list (pv 4))
          (blkOk_by (own := [("_law_error", 3)]) (N := ["_law_errors", "_law_others", "_law_k", "_law_error", "_law_every", "_law_strange"]) (sc := defScope sAlone) (by decide +kernel)) (fun _ _ _ _ _ => pg_name (i := 3) scAlone.nd rfl (Or.inl rfl))
          (fun _ _ _ _ _ => pts_one (pt_not (pt_val (pe_callB call_isx (by rfl) T.mi (by decide +kernel) (pa_cons (pv 3) (pa_cons (pe_glob (v := .ref (a 19)) rfl T.g19 rfl) pa_nil)))))) (fun _ _ _ _ _ => pv 3))
      (pss_one (ps_ret (pe_and (pe_cmpR (op_eqD hr.units) (pv 5) (pe_lst pa_nil) (nomark _)) (pe_one (pe_cmpR (op_eqD hr.units) (pe_lc (own := [("_law_error", 3)]) (g := gName 3) (tt := tNot (tB (tCB (rIsx K) (tCons (tVar 3) (tCons (tC (.ty "ValueError")) tNil))))) (te := tVar 3) (by rfl) scAlone.nd (pi_list (pv 4))
          (blkOk_by (own := [("_law_error", 3)]) (N := ["_law_errors", "_law_others", "_law_k", "_law_error", "_law_every", "_law_strange"]) (sc := defScope sAlone) (by decide +kernel)) (fun _ _ _ _ _ => pg_name (i := 3) scAlone.nd rfl (Or.inl rfl))
          (fun _ _ _ _ _ => pts_one (pt_not (pt_val (pe_callB call_isx (by rfl) T.mi (by decide +kernel) (pa_cons (pv 3) (pa_cons (pe_bltn (v := .ty "ValueError") rfl T.nV (by decide +kernel) rfl) pa_nil)))))) (fun _ _ _ _ _ => pv 3)) (pe_lst pa_nil) (nomark _))))))))), ?_⟩
    refine ⟨.ref x, rfl, x, _, rfl, SqL.of hx, for_it (walk_enum (K := K) (a := x) (xs := es.map V.ref)) (fun i σ H1 => Same H H1 ∧ ∃ c2 c3, σ = [some (.ref x), some (.ref y), c2, c3, none, none]) ⟨Same.refl H, none, none, rfl⟩ (fun i σ H1 _ p => SqL.of (p.1 _ _ hx)) ?_ ?_⟩
    · rintro i v σ H1 H1' hi ⟨sm, c2, c3, rfl⟩ ⟨t, v1, v2, rfl, nt, rfl, z1, z2⟩
      obtain ⟨e, he, rfl⟩ := get_map z2
      cases z1
      rw [List.length_map, le] at hi
      have sm2 := sm.trans (same_new (o := .tup [V.int (i : Nat), V.ref e]) nt)
      refine ⟨t, _, rfl, SqT.of upd_same, rfl, _, _, rfl, _, _, rfl, rfl, ?_⟩
      refine ⟨.ref e, rfl, e, i, rfl, by omega, (hes i e he).mono sm2, fun H2 p S1 np ep => ?_⟩
      refine ⟨.int (i : Nat), rfl, (by show 1 ≤ sizeLine; decide), fun p2 n2 => ?_⟩
      have ep' := same_new (o := .lst [V.int (i : Nat)]) n2 _ _ ep
      rw [plainAt, if_pos hi] at ep'
      refine ⟨.list [.int i], .list [.int i], .lst (SqL.of ep') (.cons (.int _) .nil), .lst (SqL.of upd_same) (.cons (.int _) .nil), rfl, rfl, _, rfl, ?_⟩
      rw [eqv_one]
      have S2 := S1.trans (same_new (o := .lst [V.int (i : Nat)]) n2)
      refine iteF ⟨.ref e, rfl, e, i, rfl, by omega, ((hes i e he).mono sm2).mono S2, fun H3 p3 S3 np3 ep3 => ?_⟩
      refine ⟨(by show 0 ≤ sizeLine; decide), fun p4 n4 => ?_⟩
      have ep4 := same_new (o := .lst []) n4 _ _ ep3
      rw [filledAt, if_neg (by omega)] at ep4
      refine ⟨.list [], .list [], .lst (SqL.of ep4) .nil, .lst (SqL.of upd_same) .nil, rfl, rfl, _, rfl, ?_⟩
      refine iteF ⟨sm2.trans (S2.trans (S3.trans (same_new n4))), _, _, rfl⟩
    · rintro σ H1 ⟨sm, c2, c3, rfl⟩
      refine ⟨.ref y, rfl, y, _, rfl, SqL.of (sm _ _ hy), for_it (walk_enum (K := K) (a := y) (xs := os.map V.ref)) (fun i σ H1 => Same H H1 ∧ ∃ c2 c3, σ = [some (.ref x), some (.ref y), c2, c3, none, none]) ⟨sm, c2, c3, rfl⟩ (fun i σ H1 _ p => SqL.of (p.1 _ _ hy)) ?_ ?_⟩
      · rintro i v σ H1 H1' hi ⟨sm, c2, c3, rfl⟩ ⟨t, v1, v2, rfl, nt, rfl, z1, z2⟩
        obtain ⟨e, he, rfl⟩ := get_map z2
        cases z1
        rw [List.length_map, lo] at hi
        have sm2 := sm.trans (same_new (o := .tup [V.int (i : Nat), V.ref e]) nt)
        refine ⟨t, _, rfl, SqT.of upd_same, rfl, _, _, rfl, _, _, rfl, rfl, ?_⟩
        refine ⟨.ref e, rfl, e, i + 10, rfl, by omega, (hos i e he).mono sm2, fun H2 p S1 np ep => ?_⟩
        refine ⟨.int (i : Nat), rfl, (by show 1 ≤ sizeLine; decide), fun p2 n2 => ?_⟩
        have ep' := same_new (o := .lst [V.int (i : Nat)]) n2 _ _ ep
        rw [filledAt, if_pos (by omega), Nat.add_sub_cancel] at ep'
        refine ⟨.list [.int i], .list [.int i], .lst (SqL.of ep') (.cons (.int _) .nil), .lst (SqL.of upd_same) (.cons (.int _) .nil), rfl, rfl, _, rfl, ?_⟩
        rw [eqv_one]
        have S2 := S1.trans (same_new (o := .lst [V.int (i : Nat)]) n2)
        refine iteF ⟨.ref e, rfl, e, i + 10, rfl, by omega, ((hos i e he).mono sm2).mono S2, fun H3 p3 S3 np3 ep3 => ?_⟩
        refine ⟨(by show 0 ≤ sizeLine; decide), fun p4 n4 => ?_⟩
        have ep4 := same_new (o := .lst []) n4 _ _ ep3
        rw [plainAt, if_neg (by omega)] at ep4
        refine ⟨.list [], .list [], .lst (SqL.of ep4) .nil, .lst (SqL.of upd_same) .nil, rfl, rfl, _, rfl, ?_⟩
        refine iteF ⟨sm2.trans (S2.trans (S3.trans (same_new n4))), _, _, rfl⟩
      · rintro σ H1 ⟨sm, c2, c3, rfl⟩
        refine ⟨.ref x, rfl, .ref y, rfl, x, y, _, _, rfl, rfl, sm _ _ hx, sm _ _ hy, ?_, fun p np => ?_⟩
        · rw [List.length_map, List.length_map, le, lo]
          decide
        generalize hH2 : upd H1 p _ = H2
        have S2 : Same H1 H2 := hH2 ▸ same_new np
        have ep : H2 p = some (.lst (es.map V.ref ++ os.map V.ref)) := hH2 ▸ upd_same
        clear hH2
        have S : Same H H2 := sm.trans S2
        have all : ∀ {i : Nat} {v : V}, (es.map V.ref ++ os.map V.ref)[i]? = some v → ∃ e j, v = .ref e ∧ j < 19 ∧ IsEx H e (a j) := by
          intro i v hv
          by_cases hi : i < (es.map V.ref).length
          · rw [List.getElem?_append_left hi] at hv
            obtain ⟨e, he, rfl⟩ := get_map hv
            rw [List.length_map, le] at hi
            exact ⟨e, i, rfl, by omega, hes i e he⟩
          · rw [List.getElem?_append_right (Nat.le_of_not_lt hi)] at hv
            obtain ⟨e, he, rfl⟩ := get_map hv
            have hj : i - (es.map V.ref).length < os.length := by
              rcases Nat.lt_or_ge (i - (es.map V.ref).length) os.length with z | z
              · exact z
              · rw [List.getElem?_eq_none z] at he
                cases he
            exact ⟨e, _, rfl, by omega, hos _ e he⟩
        refine ⟨.ref p, rfl, p, rfl, ⟨_, SqL.of ep⟩, fun D nD => lc_list (K := K) (a := p) (xs := es.map V.ref ++ os.map V.ref) (fun i H3 => Same H2 H3 ∧ H3 D = some (.lst [])) ⟨same_new nD, upd_same⟩ (fun i H3 _ q => SqL.of (q.1 _ _ ep)) ?_ ?_⟩
        · rintro i v H3 hi ⟨s3, hD⟩
          obtain ⟨e, j, rfl, hj, hE⟩ := all hi
          refine ⟨rfl, .ref e, rfl, e, a j, .ref (a 19), .ref (a 19), true, rfl, (hE.mono S).mono s3, .own _, T.ex j hj, T.kitL j hj, _, rfl, iteF ⟨s3, hD⟩⟩
        · rintro H3 ⟨s3, hD⟩
          refine ⟨.ref D, rfl, (by show 0 ≤ sizeLine; decide), fun p5 n5 => ?_⟩
          refine ⟨.list [], .list [], .lst (SqL.of (same_new n5 _ _ hD)) .nil, .lst (SqL.of upd_same) .nil, rfl, rfl, _, rfl, iteT ?_⟩
          generalize hH5 : upd H3 p5 _ = H5
          have S5 : Same H3 H5 := hH5 ▸ same_new n5
          clear hH5
          have ep5 : H5 p = some (.lst (es.map V.ref ++ os.map V.ref)) := S5 _ _ (s3 _ _ ep)
          refine ⟨.ref p, rfl, p, rfl, ⟨_, SqL.of ep5⟩, fun D2 nD2 => lc_list (K := K) (a := p) (xs := es.map V.ref ++ os.map V.ref) (fun i H6 => Same H5 H6 ∧ H6 D2 = some (.lst [])) ⟨same_new nD2, upd_same⟩ (fun i H6 _ q => SqL.of (q.1 _ _ ep5)) ?_ ?_⟩
          · rintro i v H6 hi ⟨s6, hD2⟩
            obtain ⟨e, j, rfl, hj, hE⟩ := all hi
            refine ⟨rfl, .ref e, rfl, e, a j, .ty "ValueError", .type "ValueError", true, rfl, (((hE.mono S).mono s3).mono S5).mono s6, .ty _, T.ex j hj, T.kitV j hj, _, rfl, iteF ⟨s6, hD2⟩⟩
          · rintro H6 ⟨s6, hD2⟩
            refine ⟨(by show 0 ≤ sizeLine; decide), fun p7 n7 => ?_⟩
            refine ⟨.list [], .list [], .lst (SqL.of (same_new n7 _ _ hD2)) .nil, .lst (SqL.of upd_same) .nil, rfl, rfl, ?_⟩
            exact q _ (S.trans (s3.trans (S5.trans (s6.trans (same_new n7)))))
end
end Lf
namespace Lf
open PySem PySem.Spec PyProof.Rows L2
abbrev sMade : Stmt := topS 36
/-- what is said of a class with one field -/
structure Fld (P : Program) (w : World) (K : PySem.W.Frag) (mg : Str → Option Value) (base : Heap) (C : Addr) (f : Str) where
  oex : OexC K C
  no : PySem.W.findIn K (.ref C) f = some none
  fI : Addr
  fd : FuncData
  i1 : PySem.W.findIn K (.ref C) "__init__" = some (some (.ref fI))
  i2 : PySem.W.typeIn K (.ref fI) = some (.type "function")
  i3 : FnOk P w K mg base CX0 1 fI fd ["self", f] (spInit K C f)
  i4 : Binds K fd ["self", f] []
theorem made_facts {H H1 : Hp} {x d : Addr} {ox od : HO} (nx : H x = none) (nd : H d = none) (ne : x ≠ d) (e : upd (upd H d od) x ox = H1) : Same H H1 ∧ H1 x = some ox ∧ H1 d = some od := by
  subst e
  refine ⟨fun b o z => ?_, upd_same, ?_⟩
  · rw [upd_ne (ne_of_none z nx), upd_ne (ne_of_none z nd)]
    exact z
  · rw [upd_ne (Ne.symm ne), upd_same]
def spMade (a : Nat → Addr) : Sp := fun vs H Q _ => ∃ (p : Addr) (xs : List V), vs = [.ref p] ∧ H p = some (.lst xs) ∧ xs.length = 9 ∧
  ∀ (H' : Hp) (r x y : Addr) (os : List Addr), Same H H' → H' r = some (.lst [.ref x, .ref y]) → H' x = some (.lst (os.map V.ref)) → os.length = 9 → (∀ (i : Nat) (e : Addr), os[i]? = some e → IsEx H' e (a (i + 10))) → H' y = some (.lst xs) → Q (.ref r) H'
theorem nine {xs : List V} (h : xs.length = 9) : ∃ v0 v1 v2 v3 v4 v5 v6 v7 v8, xs = [v0, v1, v2, v3, v4, v5, v6, v7, v8] :=
  match xs, h with
  | [v0, v1, v2, v3, v4, v5, v6, v7, v8], _ => ⟨v0, v1, v2, v3, v4, v5, v6, v7, v8, rfl⟩
section
variable {P : Program} {w : World} {K : PySem.W.Frag} {mg : Str → Option Value} {base : Heap} {a : Nat → Addr}
theorem scMade : FnScope ["_law_values", "_law_join", "_law_text", "_law_index", "_law_start", "_law_state", "_law_vertex", "_law_built", "_law_batch", "_law_many", "_law_fields"] ["_law_values"] (defScope sMade) := ⟨rfl, rfl, rfl, by decide +kernel, rfl, by decide +kernel, by decide +kernel⟩
theorem ok_made {f : Addr} {fd : FuncData} (F : Fun K "_law_made" "_law_made" sMade f fd) (T : Txt K mg a) (A0 : Fld P w K mg base (a 10) "index") (A1 : Fld P w K mg base (a 11) "index") (A2 : Fld P w K mg base (a 12) "index") (A3 : Fld P w K mg base (a 13) "reason") (A4 : Fld P w K mg base (a 14) "version") (A5 : Fld P w K mg base (a 15) "value") (A6 : Fld P w K mg base (a 16) "vertex") (A7 : Fld P w K mg base (a 17) "index") (A8 : Fld P w K mg base (a 18) "limit") : FnOk P w K mg base CX0 3 f fd ["_law_values"] (spMade a) := by
  refine F.ok scMade (fun vs H Q E h => ?_) (fun cdv A outer s H vs Q E hr h => ?_)
  · obtain ⟨p, xs, rfl, _⟩ := h
    rfl
  · obtain ⟨p, xs, rfl, hp, h9, q⟩ := h
    obtain ⟨v0, v1, v2, v3, v4, v5, v6, v7, v8, rfl⟩ := nine h9
    refine ⟨_, pss_cons (ps_par3 (i := 1) (j := 2) (l := 3) rfl scMade.nd rfl rfl rfl (by decide) (by decide) (by decide) rfl rfl rfl (pa_cons (pe_excF A0.oex A0.i1 A0.i2 A0.i3 hr A0.i4 (by rfl) T.g10 (pe_ix ix_list (pv 0) pe_int (fun _ _ => rfl))) (pa_cons (pe_excF A1.oex A1.i1 A1.i2 A1.i3 hr A1.i4 (by rfl) T.g11 (pe_ix ix_list (pv 0) pe_int (fun _ _ => rfl))) (pa_cons (pe_excF A2.oex A2.i1 A2.i2 A2.i3 hr A2.i4 (by rfl) T.g12 (pe_ix ix_list (pv 0) pe_int (fun _ _ => rfl))) pa_nil))) (by rfl))
      (pss_cons (ps_par3 (i := 4) (j := 5) (l := 6) rfl scMade.nd rfl rfl rfl (by decide) (by decide) (by decide) rfl rfl rfl (pa_cons (pe_excF A3.oex A3.i1 A3.i2 A3.i3 hr A3.i4 (by rfl) T.g13 (pe_ix ix_list (pv 0) pe_int (fun _ _ => rfl))) (pa_cons (pe_excF A4.oex A4.i1 A4.i2 A4.i3 hr A4.i4 (by rfl) T.g14 (pe_ix ix_list (pv 0) pe_int (fun _ _ => rfl))) (pa_cons (pe_excF A5.oex A5.i1 A5.i2 A5.i3 hr A5.i4 (by rfl) T.g15 (pe_ix ix_list (pv 0) pe_int (fun _ _ => rfl))) pa_nil))) (by rfl))
      (pss_cons (ps_par3 (i := 7) (j := 8) (l := 9) rfl scMade.nd rfl rfl rfl (by decide) (by decide) (by decide) rfl rfl rfl (pa_cons (pe_excF A6.oex A6.i1 A6.i2 A6.i3 hr A6.i4 (by rfl) T.g16 (pe_ix ix_list (pv 0) pe_int (fun _ _ => rfl))) (pa_cons (pe_excF A7.oex A7.i1 A7.i2 A7.i3 hr A7.i4 (by rfl) T.g17 (pe_ix ix_list (pv 0) pe_int (fun _ _ => rfl))) (pa_cons (pe_excF A8.oex A8.i1 A8.i2 A8.i3 hr A8.i4 (by rfl) T.g18 (pe_ix ix_list (pv 0) pe_int (fun _ _ => rfl))) pa_nil))) (by rfl))
      (pss_cons (ps_set (i := 10) scMade.nd rfl (.inl rfl) (pe_lst (pa_cons (pe_exf (T.ex 10 (by decide)) A0.no (pv 1)) (pa_cons (pe_exf (T.ex 11 (by decide)) A1.no (pv 2)) (pa_cons (pe_exf (T.ex 12 (by decide)) A2.no (pv 3)) (pa_cons (pe_exf (T.ex 13 (by decide)) A3.no (pv 4)) (pa_cons (pe_exf (T.ex 14 (by decide)) A4.no (pv 5)) (pa_cons (pe_exf (T.ex 15 (by decide)) A5.no (pv 6)) pa_nil))))))))
      (pss_cons (ps_set (i := 10) scMade.nd rfl (.inl rfl) (pe_op op_cat (pv 10) (pe_lst (pa_cons (pe_exf (T.ex 16 (by decide)) A6.no (pv 7)) (pa_cons (pe_exf (T.ex 17 (by decide)) A7.no (pv 8)) (pa_cons (pe_exf (T.ex 18 (by decide)) A8.no (pv 9)) pa_nil))))))
      (pss_one (ps_ret (pe_lst (pa_cons (pe_lst (pa_cons (pv 1) (pa_cons (pv 2) (pa_cons (pv 3) (pa_cons (pv 4) (pa_cons (pv 5) (pa_cons (pv 6) (pa_cons (pv 7) (pa_cons (pv 8) (pa_cons (pv 9) pa_nil)))))))))) (pa_cons (pv 10) pa_nil))))))))), ?_⟩
    refine ⟨.ref p, rfl, p, _, 0, v0, rfl, rfl, SqL.of (hp), atI_nat (j := 0) rfl, fun x0 d0 nx0 nd0 ne0 => ?_⟩
    generalize hH1 : upd (upd H d0 _) x0 _ = H1
    obtain ⟨S1, ex0, ed0⟩ := made_facts nx0 nd0 ne0 hH1
    clear hH1
    have s1 : Same H H1 := S1
    refine ⟨.ref p, rfl, p, _, 1, v1, rfl, rfl, SqL.of (s1 _ _ hp), atI_nat (j := 1) rfl, fun x1 d1 nx1 nd1 ne1 => ?_⟩
    generalize hH2 : upd (upd H1 d1 _) x1 _ = H2
    obtain ⟨S2, ex1, ed1⟩ := made_facts nx1 nd1 ne1 hH2
    clear hH2
    have s2 : Same H H2 := s1.trans S2
    refine ⟨.ref p, rfl, p, _, 2, v2, rfl, rfl, SqL.of (s2 _ _ hp), atI_nat (j := 2) rfl, fun x2 d2 nx2 nd2 ne2 => ?_⟩
    generalize hH3 : upd (upd H2 d2 _) x2 _ = H3
    obtain ⟨S3, ex2, ed2⟩ := made_facts nx2 nd2 ne2 hH3
    clear hH3
    have s3 : Same H H3 := s2.trans S3
    refine ⟨_, _, _, rfl, .ref p, rfl, p, _, 3, v3, rfl, rfl, SqL.of (s3 _ _ hp), atI_nat (j := 3) rfl, fun x3 d3 nx3 nd3 ne3 => ?_⟩
    generalize hH4 : upd (upd H3 d3 _) x3 _ = H4
    obtain ⟨S4, ex3, ed3⟩ := made_facts nx3 nd3 ne3 hH4
    clear hH4
    have s4 : Same H H4 := s3.trans S4
    refine ⟨.ref p, rfl, p, _, 4, v4, rfl, rfl, SqL.of (s4 _ _ hp), atI_nat (j := 4) rfl, fun x4 d4 nx4 nd4 ne4 => ?_⟩
    generalize hH5 : upd (upd H4 d4 _) x4 _ = H5
    obtain ⟨S5, ex4, ed4⟩ := made_facts nx4 nd4 ne4 hH5
    clear hH5
    have s5 : Same H H5 := s4.trans S5
    refine ⟨.ref p, rfl, p, _, 5, v5, rfl, rfl, SqL.of (s5 _ _ hp), atI_nat (j := 5) rfl, fun x5 d5 nx5 nd5 ne5 => ?_⟩
    generalize hH6 : upd (upd H5 d5 _) x5 _ = H6
    obtain ⟨S6, ex5, ed5⟩ := made_facts nx5 nd5 ne5 hH6
    clear hH6
    have s6 : Same H H6 := s5.trans S6
    refine ⟨_, _, _, rfl, .ref p, rfl, p, _, 6, v6, rfl, rfl, SqL.of (s6 _ _ hp), atI_nat (j := 6) rfl, fun x6 d6 nx6 nd6 ne6 => ?_⟩
    generalize hH7 : upd (upd H6 d6 _) x6 _ = H7
    obtain ⟨S7, ex6, ed6⟩ := made_facts nx6 nd6 ne6 hH7
    clear hH7
    have s7 : Same H H7 := s6.trans S7
    refine ⟨.ref p, rfl, p, _, 7, v7, rfl, rfl, SqL.of (s7 _ _ hp), atI_nat (j := 7) rfl, fun x7 d7 nx7 nd7 ne7 => ?_⟩
    generalize hH8 : upd (upd H7 d7 _) x7 _ = H8
    obtain ⟨S8, ex7, ed7⟩ := made_facts nx7 nd7 ne7 hH8
    clear hH8
    have s8 : Same H H8 := s7.trans S8
    refine ⟨.ref p, rfl, p, _, 8, v8, rfl, rfl, SqL.of (s8 _ _ hp), atI_nat (j := 8) rfl, fun x8 d8 nx8 nd8 ne8 => ?_⟩
    generalize hH9 : upd (upd H8 d8 _) x8 _ = H9
    obtain ⟨S9, ex8, ed8⟩ := made_facts nx8 nd8 ne8 hH9
    clear hH9
    have s9 : Same H H9 := s8.trans S9
    have k0 : Same H1 H9 := S2.trans (S3.trans (S4.trans (S5.trans (S6.trans (S7.trans (S8.trans (S9)))))))
    have fx0 := k0 _ _ ex0
    have fd0 := k0 _ _ ed0
    have k1 : Same H2 H9 := S3.trans (S4.trans (S5.trans (S6.trans (S7.trans (S8.trans (S9))))))
    have fx1 := k1 _ _ ex1
    have fd1 := k1 _ _ ed1
    have k2 : Same H3 H9 := S4.trans (S5.trans (S6.trans (S7.trans (S8.trans (S9)))))
    have fx2 := k2 _ _ ex2
    have fd2 := k2 _ _ ed2
    have k3 : Same H4 H9 := S5.trans (S6.trans (S7.trans (S8.trans (S9))))
    have fx3 := k3 _ _ ex3
    have fd3 := k3 _ _ ed3
    have k4 : Same H5 H9 := S6.trans (S7.trans (S8.trans (S9)))
    have fx4 := k4 _ _ ex4
    have fd4 := k4 _ _ ed4
    have k5 : Same H6 H9 := S7.trans (S8.trans (S9))
    have fx5 := k5 _ _ ex5
    have fd5 := k5 _ _ ed5
    have k6 : Same H7 H9 := S8.trans (S9)
    have fx6 := k6 _ _ ex6
    have fd6 := k6 _ _ ed6
    have k7 : Same H8 H9 := S9
    have fx7 := k7 _ _ ex7
    have fd7 := k7 _ _ ed7
    have fx8 := ex8
    have fd8 := ed8
    refine ⟨_, _, _, rfl, .ref x0, rfl, x0, d0, v0, rfl, fx0, fd0, .ref x1, rfl, x1, d1, v1, rfl, fx1, fd1, .ref x2, rfl, x2, d2, v2, rfl, fx2, fd2, .ref x3, rfl, x3, d3, v3, rfl, fx3, fd3, .ref x4, rfl, x4, d4, v4, rfl, fx4, fd4, .ref x5, rfl, x5, d5, v5, rfl, fx5, fd5, (by show 6 ≤ sizeLine; decide), fun q1 m1 => ?_⟩
    generalize hG1 : upd H9 q1 _ = G1
    have t1 : Same H9 G1 := hG1 ▸ same_new m1
    have z1 : G1 q1 = some (.lst [v0, v1, v2, v3, v4, v5]) := hG1 ▸ upd_same
    clear hG1
    refine ⟨.ref q1, rfl, .ref x6, rfl, x6, d6, v6, rfl, t1 _ _ fx6, t1 _ _ fd6, .ref x7, rfl, x7, d7, v7, rfl, t1 _ _ fx7, t1 _ _ fd7, .ref x8, rfl, x8, d8, v8, rfl, t1 _ _ fx8, t1 _ _ fd8, (by show 3 ≤ sizeLine; decide), fun q2 m2 => ?_⟩
    generalize hG2 : upd G1 q2 _ = G2
    have t2 : Same G1 G2 := hG2 ▸ same_new m2
    have z2 : G2 q2 = some (.lst [v6, v7, v8]) := hG2 ▸ upd_same
    clear hG2
    refine ⟨q1, q2, _, _, rfl, rfl, t2 _ _ z1, z2, (by show 9 ≤ sizeLine; decide), fun q3 m3 => ?_⟩
    generalize hG3 : upd G2 q3 _ = G3
    have t3 : Same G2 G3 := hG3 ▸ same_new m3
    have z3 : G3 q3 = some (.lst [v0, v1, v2, v3, v4, v5, v6, v7, v8]) := hG3 ▸ upd_same
    clear hG3
    refine ⟨.ref x0, rfl, .ref x1, rfl, .ref x2, rfl, .ref x3, rfl, .ref x4, rfl, .ref x5, rfl, .ref x6, rfl, .ref x7, rfl, .ref x8, rfl, (by show 9 ≤ sizeLine; decide), fun q4 m4 => ?_⟩
    generalize hG4 : upd G3 q4 _ = G4
    have t4 : Same G3 G4 := hG4 ▸ same_new m4
    have z4 : G4 q4 = some (.lst ([x0, x1, x2, x3, x4, x5, x6, x7, x8].map V.ref)) := hG4 ▸ upd_same
    clear hG4
    refine ⟨.ref q3, rfl, (by show 2 ≤ sizeLine; decide), fun q5 m5 => ?_⟩
    have t5 := same_new (o := .lst [V.ref q4, V.ref q3]) m5
    have up : Same H9 (upd G4 q5 (.lst [V.ref q4, V.ref q3])) := t1.trans (t2.trans (t3.trans (t4.trans t5)))
    refine q _ q5 q4 q3 [x0, x1, x2, x3, x4, x5, x6, x7, x8] (s9.trans up) upd_same (t5 _ _ z4) rfl ?_ (t5 _ _ (t4 _ _ z3))
    intro i e he
    match i, he with
    | 0, he =>
      cases he
      exact .inr ⟨d0, _, up _ _ fx0, up _ _ fd0⟩
    | 1, he =>
      cases he
      exact .inr ⟨d1, _, up _ _ fx1, up _ _ fd1⟩
    | 2, he =>
      cases he
      exact .inr ⟨d2, _, up _ _ fx2, up _ _ fd2⟩
    | 3, he =>
      cases he
      exact .inr ⟨d3, _, up _ _ fx3, up _ _ fd3⟩
    | 4, he =>
      cases he
      exact .inr ⟨d4, _, up _ _ fx4, up _ _ fd4⟩
    | 5, he =>
      cases he
      exact .inr ⟨d5, _, up _ _ fx5, up _ _ fd5⟩
    | 6, he =>
      cases he
      exact .inr ⟨d6, _, up _ _ fx6, up _ _ fd6⟩
    | 7, he =>
      cases he
      exact .inr ⟨d7, _, up _ _ fx7, up _ _ fd7⟩
    | 8, he =>
      cases he
      exact .inr ⟨d8, _, up _ _ fx8, up _ _ fd8⟩
    | n + 9, he => exact nomatch he
end
end Lf
namespace Lf
open PySem PySem.Spec PyProof.Rows L2
abbrev sLaw : Stmt := topS 37
def spLaw (K : PySem.W.Frag) : Sp := fun vs H Q _ => ∃ (a : Addr) (ns : List Int), vs = [.ref a] ∧ SqL K H a (ns.map V.int) ∧ ns.length ≤ 63 ∧ ∀ H', Q (.bl true) H'
/-- the limits' values -/
structure Lim (mg : Str → Option Value) : Prop where
  l0 : ∃ t, mg "MAX_VERTICES" = some (.int 24 t)
  l1 : ∃ t, mg "LISTED" = some (.int 2000 t)
  l2 : ∃ t, mg "SHAPE_VERTICES" = some (.int 60 t)
  l3 : ∃ t, mg "BATCH" = some (.int 20 t)
  l4 : ∃ t, mg "HISTORY" = some (.int 30 t)
  l5 : ∃ t, mg "MAX_COUNT" = some (.int 1000000000000 t)
  l6 : ∃ t, mg "MAX_FORESTS" = some (.int 8 t)
/-- the heap without the well and the list at D -/
def hid3 (w l D : Addr) (H : Hp) : Hp := fun b => if b = w ∨ b = l ∨ b = D then none else H b
theorem hid3_of {w l D b : Addr} {H : Hp} {o : HO} (e : hid3 w l D H b = some o) : b ≠ w ∧ b ≠ l ∧ b ≠ D ∧ H b = some o := by
  unfold hid3 at e
  by_cases z : b = w ∨ b = l ∨ b = D
  · rw [if_pos z] at e
    cases e
  · rw [if_neg z] at e
    exact ⟨fun y => z (.inl y), fun y => z (.inr (.inl y)), fun y => z (.inr (.inr y)), e⟩
theorem hid3_to {w l D b : Addr} {H : Hp} {o : HO} (h1 : b ≠ w) (h2 : b ≠ l) (h3 : b ≠ D) (e : H b = some o) : hid3 w l D H b = some o := by
  unfold hid3
  rw [if_neg (fun z => z.elim h1 fun y => y.elim h2 h3)]
  exact e
theorem RpAll.snoc {H : Hp} {v : V} {d : PyData} (h : Rp H v d) : ∀ {vs : List V} {ds : List PyData}, RpAll H vs ds → RpAll H (vs ++ [v]) (ds ++ [d])
  | _, _, .nil => .cons h .nil
  | _, _, .cons q r => .cons q (RpAll.snoc h r)
theorem odd_all : ∀ {ds : List PyData}, (∀ d ∈ ds, Odd d) → PyData.showableAll ds = true ∧ PyData.depthAll ds ≤ 4 ∧ ((PyData.shownAll ds).map (·.length)).sum ≤ 100 * ds.length ∧ (PyData.shownAll ds).length = ds.length
  | [], _ => ⟨rfl, Nat.zero_le _, Nat.zero_le _, rfl⟩
  | d :: ds, h => by
    obtain ⟨h1, h2, h3, h4⟩ := odd_all (ds := ds) fun e he => h e (List.mem_cons_of_mem _ he)
    have o := h d List.mem_cons_self
    refine ⟨?_, ?_, ?_, ?_⟩
    · show (PyData.showable d && PyData.showableAll ds) = true
      rw [o.shows, h1]
      rfl
    · show max (PyData.depth d) (PyData.depthAll ds) ≤ 4
      exact Nat.max_le.mpr ⟨o.deep, h2⟩
    · show (PyData.shown d).length + ((PyData.shownAll ds).map (·.length)).sum ≤ 100 * (ds.length + 1)
      have := o.short
      omega
    · show (PyData.shownAll ds).length + 1 = ds.length + 1
      rw [h4]
theorem RpAll.len {H : Hp} : ∀ {vs : List V} {ds : List PyData}, RpAll H vs ds → vs.length = ds.length
  | _, _, .nil => rfl
  | _, _, .cons _ r => by rw [List.length_cons, List.length_cons, RpAll.len r]
section
variable {P : Program} {w : World} {K : PySem.W.Frag} {mg : Str → Option Value} {base : Heap} {a : Nat → Addr}
abbrev NL : List Str := ["_law_script", "_law_well_here", "_law_values", "_law_others", "_law_fields", "_law_errors", "_law_limits", "_law_k"]
theorem scLaw : FnScope NL ["_law_script"] (defScope sLaw) := ⟨rfl, rfl, rfl, by decide +kernel, rfl, by decide +kernel, by decide +kernel⟩
theorem ok_law {f fW fO fM fA : Addr} {fd fdW fdO fdM fdA : FuncData} (Fn : Fun K "law" "law" sLaw f fd) (T : Txt K mg a) (L : Lim mg) (sys : ∃ o, base.get? sysModules = some o)
    (FW : Fun K "_law_well" "_law_well" sWell fW fdW) (bW : Binds K fdW ["_law_script"] []) (gW : mg "_law_well" = some (.ref fW)) (GW : FnOk P w K mg base CX0 1 fW fdW ["_law_script"] (spWell K))
    (FO : Fun K "_law_odd" "_law_odd" sOdd fO fdO) (bO : Binds K fdO ["_law_well_here"] []) (gO : mg "_law_odd" = some (.ref fO)) (GO : FnOk P w K mg base CX0 3 fO fdO ["_law_well_here"] spOdd)
    (FM : Fun K "_law_made" "_law_made" sMade fM fdM) (bM : Binds K fdM ["_law_values"] []) (gM : mg "_law_made" = some (.ref fM)) (GM : FnOk P w K mg base CX0 3 fM fdM ["_law_values"] (spMade a))
    (FA : Fun K "_law_alone" "_law_alone" sAlone fA fdA) (bA : Binds K fdA ["_law_errors", "_law_others"] []) (gA : mg "_law_alone" = some (.ref fA)) (GA : FnOk P w K mg base CX0 2 fA fdA ["_law_errors", "_law_others"] (spAlone a)) :
    RunG P w K mg base 4 f fd ["_law_script"] (spLaw K) := by
  obtain ⟨t0, L0⟩ := L.l0
  obtain ⟨t1, L1⟩ := L.l1
  obtain ⟨t2, L2'⟩ := L.l2
  obtain ⟨t3, L3⟩ := L.l3
  obtain ⟨t4, L4⟩ := L.l4
  obtain ⟨t5, L5⟩ := L.l5
  obtain ⟨t6, L6⟩ := L.l6
  refine runG_of Fn scLaw (fun vs H Q E h => ?_) (fun cdv A outer s H vs Q E hgu hr h => ?_)
  · obtain ⟨b, ns, rfl, _⟩ := h
    rfl
  · obtain ⟨b, ns, rfl, hS, hlen, q⟩ := h
    have hr1 : Room 1 _ := hr.mono (by decide)
    have hr2 : Room 2 _ := hr.mono (by decide)
    have hun : (A.deeper (envOfC "law" (defScope sLaw) s.heap.objs.size f cdv)).units + 200 < cLine := by have := hr.un; omega
    refine ⟨_, pss_cons (ps_set (i := 1) scLaw.nd rfl (.inr rfl) (pe_call GW hr1 (by rfl) gW FW.kp bW .nil pass0 (pa_cons (pv 0) pa_nil)))
      (pss_cons (ps_setLc (i := 2) (own := [("_law_k", 7)]) (g := gName 7) (tt := tYes) (te := tCall spOdd [] E0 (tCons (tVar 1) tNil)) (by rfl) scLaw.nd rfl rfl (sw_true rfl rfl rfl (by decide +kernel)) (pi_range1 (by rfl) T.mr (pa_cons pe_int pa_nil))
          (blkOk_by (own := [("_law_k", 7)]) (N := NL) (sc := defScope sLaw) (by decide +kernel)) (fun _ _ _ _ _ => pg_name (i := 7) scLaw.nd rfl (Or.inl rfl)) (fun _ _ _ _ _ => pts_nil)
          (fun _ _ _ _ _ => pe_call GO hr (by rfl) gO FO.kp bO .nil pass0 (pa_cons (pv 1) pa_nil)))
      (pss_cons (ps_asg (pe_call GM hr (by rfl) gM FM.kp bM .nil pass0 (pa_cons (pv 2) pa_nil)) (pg_unl rfl (pgs_cons (pg_name (i := 3) scLaw.nd rfl (.inl rfl)) (pgs_cons (pg_name (i := 4) scLaw.nd rfl (.inl rfl)) pgs_nil))))
      (pss_cons (ps_set (i := 5) scLaw.nd rfl (.inl rfl) (pe_lst (pa_cons (pe_exc0 PySem.F.excBase_ValueError (T.xc 0 (by decide)) T.g0 (T.kp 0 (by decide)) (by rfl)) (pa_cons (pe_exc0 PySem.F.excBase_ValueError (T.xc 1 (by decide)) T.g1 (T.kp 1 (by decide)) (by rfl)) (pa_cons (pe_exc0 PySem.F.excBase_ValueError (T.xc 2 (by decide)) T.g2 (T.kp 2 (by decide)) (by rfl)) (pa_cons (pe_exc0 PySem.F.excBase_ValueError (T.xc 3 (by decide)) T.g3 (T.kp 3 (by decide)) (by rfl)) (pa_cons (pe_exc0 PySem.F.excBase_ValueError (T.xc 4 (by decide)) T.g4 (T.kp 4 (by decide)) (by rfl)) (pa_cons (pe_exc0 PySem.F.excBase_ValueError (T.xc 5 (by decide)) T.g5 (T.kp 5 (by decide)) (by rfl)) (pa_cons (pe_exc0 PySem.F.excBase_ValueError (T.xc 6 (by decide)) T.g6 (T.kp 6 (by decide)) (by rfl)) (pa_cons (pe_exc0 PySem.F.excBase_ValueError (T.xc 7 (by decide)) T.g7 (T.kp 7 (by decide)) (by rfl)) pa_nil))))))))))
      (pss_cons (ps_set (i := 5) scLaw.nd rfl (.inl rfl) (pe_op op_cat (pv 5) (pe_lst (pa_cons (pe_exc0 PySem.F.excBase_ValueError (T.xc 8 (by decide)) T.g8 (T.kp 8 (by decide)) (by rfl)) (pa_cons (pe_exc0 PySem.F.excBase_ValueError (T.xc 9 (by decide)) T.g9 (T.kp 9 (by decide)) (by rfl)) pa_nil)))))
      (pss_cons (ps_if (PW.pt (pw_or (pt_cmpR op_ne (pe_callB (call_repr sys hgu hun) (by rfl) T.mp (by decide +kernel) (pa_cons (pv 4) pa_nil)) (pe_callB (call_repr sys hgu hun) (by rfl) T.mp (by decide +kernel) (pa_cons (pv 2) pa_nil)) (nomark _)) (pw_or1 (pt_not (pt_val (pe_call GA hr2 (by rfl) gA FA.kp bA .nil pass0 (pa_cons (pv 5) (pa_cons (pv 3) pa_nil))))))))
          (pss_one (ps_ret pe_bl)) pss_nil)
      (pss_cons (ps_set (i := 6) scLaw.nd rfl (.inl rfl) (pe_lst (pa_cons (pe_glob (v := .int 24) rfl L0 ⟨_, rfl⟩) (pa_cons (pe_glob (v := .int 2000) rfl L1 ⟨_, rfl⟩) (pa_cons (pe_glob (v := .int 60) rfl L2' ⟨_, rfl⟩) (pa_cons (pe_glob (v := .int 20) rfl L3 ⟨_, rfl⟩) (pa_cons (pe_glob (v := .int 30) rfl L4 ⟨_, rfl⟩) (pa_cons (pe_glob (v := .int 1000000000000) rfl L5 ⟨_, rfl⟩) (pa_cons (pe_glob (v := .int 8) rfl L6 ⟨_, rfl⟩) pa_nil)))))))))
      (pss_one (ps_ret (pe_cmpR op_eq (pe_callB (call_repr sys hgu hun) (by rfl) T.mp (by decide +kernel) (pa_cons (pv 6) pa_nil)) (pe_callB (call_repr sys hgu hun) (by rfl) T.mp (by decide +kernel) (pa_cons (pe_lst (pa_cons pe_int (pa_cons pe_int (pa_cons pe_int (pa_cons pe_int (pa_cons pe_int (pa_cons (pe_op op_pow pe_int pe_int) (pa_cons pe_int pa_nil)))))))) pa_nil)) (nomark _)))))))))), ?_⟩
    refine ⟨.ref b, rfl, b, ns, rfl, hS, hlen, fun H1 wl l sm1 hW nw nl => ?_⟩
    refine ⟨9, rfl, by decide, by decide, fun D nD => lc_range (lo := 0) (n := 9) (fun k H2 => Well wl l H2 ∧ ∃ vs ds, H2 D = some (.lst vs) ∧ vs.length = k ∧ RpAll (hid3 wl l D H2) vs ds ∧ ∀ d ∈ ds, Odd d) ⟨hW.same (same_new nD), [], [], upd_same, rfl, .nil, fun _ z => nomatch z⟩ ?_ ?_⟩
    · rintro k H2 hk ⟨hW2, vs, ds, hD, hv, hR, hO⟩
      obtain ⟨nwl, xs0, st0, hw0, hl0, _⟩ := id hW2
      obtain ⟨_, xs1, st1, hw1, hl1, _⟩ := hW
      have Dw : D ≠ wl := (ne_of_none hw1 nD).symm
      have Dl : D ≠ l := (ne_of_none hl1 nD).symm
      refine ⟨rfl, ?_⟩
      dsimp only [tYes]
      rw [if_pos rfl]
      refine ⟨.ref wl, rfl, wl, l, rfl, hW2, fun v d H3 rp odd hW3 kp => ?_⟩
      have hD3 : H3 D = some (.lst vs) := kp _ _ Dw Dl hD
      refine ⟨vs, hD3, small1000 (by omega), ?_, vs ++ [v], ds ++ [d], upd_same, ?_, ?_, ?_⟩
      · obtain ⟨n3, x3, st3, hw3, hl3, r3⟩ := hW3
        exact ⟨n3, x3, st3, by rw [upd_ne Dw.symm]; exact hw3, by rw [upd_ne Dl.symm]; exact hl3, r3⟩
      · rw [List.length_append, hv]
        rfl
      · refine RpAll.snoc (rp.mono fun c o e => ?_) (hR.mono fun c o e => ?_)
        · obtain ⟨h1, h2⟩ := of_fresh e
          have cD : c ≠ D := (ne_of_none hD h1).symm
          refine hid3_to (ne_of_none hw0 h1).symm (ne_of_none hl0 h1).symm cD ?_
          rw [upd_ne cD]
          exact h2
        · obtain ⟨h1, h2, h3, h4⟩ := hid3_of e
          refine hid3_to h1 h2 h3 ?_
          rw [upd_ne h3]
          exact kp _ _ h1 h2 h4
      · intro e he
        rcases List.mem_append.mp he with z | z
        · exact hO e z
        · rw [List.mem_singleton.mp z]
          exact odd
    · rintro H2 ⟨hW2, vs, ds, hD, hv, hR, hO⟩
      have hR2 : RpAll H2 vs ds := hR.mono fun c o e => (hid3_of e).2.2.2
      obtain ⟨a1, a2, a3, a4⟩ := odd_all hO
      have ld : ds.length = 9 := by rw [← hR.len, hv]
      have fit : (listText (PyData.shownAll ds)).length ≤ sizeLine := by
        have := listText_len_le (PyData.shownAll ds)
        rw [a4, ld] at this
        rw [ld] at a3
        rw [sizeLine_eq]
        omega
      refine ⟨.ref D, rfl, D, vs, rfl, hD, hv, fun H3 r x y os sm3 hr3 hx3 ho hos hy => ?_⟩
      refine ⟨r, _, rfl, SqL.of hr3, rfl, _, _, rfl, _, _, rfl, rfl, ?_⟩
      refine fun p0 n0 => ?_
      generalize hJ0 : upd H3 p0 _ = J0
      have S0 : Same H3 J0 := hJ0 ▸ same_new n0
      have e0 : J0 p0 = some (exo p0 (a 0) none) := hJ0 ▸ upd_same
      clear hJ0
      refine fun p1 n1 => ?_
      generalize hJ1 : upd J0 p1 _ = J1
      have S1 : Same J0 J1 := hJ1 ▸ same_new n1
      have e1 : J1 p1 = some (exo p1 (a 1) none) := hJ1 ▸ upd_same
      clear hJ1
      refine fun p2 n2 => ?_
      generalize hJ2 : upd J1 p2 _ = J2
      have S2 : Same J1 J2 := hJ2 ▸ same_new n2
      have e2 : J2 p2 = some (exo p2 (a 2) none) := hJ2 ▸ upd_same
      clear hJ2
      refine fun p3 n3 => ?_
      generalize hJ3 : upd J2 p3 _ = J3
      have S3 : Same J2 J3 := hJ3 ▸ same_new n3
      have e3 : J3 p3 = some (exo p3 (a 3) none) := hJ3 ▸ upd_same
      clear hJ3
      refine fun p4 n4 => ?_
      generalize hJ4 : upd J3 p4 _ = J4
      have S4 : Same J3 J4 := hJ4 ▸ same_new n4
      have e4 : J4 p4 = some (exo p4 (a 4) none) := hJ4 ▸ upd_same
      clear hJ4
      refine fun p5 n5 => ?_
      generalize hJ5 : upd J4 p5 _ = J5
      have S5 : Same J4 J5 := hJ5 ▸ same_new n5
      have e5 : J5 p5 = some (exo p5 (a 5) none) := hJ5 ▸ upd_same
      clear hJ5
      refine fun p6 n6 => ?_
      generalize hJ6 : upd J5 p6 _ = J6
      have S6 : Same J5 J6 := hJ6 ▸ same_new n6
      have e6 : J6 p6 = some (exo p6 (a 6) none) := hJ6 ▸ upd_same
      clear hJ6
      refine fun p7 n7 => ?_
      generalize hJ7 : upd J6 p7 _ = J7
      have S7 : Same J6 J7 := hJ7 ▸ same_new n7
      have e7 : J7 p7 = some (exo p7 (a 7) none) := hJ7 ▸ upd_same
      clear hJ7
      refine ⟨(by show 8 ≤ sizeLine; decide), fun q1 m1 => ?_⟩
      generalize hG1 : upd J7 q1 _ = G1
      have T1 : Same J7 G1 := hG1 ▸ same_new m1
      have z1 : G1 q1 = some (.lst [.ref p0, .ref p1, .ref p2, .ref p3, .ref p4, .ref p5, .ref p6, .ref p7]) := hG1 ▸ upd_same
      clear hG1
      refine ⟨.ref q1, rfl, fun p8 n8 => ?_⟩
      generalize hJ8 : upd G1 p8 _ = J8
      have S8 : Same G1 J8 := hJ8 ▸ same_new n8
      have e8 : J8 p8 = some (exo p8 (a 8) none) := hJ8 ▸ upd_same
      clear hJ8
      refine fun p9 n9 => ?_
      generalize hJ9 : upd J8 p9 _ = J9
      have S9 : Same J8 J9 := hJ9 ▸ same_new n9
      have e9 : J9 p9 = some (exo p9 (a 9) none) := hJ9 ▸ upd_same
      clear hJ9
      refine ⟨(by show 2 ≤ sizeLine; decide), fun q2 m2 => ?_⟩
      generalize hG2 : upd J9 q2 _ = G2
      have T2 : Same J9 G2 := hG2 ▸ same_new m2
      have z2 : G2 q2 = some (.lst [.ref p8, .ref p9]) := hG2 ▸ upd_same
      clear hG2
      refine ⟨q1, q2, _, _, rfl, rfl, T2 _ _ (S9 _ _ (S8 _ _ z1)), z2, (by show 10 ≤ sizeLine; decide), fun q3 m3 => ?_⟩
      generalize hG3 : upd G2 q3 _ = G3
      have T3 : Same G2 G3 := hG3 ▸ same_new m3
      have z3 : G3 q3 = some (.lst ([p0, p1, p2, p3, p4, p5, p6, p7, p8, p9].map V.ref)) := hG3 ▸ upd_same
      clear hG3
      have c9 : Same J9 G3 := T2.trans T3
      have c8 : Same J8 G3 := S9.trans c9
      have c7 : Same J7 G3 := T1.trans (S8.trans c8)
      have c6 : Same J6 G3 := S7.trans c7
      have c5 : Same J5 G3 := S6.trans c6
      have c4 : Same J4 G3 := S5.trans c5
      have c3 : Same J3 G3 := S4.trans c4
      have c2 : Same J2 G3 := S3.trans c3
      have c1 : Same J1 G3 := S2.trans c2
      have c0 : Same J0 G3 := S1.trans c1
      have cc : Same H3 G3 := S0.trans c0
      have show1 : PyData.showable (.list ds) = true := a1
      have show2 : PyData.depth (.list ds) ≤ 100 := by
        show PyData.depthAll ds + 1 ≤ 100
        omega
      have hR3 : RpAll G3 vs ds := (hR2.mono sm3).mono cc
      refine ⟨.ref y, rfl, y, .list ds, rfl, .lst (cc _ _ hy) hR3, show1, show2, fit, .ref D, rfl, D, .list ds, rfl, .lst (cc _ _ (sm3 _ _ hD)) hR3, show1, show2, fit, rfl, _, rfl, iteNS rfl ?_⟩
      refine ⟨.ref q3, rfl, .ref x, rfl, q3, x, [p0, p1, p2, p3, p4, p5, p6, p7, p8, p9], os, rfl, z3, cc _ _ hx3, rfl, ho, ?_, fun i e he => (hos i e he).mono cc, fun H4 S4' => ?_⟩
      · intro i e he
        match i, he with
        | 0, he =>
          cases he
          exact .inl (c0 _ _ e0)
        | 1, he =>
          cases he
          exact .inl (c1 _ _ e1)
        | 2, he =>
          cases he
          exact .inl (c2 _ _ e2)
        | 3, he =>
          cases he
          exact .inl (c3 _ _ e3)
        | 4, he =>
          cases he
          exact .inl (c4 _ _ e4)
        | 5, he =>
          cases he
          exact .inl (c5 _ _ e5)
        | 6, he =>
          cases he
          exact .inl (c6 _ _ e6)
        | 7, he =>
          cases he
          exact .inl (c7 _ _ e7)
        | 8, he =>
          cases he
          exact .inl (c8 _ _ e8)
        | 9, he =>
          cases he
          exact .inl (c9 _ _ e9)
        | n + 10, he => exact nomatch he
      · refine ⟨_, rfl, iteF ?_⟩
        refine ⟨(by show 7 ≤ sizeLine; decide), fun k1 o1 => ?_⟩
        generalize hK1 : upd H4 k1 _ = K1
        have U1 : K1 k1 = some (.lst [.int 24, .int 2000, .int 60, .int 20, .int 30, .int 1000000000000, .int 8]) := hK1 ▸ upd_same
        clear hK1
        refine ⟨.ref k1, rfl, k1, .list [.int 24, .int 2000, .int 60, .int 20, .int 30, .int 1000000000000, .int 8], rfl, .lst U1 (.cons (.int _) (.cons (.int _) (.cons (.int _) (.cons (.int _) (.cons (.int _) (.cons (.int _) (.cons (.int _) .nil))))))), by decide +kernel, by decide +kernel, by decide +kernel, ?_⟩
        refine ⟨10, 12, rfl, rfl, ⟨by decide, by decide, by decide⟩, (by show 7 ≤ sizeLine; decide), fun k2 o2 => ?_⟩
        refine ⟨k2, .list [.int 24, .int 2000, .int 60, .int 20, .int 30, .int 1000000000000, .int 8], rfl, .lst upd_same (.cons (.int _) (.cons (.int _) (.cons (.int _) (.cons (.int _) (.cons (.int _) (.cons (.int _) (.cons (.int _) .nil))))))), by decide +kernel, by decide +kernel, by decide +kernel, rfl, ?_⟩
        rw [decide_eq_true rfl]
        exact q _
end
end Lf
namespace Lf
open PySem PySem.Spec PyProof.Rows L2
def initS (i : Nat) : Stmt := match topS i with
  | .ClassDef (body := b) .. => b.getD 0 (.Pass ⟨0, 0, 0, 0⟩)
  | _ => .Pass ⟨0, 0, 0, 0⟩
/-- a class of the text whose __init__ keeps one field -/
theorem fld_mk {P : Program} {w : World} {K : PySem.W.Frag} {mg : Str → Option Value} {C fI : Addr} {f qual : Str} {st : Stmt} {nm q : Str} {N : Addr} {bs bm : List Value} {sn : List Str} {sub : List Value} {ab : Bool} {col : Option Bool} {dd : Option Addr} {m0 m1 m2 m3 m5 : Option Value}
    {od an : Option Addr} {sl : Array (Option Value)} {oc kV dc pm cd ct : Value}
    (xL : K.lookup C = some (excClassObj nm q C N bs bm true sn sub ab col dd m0 m1 m2 m3 m5 "ValueError.__new__")) (hb : PySem.HandSPX.refsVE bm = true)
    (sa : PySem.W.findIn K (.ref C) "__setattr__" = some (some (.builtin "object.__setattr__"))) (nb : PySem.W.findIn K (.ref C) f = some none) (a1 : PySem.W.findIn K (.ref C) "__init__" = some (some (.ref fI))) (t1 : PySem.W.typeIn K (.ref fI) = some (.type "function"))
    (l1 : K.lookup fI = some ⟨oc, od, .func (PySem.W.fnOf "__init__" qual (defArgs st) (defBody st) (defScope st) .none kV dc pm an cd ct), sl⟩) (c1 : PySem.W.codeIn K cd qual = true) (k1 : PySem.W.keepIn K (.ref fI) = true)
    (eC : PySem.W.subIn K (.ref C) (.type "BaseException") = some true) (tC : PySem.W.typeIn K (.ref C) = some (.type "type")) (kC : PySem.W.keepIn K (.ref C) = true)
    (Sc : FnScope ["self", f] ["self", f] (defScope st)) (body : ∃ q1 q2 q3 q4, defBody st = [.Assign [.Attribute (.Name "self" q1) f q2] (.Name f q3) q4]) (v0 : Vis (defScope st) "self") (v1 : Vis (defScope st) f) (d1 : (f == Str.ofString "__debug__") = false) (d2 : (f == Str.ofString "__classdict__") = false)
    (bd : ∀ (kV doc pm : Value) (an : Option Addr) (cdv ct : Value) (us : List Value), us.length = (["self", f] : List Str).length → bindArgs (PySem.W.fnOf "__init__" qual (defArgs st) (defBody st) (defScope st) .none kV doc pm an cdv ct) ⟨us, []⟩ = pure ((["self", f] : List Str).zip us)) (base : Heap) :
    Nonempty (Fld P w K mg base C f) := by
  have T : OexC K C := ⟨⟨nm, q, N, bs, bm, sn, sub, ab, col, dd, m0, m1, m2, m3, m5, xL, hb⟩, sa, eC, tC, kC⟩
  have Fn := fun_mk (st := st) l1 c1 k1
  exact ⟨{ oex := T, no := nb, fI := fI, fd := _, i1 := a1, i2 := t1, i3 := ok_init Fn Sc T nb body v0 v1 d1 d2, i4 := Fn.binds bd }⟩
theorem scBadJoin : FnScope ["self", "index"] ["self", "index"] (defScope (initS 4)) := ⟨rfl, rfl, rfl, by decide +kernel, rfl, by decide +kernel, by decide +kernel⟩
theorem bdBadJoin : ∃ q1 q2 q3 q4, defBody (initS 4) = [.Assign [.Attribute (.Name "self" q1) "index" q2] (.Name "index" q3) q4] := ⟨_, _, _, _, rfl⟩
theorem scBadText : FnScope ["self", "index"] ["self", "index"] (defScope (initS 6)) := ⟨rfl, rfl, rfl, by decide +kernel, rfl, by decide +kernel, by decide +kernel⟩
theorem bdBadText : ∃ q1 q2 q3 q4, defBody (initS 6) = [.Assign [.Attribute (.Name "self" q1) "index" q2] (.Name "index" q3) q4] := ⟨_, _, _, _, rfl⟩
theorem scNoIndex : FnScope ["self", "index"] ["self", "index"] (defScope (initS 10)) := ⟨rfl, rfl, rfl, by decide +kernel, rfl, by decide +kernel, by decide +kernel⟩
theorem bdNoIndex : ∃ q1 q2 q3 q4, defBody (initS 10) = [.Assign [.Attribute (.Name "self" q1) "index" q2] (.Name "index" q3) q4] := ⟨_, _, _, _, rfl⟩
theorem scNoStart : FnScope ["self", "reason"] ["self", "reason"] (defScope (initS 11)) := ⟨rfl, rfl, rfl, by decide +kernel, rfl, by decide +kernel, by decide +kernel⟩
theorem bdNoStart : ∃ q1 q2 q3 q4, defBody (initS 11) = [.Assign [.Attribute (.Name "self" q1) "reason" q2] (.Name "reason" q3) q4] := ⟨_, _, _, _, rfl⟩
theorem scNoVersion : FnScope ["self", "version"] ["self", "version"] (defScope (initS 12)) := ⟨rfl, rfl, rfl, by decide +kernel, rfl, by decide +kernel, by decide +kernel⟩
theorem bdNoVersion : ∃ q1 q2 q3 q4, defBody (initS 12) = [.Assign [.Attribute (.Name "self" q1) "version" q2] (.Name "version" q3) q4] := ⟨_, _, _, _, rfl⟩
theorem scNoVertex : FnScope ["self", "value"] ["self", "value"] (defScope (initS 13)) := ⟨rfl, rfl, rfl, by decide +kernel, rfl, by decide +kernel, by decide +kernel⟩
theorem bdNoVertex : ∃ q1 q2 q3 q4, defBody (initS 13) = [.Assign [.Attribute (.Name "self" q1) "value" q2] (.Name "value" q3) q4] := ⟨_, _, _, _, rfl⟩
theorem scNotBuilt : FnScope ["self", "vertex"] ["self", "vertex"] (defScope (initS 14)) := ⟨rfl, rfl, rfl, by decide +kernel, rfl, by decide +kernel, by decide +kernel⟩
theorem bdNotBuilt : ∃ q1 q2 q3 q4, defBody (initS 14) = [.Assign [.Attribute (.Name "self" q1) "vertex" q2] (.Name "vertex" q3) q4] := ⟨_, _, _, _, rfl⟩
theorem scRejected : FnScope ["self", "index"] ["self", "index"] (defScope (initS 16)) := ⟨rfl, rfl, rfl, by decide +kernel, rfl, by decide +kernel, by decide +kernel⟩
theorem bdRejected : ∃ q1 q2 q3 q4, defBody (initS 16) = [.Assign [.Attribute (.Name "self" q1) "index" q2] (.Name "index" q3) q4] := ⟨_, _, _, _, rfl⟩
theorem scTooMany : FnScope ["self", "limit"] ["self", "limit"] (defScope (initS 19)) := ⟨rfl, rfl, rfl, by decide +kernel, rfl, by decide +kernel, by decide +kernel⟩
theorem bdTooMany : ∃ q1 q2 q3 q4, defBody (initS 19) = [.Assign [.Attribute (.Name "self" q1) "limit" q2] (.Name "limit" q3) q4] := ⟨_, _, _, _, rfl⟩
/-- what is read off the classes, as one test -/
def exB (K : PySem.W.Frag) (C : Addr) : Bool :=
  (PySem.W.clsIn K C).isSome && (decide (PySem.W.findIn K (.ref C) "__getattribute__" = some (some (.builtin "BaseException.__getattribute__"))) && (decide (PySem.W.findIn K (.ref C) "__getattr__" = some none) && (decide (PySem.W.subIn K (.ref C) (.type "BaseException") = some true) &&
  (decide (PySem.W.findIn K (.ref C) "__class__" = some (some (.builtin "object.__class__"))) && (decide (PySem.W.specialIn K (.builtin "object.__class__") "__get__" = some (some (.builtin "getset_descriptor.__get__"))) && (decide (PySem.W.takesIn K (.builtin "object.__class__") = some true) && (decide (PySem.W.mroIn K C (.type "object") = some true) && PySem.W.hasDictIn K C)))))))
theorem exB_ok {K : PySem.W.Frag} {C : Addr} (h : exB K C = true) : ExK K C := by
  obtain ⟨h1, h⟩ := Bool.and_eq_true_iff.mp h
  obtain ⟨h2, h⟩ := Bool.and_eq_true_iff.mp h
  obtain ⟨h3, h⟩ := Bool.and_eq_true_iff.mp h
  obtain ⟨h4, h⟩ := Bool.and_eq_true_iff.mp h
  obtain ⟨h5, h⟩ := Bool.and_eq_true_iff.mp h
  obtain ⟨h6, h⟩ := Bool.and_eq_true_iff.mp h
  obtain ⟨h7, h⟩ := Bool.and_eq_true_iff.mp h
  obtain ⟨h8, h9⟩ := Bool.and_eq_true_iff.mp h
  exact ⟨h1, of_decide_eq_true h2, of_decide_eq_true h3, of_decide_eq_true h4, of_decide_eq_true h5, of_decide_eq_true h6, of_decide_eq_true h7, of_decide_eq_true h8, h9⟩
def rowB (K : PySem.W.Frag) (a : Nat → Addr) (i : Nat) : Bool :=
  exB K (a i) && (decide (PySem.W.kitOne K (.ref (a i)) (.ref (a 19)) = some true) && (decide (PySem.W.kitOne K (.ref (a i)) (.type "ValueError") = some true) && (List.range 19).all fun j => decide (PySem.W.kitOne K (.ref (a i)) (.ref (a j)) = some (decide (i = j)))))
def allB (K : PySem.W.Frag) (a : Nat → Addr) : Bool :=
  (List.range 19).all (rowB K a) && (List.range 10).all fun i => PySem.W.excIn K (a i) [.type "ValueError", .type "Exception", .type "BaseException", .type "object"] "ValueError.__new__" && PySem.W.keepIn K (.ref (a i))
theorem all_range {n : Nat} {p : Nat → Bool} (h : (List.range n).all p = true) (i : Nat) (hi : i < n) : p i = true := List.all_eq_true.mp h i (List.mem_range.mpr hi)
theorem all_mk {l : PySem.W.OpenLaw} {w : World} {K : PySem.W.Frag} {h : Heap} {mg : Str → Option Value} {fa : Addr} {q : Program} (X : K.In h) (G : h.Ns mainGlobals mg) (xl : PySem.W.XL q [(Str.ofString "MAX_COUNT", PySem.W.WData.int 1000000000000)] mg h) (hfa : mg "law" = some (.ref fa))
    {C0 C1 C2 C3 C4 C5 C6 C7 C8 C9 C10 C11 C12 C13 C14 C15 C16 C17 C18 C19 : Addr}
    (g0 : PySem.W.nsIn K mainGlobals "BadBatch" = some (some (.ref C0)))
    (g1 : PySem.W.nsIn K mainGlobals "BadCount" = some (some (.ref C1)))
    (g2 : PySem.W.nsIn K mainGlobals "BadShape" = some (some (.ref C2)))
    (g3 : PySem.W.nsIn K mainGlobals "Busy" = some (some (.ref C3)))
    (g4 : PySem.W.nsIn K mainGlobals "NoBeginning" = some (some (.ref C4)))
    (g5 : PySem.W.nsIn K mainGlobals "NoHistory" = some (some (.ref C5)))
    (g6 : PySem.W.nsIn K mainGlobals "NothingToUndo" = some (some (.ref C6)))
    (g7 : PySem.W.nsIn K mainGlobals "SameTree" = some (some (.ref C7)))
    (g8 : PySem.W.nsIn K mainGlobals "SameVertex" = some (some (.ref C8)))
    (g9 : PySem.W.nsIn K mainGlobals "TooManyActions" = some (some (.ref C9)))
    (g10 : PySem.W.nsIn K mainGlobals "BadJoin" = some (some (.ref C10)))
    (g11 : PySem.W.nsIn K mainGlobals "BadText" = some (some (.ref C11)))
    (g12 : PySem.W.nsIn K mainGlobals "NoIndex" = some (some (.ref C12)))
    (g13 : PySem.W.nsIn K mainGlobals "NoStart" = some (some (.ref C13)))
    (g14 : PySem.W.nsIn K mainGlobals "NoVersion" = some (some (.ref C14)))
    (g15 : PySem.W.nsIn K mainGlobals "NoVertex" = some (some (.ref C15)))
    (g16 : PySem.W.nsIn K mainGlobals "NotBuilt" = some (some (.ref C16)))
    (g17 : PySem.W.nsIn K mainGlobals "Rejected" = some (some (.ref C17)))
    (g18 : PySem.W.nsIn K mainGlobals "TooMany" = some (some (.ref C18)))
    (g19 : PySem.W.nsIn K mainGlobals "LinkError" = some (some (.ref C19)))
    (big : allB K (fun i => [C0, C1, C2, C3, C4, C5, C6, C7, C8, C9, C10, C11, C12, C13, C14, C15, C16, C17, C18, C19].getD i 0) = true)
    {fI0 N0 : Addr} {nm0 q0 : Str} {bs0 bm0 : List Value} {sn0 : List Str} {sub0 : List Value} {ab0 : Bool} {col0 : Option Bool} {dd0 : Option Addr} {y00 y10 y20 y30 y50 : Option Value} {od0 an0 : Option Addr} {sl0 : Array (Option Value)} {oc0 kV0 dc0 pm0 cd0 ct0 : Value}
    (xL0 : K.lookup C10 = some (excClassObj nm0 q0 C10 N0 bs0 bm0 true sn0 sub0 ab0 col0 dd0 y00 y10 y20 y30 y50 "ValueError.__new__")) (hb0 : PySem.HandSPX.refsVE bm0 = true) (sa0 : PySem.W.findIn K (.ref C10) "__setattr__" = some (some (.builtin "object.__setattr__"))) (nb0 : PySem.W.findIn K (.ref C10) "index" = some none)
    (a0 : PySem.W.findIn K (.ref C10) "__init__" = some (some (.ref fI0))) (t0 : PySem.W.typeIn K (.ref fI0) = some (.type "function")) (l0 : K.lookup fI0 = some ⟨oc0, od0, .func (PySem.W.fnOf "__init__" "BadJoin.__init__" (defArgs (initS 4)) (defBody (initS 4)) (defScope (initS 4)) .none kV0 dc0 pm0 an0 cd0 ct0), sl0⟩) (c0 : PySem.W.codeIn K cd0 "BadJoin.__init__" = true) (k0 : PySem.W.keepIn K (.ref fI0) = true)
    (eC0 : PySem.W.subIn K (.ref C10) (.type "BaseException") = some true) (tC0 : PySem.W.typeIn K (.ref C10) = some (.type "type")) (kC0 : PySem.W.keepIn K (.ref C10) = true)
    {fI1 N1 : Addr} {nm1 q1 : Str} {bs1 bm1 : List Value} {sn1 : List Str} {sub1 : List Value} {ab1 : Bool} {col1 : Option Bool} {dd1 : Option Addr} {y01 y11 y21 y31 y51 : Option Value} {od1 an1 : Option Addr} {sl1 : Array (Option Value)} {oc1 kV1 dc1 pm1 cd1 ct1 : Value}
    (xL1 : K.lookup C11 = some (excClassObj nm1 q1 C11 N1 bs1 bm1 true sn1 sub1 ab1 col1 dd1 y01 y11 y21 y31 y51 "ValueError.__new__")) (hb1 : PySem.HandSPX.refsVE bm1 = true) (sa1 : PySem.W.findIn K (.ref C11) "__setattr__" = some (some (.builtin "object.__setattr__"))) (nb1 : PySem.W.findIn K (.ref C11) "index" = some none)
    (a1 : PySem.W.findIn K (.ref C11) "__init__" = some (some (.ref fI1))) (t1 : PySem.W.typeIn K (.ref fI1) = some (.type "function")) (l1 : K.lookup fI1 = some ⟨oc1, od1, .func (PySem.W.fnOf "__init__" "BadText.__init__" (defArgs (initS 6)) (defBody (initS 6)) (defScope (initS 6)) .none kV1 dc1 pm1 an1 cd1 ct1), sl1⟩) (c1 : PySem.W.codeIn K cd1 "BadText.__init__" = true) (k1 : PySem.W.keepIn K (.ref fI1) = true)
    (eC1 : PySem.W.subIn K (.ref C11) (.type "BaseException") = some true) (tC1 : PySem.W.typeIn K (.ref C11) = some (.type "type")) (kC1 : PySem.W.keepIn K (.ref C11) = true)
    {fI2 N2 : Addr} {nm2 q2 : Str} {bs2 bm2 : List Value} {sn2 : List Str} {sub2 : List Value} {ab2 : Bool} {col2 : Option Bool} {dd2 : Option Addr} {y02 y12 y22 y32 y52 : Option Value} {od2 an2 : Option Addr} {sl2 : Array (Option Value)} {oc2 kV2 dc2 pm2 cd2 ct2 : Value}
    (xL2 : K.lookup C12 = some (excClassObj nm2 q2 C12 N2 bs2 bm2 true sn2 sub2 ab2 col2 dd2 y02 y12 y22 y32 y52 "ValueError.__new__")) (hb2 : PySem.HandSPX.refsVE bm2 = true) (sa2 : PySem.W.findIn K (.ref C12) "__setattr__" = some (some (.builtin "object.__setattr__"))) (nb2 : PySem.W.findIn K (.ref C12) "index" = some none)
    (a2 : PySem.W.findIn K (.ref C12) "__init__" = some (some (.ref fI2))) (t2 : PySem.W.typeIn K (.ref fI2) = some (.type "function")) (l2 : K.lookup fI2 = some ⟨oc2, od2, .func (PySem.W.fnOf "__init__" "NoIndex.__init__" (defArgs (initS 10)) (defBody (initS 10)) (defScope (initS 10)) .none kV2 dc2 pm2 an2 cd2 ct2), sl2⟩) (c2 : PySem.W.codeIn K cd2 "NoIndex.__init__" = true) (k2 : PySem.W.keepIn K (.ref fI2) = true)
    (eC2 : PySem.W.subIn K (.ref C12) (.type "BaseException") = some true) (tC2 : PySem.W.typeIn K (.ref C12) = some (.type "type")) (kC2 : PySem.W.keepIn K (.ref C12) = true)
    {fI3 N3 : Addr} {nm3 q3 : Str} {bs3 bm3 : List Value} {sn3 : List Str} {sub3 : List Value} {ab3 : Bool} {col3 : Option Bool} {dd3 : Option Addr} {y03 y13 y23 y33 y53 : Option Value} {od3 an3 : Option Addr} {sl3 : Array (Option Value)} {oc3 kV3 dc3 pm3 cd3 ct3 : Value}
    (xL3 : K.lookup C13 = some (excClassObj nm3 q3 C13 N3 bs3 bm3 true sn3 sub3 ab3 col3 dd3 y03 y13 y23 y33 y53 "ValueError.__new__")) (hb3 : PySem.HandSPX.refsVE bm3 = true) (sa3 : PySem.W.findIn K (.ref C13) "__setattr__" = some (some (.builtin "object.__setattr__"))) (nb3 : PySem.W.findIn K (.ref C13) "reason" = some none)
    (a3 : PySem.W.findIn K (.ref C13) "__init__" = some (some (.ref fI3))) (t3 : PySem.W.typeIn K (.ref fI3) = some (.type "function")) (l3 : K.lookup fI3 = some ⟨oc3, od3, .func (PySem.W.fnOf "__init__" "NoStart.__init__" (defArgs (initS 11)) (defBody (initS 11)) (defScope (initS 11)) .none kV3 dc3 pm3 an3 cd3 ct3), sl3⟩) (c3 : PySem.W.codeIn K cd3 "NoStart.__init__" = true) (k3 : PySem.W.keepIn K (.ref fI3) = true)
    (eC3 : PySem.W.subIn K (.ref C13) (.type "BaseException") = some true) (tC3 : PySem.W.typeIn K (.ref C13) = some (.type "type")) (kC3 : PySem.W.keepIn K (.ref C13) = true)
    {fI4 N4 : Addr} {nm4 q4 : Str} {bs4 bm4 : List Value} {sn4 : List Str} {sub4 : List Value} {ab4 : Bool} {col4 : Option Bool} {dd4 : Option Addr} {y04 y14 y24 y34 y54 : Option Value} {od4 an4 : Option Addr} {sl4 : Array (Option Value)} {oc4 kV4 dc4 pm4 cd4 ct4 : Value}
    (xL4 : K.lookup C14 = some (excClassObj nm4 q4 C14 N4 bs4 bm4 true sn4 sub4 ab4 col4 dd4 y04 y14 y24 y34 y54 "ValueError.__new__")) (hb4 : PySem.HandSPX.refsVE bm4 = true) (sa4 : PySem.W.findIn K (.ref C14) "__setattr__" = some (some (.builtin "object.__setattr__"))) (nb4 : PySem.W.findIn K (.ref C14) "version" = some none)
    (a4 : PySem.W.findIn K (.ref C14) "__init__" = some (some (.ref fI4))) (t4 : PySem.W.typeIn K (.ref fI4) = some (.type "function")) (l4 : K.lookup fI4 = some ⟨oc4, od4, .func (PySem.W.fnOf "__init__" "NoVersion.__init__" (defArgs (initS 12)) (defBody (initS 12)) (defScope (initS 12)) .none kV4 dc4 pm4 an4 cd4 ct4), sl4⟩) (c4 : PySem.W.codeIn K cd4 "NoVersion.__init__" = true) (k4 : PySem.W.keepIn K (.ref fI4) = true)
    (eC4 : PySem.W.subIn K (.ref C14) (.type "BaseException") = some true) (tC4 : PySem.W.typeIn K (.ref C14) = some (.type "type")) (kC4 : PySem.W.keepIn K (.ref C14) = true)
    {fI5 N5 : Addr} {nm5 q5 : Str} {bs5 bm5 : List Value} {sn5 : List Str} {sub5 : List Value} {ab5 : Bool} {col5 : Option Bool} {dd5 : Option Addr} {y05 y15 y25 y35 y55 : Option Value} {od5 an5 : Option Addr} {sl5 : Array (Option Value)} {oc5 kV5 dc5 pm5 cd5 ct5 : Value}
    (xL5 : K.lookup C15 = some (excClassObj nm5 q5 C15 N5 bs5 bm5 true sn5 sub5 ab5 col5 dd5 y05 y15 y25 y35 y55 "ValueError.__new__")) (hb5 : PySem.HandSPX.refsVE bm5 = true) (sa5 : PySem.W.findIn K (.ref C15) "__setattr__" = some (some (.builtin "object.__setattr__"))) (nb5 : PySem.W.findIn K (.ref C15) "value" = some none)
    (a5 : PySem.W.findIn K (.ref C15) "__init__" = some (some (.ref fI5))) (t5 : PySem.W.typeIn K (.ref fI5) = some (.type "function")) (l5 : K.lookup fI5 = some ⟨oc5, od5, .func (PySem.W.fnOf "__init__" "NoVertex.__init__" (defArgs (initS 13)) (defBody (initS 13)) (defScope (initS 13)) .none kV5 dc5 pm5 an5 cd5 ct5), sl5⟩) (c5 : PySem.W.codeIn K cd5 "NoVertex.__init__" = true) (k5 : PySem.W.keepIn K (.ref fI5) = true)
    (eC5 : PySem.W.subIn K (.ref C15) (.type "BaseException") = some true) (tC5 : PySem.W.typeIn K (.ref C15) = some (.type "type")) (kC5 : PySem.W.keepIn K (.ref C15) = true)
    {fI6 N6 : Addr} {nm6 q6 : Str} {bs6 bm6 : List Value} {sn6 : List Str} {sub6 : List Value} {ab6 : Bool} {col6 : Option Bool} {dd6 : Option Addr} {y06 y16 y26 y36 y56 : Option Value} {od6 an6 : Option Addr} {sl6 : Array (Option Value)} {oc6 kV6 dc6 pm6 cd6 ct6 : Value}
    (xL6 : K.lookup C16 = some (excClassObj nm6 q6 C16 N6 bs6 bm6 true sn6 sub6 ab6 col6 dd6 y06 y16 y26 y36 y56 "ValueError.__new__")) (hb6 : PySem.HandSPX.refsVE bm6 = true) (sa6 : PySem.W.findIn K (.ref C16) "__setattr__" = some (some (.builtin "object.__setattr__"))) (nb6 : PySem.W.findIn K (.ref C16) "vertex" = some none)
    (a6 : PySem.W.findIn K (.ref C16) "__init__" = some (some (.ref fI6))) (t6 : PySem.W.typeIn K (.ref fI6) = some (.type "function")) (l6 : K.lookup fI6 = some ⟨oc6, od6, .func (PySem.W.fnOf "__init__" "NotBuilt.__init__" (defArgs (initS 14)) (defBody (initS 14)) (defScope (initS 14)) .none kV6 dc6 pm6 an6 cd6 ct6), sl6⟩) (c6 : PySem.W.codeIn K cd6 "NotBuilt.__init__" = true) (k6 : PySem.W.keepIn K (.ref fI6) = true)
    (eC6 : PySem.W.subIn K (.ref C16) (.type "BaseException") = some true) (tC6 : PySem.W.typeIn K (.ref C16) = some (.type "type")) (kC6 : PySem.W.keepIn K (.ref C16) = true)
    {fI7 N7 : Addr} {nm7 q7 : Str} {bs7 bm7 : List Value} {sn7 : List Str} {sub7 : List Value} {ab7 : Bool} {col7 : Option Bool} {dd7 : Option Addr} {y07 y17 y27 y37 y57 : Option Value} {od7 an7 : Option Addr} {sl7 : Array (Option Value)} {oc7 kV7 dc7 pm7 cd7 ct7 : Value}
    (xL7 : K.lookup C17 = some (excClassObj nm7 q7 C17 N7 bs7 bm7 true sn7 sub7 ab7 col7 dd7 y07 y17 y27 y37 y57 "ValueError.__new__")) (hb7 : PySem.HandSPX.refsVE bm7 = true) (sa7 : PySem.W.findIn K (.ref C17) "__setattr__" = some (some (.builtin "object.__setattr__"))) (nb7 : PySem.W.findIn K (.ref C17) "index" = some none)
    (a7 : PySem.W.findIn K (.ref C17) "__init__" = some (some (.ref fI7))) (t7 : PySem.W.typeIn K (.ref fI7) = some (.type "function")) (l7 : K.lookup fI7 = some ⟨oc7, od7, .func (PySem.W.fnOf "__init__" "Rejected.__init__" (defArgs (initS 16)) (defBody (initS 16)) (defScope (initS 16)) .none kV7 dc7 pm7 an7 cd7 ct7), sl7⟩) (c7 : PySem.W.codeIn K cd7 "Rejected.__init__" = true) (k7 : PySem.W.keepIn K (.ref fI7) = true)
    (eC7 : PySem.W.subIn K (.ref C17) (.type "BaseException") = some true) (tC7 : PySem.W.typeIn K (.ref C17) = some (.type "type")) (kC7 : PySem.W.keepIn K (.ref C17) = true)
    {fI8 N8 : Addr} {nm8 q8 : Str} {bs8 bm8 : List Value} {sn8 : List Str} {sub8 : List Value} {ab8 : Bool} {col8 : Option Bool} {dd8 : Option Addr} {y08 y18 y28 y38 y58 : Option Value} {od8 an8 : Option Addr} {sl8 : Array (Option Value)} {oc8 kV8 dc8 pm8 cd8 ct8 : Value}
    (xL8 : K.lookup C18 = some (excClassObj nm8 q8 C18 N8 bs8 bm8 true sn8 sub8 ab8 col8 dd8 y08 y18 y28 y38 y58 "ValueError.__new__")) (hb8 : PySem.HandSPX.refsVE bm8 = true) (sa8 : PySem.W.findIn K (.ref C18) "__setattr__" = some (some (.builtin "object.__setattr__"))) (nb8 : PySem.W.findIn K (.ref C18) "limit" = some none)
    (a8 : PySem.W.findIn K (.ref C18) "__init__" = some (some (.ref fI8))) (t8 : PySem.W.typeIn K (.ref fI8) = some (.type "function")) (l8 : K.lookup fI8 = some ⟨oc8, od8, .func (PySem.W.fnOf "__init__" "TooMany.__init__" (defArgs (initS 19)) (defBody (initS 19)) (defScope (initS 19)) .none kV8 dc8 pm8 an8 cd8 ct8), sl8⟩) (c8 : PySem.W.codeIn K cd8 "TooMany.__init__" = true) (k8 : PySem.W.keepIn K (.ref fI8) = true)
    (eC8 : PySem.W.subIn K (.ref C18) (.type "BaseException") = some true) (tC8 : PySem.W.typeIn K (.ref C18) = some (.type "type")) (kC8 : PySem.W.keepIn K (.ref C18) = true)
    {f0 : Addr} {odF0 anF0 : Option Addr} {slF0 : Array (Option Value)} {ocF0 kVF0 dcF0 pmF0 cdF0 ctF0 : Value} (aF0 : PySem.W.nsIn K mainGlobals "_law_well" = some (some (.ref f0))) (lF0 : K.lookup f0 = some ⟨ocF0, odF0, .func (PySem.W.fnOf "_law_well" "_law_well" (defArgs sWell) (defBody sWell) (defScope sWell) .none kVF0 dcF0 pmF0 anF0 cdF0 ctF0), slF0⟩) (cF0 : PySem.W.codeIn K cdF0 "_law_well" = true) (kF0 : PySem.W.keepIn K (.ref f0) = true)
    {f1 : Addr} {odF1 anF1 : Option Addr} {slF1 : Array (Option Value)} {ocF1 kVF1 dcF1 pmF1 cdF1 ctF1 : Value} (aF1 : PySem.W.nsIn K mainGlobals "_law_pull" = some (some (.ref f1))) (lF1 : K.lookup f1 = some ⟨ocF1, odF1, .func (PySem.W.fnOf "_law_pull" "_law_pull" (defArgs sPull) (defBody sPull) (defScope sPull) .none kVF1 dcF1 pmF1 anF1 cdF1 ctF1), slF1⟩) (cF1 : PySem.W.codeIn K cdF1 "_law_pull" = true) (kF1 : PySem.W.keepIn K (.ref f1) = true)
    {f2 : Addr} {odF2 anF2 : Option Addr} {slF2 : Array (Option Value)} {ocF2 kVF2 dcF2 pmF2 cdF2 ctF2 : Value} (aF2 : PySem.W.nsIn K mainGlobals "_law_item" = some (some (.ref f2))) (lF2 : K.lookup f2 = some ⟨ocF2, odF2, .func (PySem.W.fnOf "_law_item" "_law_item" (defArgs sItem) (defBody sItem) (defScope sItem) .none kVF2 dcF2 pmF2 anF2 cdF2 ctF2), slF2⟩) (cF2 : PySem.W.codeIn K cdF2 "_law_item" = true) (kF2 : PySem.W.keepIn K (.ref f2) = true)
    {f3 : Addr} {odF3 anF3 : Option Addr} {slF3 : Array (Option Value)} {ocF3 kVF3 dcF3 pmF3 cdF3 ctF3 : Value} (aF3 : PySem.W.nsIn K mainGlobals "_law_odd" = some (some (.ref f3))) (lF3 : K.lookup f3 = some ⟨ocF3, odF3, .func (PySem.W.fnOf "_law_odd" "_law_odd" (defArgs sOdd) (defBody sOdd) (defScope sOdd) .none kVF3 dcF3 pmF3 anF3 cdF3 ctF3), slF3⟩) (cF3 : PySem.W.codeIn K cdF3 "_law_odd" = true) (kF3 : PySem.W.keepIn K (.ref f3) = true)
    {f4 : Addr} {odF4 anF4 : Option Addr} {slF4 : Array (Option Value)} {ocF4 kVF4 dcF4 pmF4 cdF4 ctF4 : Value} (aF4 : PySem.W.nsIn K mainGlobals "_law_plain" = some (some (.ref f4))) (lF4 : K.lookup f4 = some ⟨ocF4, odF4, .func (PySem.W.fnOf "_law_plain" "_law_plain" (defArgs sPlain) (defBody sPlain) (defScope sPlain) .none kVF4 dcF4 pmF4 anF4 cdF4 ctF4), slF4⟩) (cF4 : PySem.W.codeIn K cdF4 "_law_plain" = true) (kF4 : PySem.W.keepIn K (.ref f4) = true)
    {f5 : Addr} {odF5 anF5 : Option Addr} {slF5 : Array (Option Value)} {ocF5 kVF5 dcF5 pmF5 cdF5 ctF5 : Value} (aF5 : PySem.W.nsIn K mainGlobals "_law_filled" = some (some (.ref f5))) (lF5 : K.lookup f5 = some ⟨ocF5, odF5, .func (PySem.W.fnOf "_law_filled" "_law_filled" (defArgs sFilled) (defBody sFilled) (defScope sFilled) .none kVF5 dcF5 pmF5 anF5 cdF5 ctF5), slF5⟩) (cF5 : PySem.W.codeIn K cdF5 "_law_filled" = true) (kF5 : PySem.W.keepIn K (.ref f5) = true)
    {f6 : Addr} {odF6 anF6 : Option Addr} {slF6 : Array (Option Value)} {ocF6 kVF6 dcF6 pmF6 cdF6 ctF6 : Value} (aF6 : PySem.W.nsIn K mainGlobals "_law_alone" = some (some (.ref f6))) (lF6 : K.lookup f6 = some ⟨ocF6, odF6, .func (PySem.W.fnOf "_law_alone" "_law_alone" (defArgs sAlone) (defBody sAlone) (defScope sAlone) .none kVF6 dcF6 pmF6 anF6 cdF6 ctF6), slF6⟩) (cF6 : PySem.W.codeIn K cdF6 "_law_alone" = true) (kF6 : PySem.W.keepIn K (.ref f6) = true)
    {f7 : Addr} {odF7 anF7 : Option Addr} {slF7 : Array (Option Value)} {ocF7 kVF7 dcF7 pmF7 cdF7 ctF7 : Value} (aF7 : PySem.W.nsIn K mainGlobals "_law_made" = some (some (.ref f7))) (lF7 : K.lookup f7 = some ⟨ocF7, odF7, .func (PySem.W.fnOf "_law_made" "_law_made" (defArgs sMade) (defBody sMade) (defScope sMade) .none kVF7 dcF7 pmF7 anF7 cdF7 ctF7), slF7⟩) (cF7 : PySem.W.codeIn K cdF7 "_law_made" = true) (kF7 : PySem.W.keepIn K (.ref f7) = true)
    {f8 : Addr} {odF8 anF8 : Option Addr} {slF8 : Array (Option Value)} {ocF8 kVF8 dcF8 pmF8 cdF8 ctF8 : Value} (aF8 : PySem.W.nsIn K mainGlobals "law" = some (some (.ref f8))) (lF8 : K.lookup f8 = some ⟨ocF8, odF8, .func (PySem.W.fnOf "law" "law" (defArgs sLaw) (defBody sLaw) (defScope sLaw) .none kVF8 dcF8 pmF8 anF8 cdF8 ctF8), slF8⟩) (cF8 : PySem.W.codeIn K cdF8 "law" = true) (kF8 : PySem.W.keepIn K (.ref f8) = true)
    (z_len : PySem.W.nsIn K mainGlobals "len" = some none)
    (z_abs : PySem.W.nsIn K mainGlobals "abs" = some none)
    (z_int : PySem.W.nsIn K mainGlobals "int" = some none)
    (z_isinstance : PySem.W.nsIn K mainGlobals "isinstance" = some none)
    (z_range : PySem.W.nsIn K mainGlobals "range" = some none)
    (z_enumerate : PySem.W.nsIn K mainGlobals "enumerate" = some none)
    (z_repr : PySem.W.nsIn K mainGlobals "repr" = some none)
    (z_ValueError : PySem.W.nsIn K mainGlobals "ValueError" = some none)
    {t_MAX_VERTICES : Tok} (m_MAX_VERTICES : PySem.W.nsIn K mainGlobals "MAX_VERTICES" = some (some (.int 24 t_MAX_VERTICES)))
    {t_LISTED : Tok} (m_LISTED : PySem.W.nsIn K mainGlobals "LISTED" = some (some (.int 2000 t_LISTED)))
    {t_SHAPE_VERTICES : Tok} (m_SHAPE_VERTICES : PySem.W.nsIn K mainGlobals "SHAPE_VERTICES" = some (some (.int 60 t_SHAPE_VERTICES)))
    {t_BATCH : Tok} (m_BATCH : PySem.W.nsIn K mainGlobals "BATCH" = some (some (.int 20 t_BATCH)))
    {t_HISTORY : Tok} (m_HISTORY : PySem.W.nsIn K mainGlobals "HISTORY" = some (some (.int 30 t_HISTORY)))
    {t_MAX_FORESTS : Tok} (m_MAX_FORESTS : PySem.W.nsIn K mainGlobals "MAX_FORESTS" = some (some (.int 8 t_MAX_FORESTS)))
    : ∃ fd : FuncData, (∀ (s : Shared) (u : Value), BindsTo s fd ⟨[u], []⟩ [("_law_script", u)]) ∧ ∀ base : Heap, K.In base → base.Ns mainGlobals mg → (∃ o, base.get? sysModules = some o) → RunG l.prog w K mg base 4 fa fd ["_law_script"] (spLaw K) := by
  have e := hfa.symm.trans (PySem.W.mg_of X G aF8)
  cases e
  obtain ⟨b1, b2⟩ := Bool.and_eq_true_iff.mp big
  have row := fun i (hi : i < 19) => all_range b1 i hi
  have row2 := fun i (hi : i < 10) => all_range b2 i hi
  have T : Txt K mg (fun i => [C0, C1, C2, C3, C4, C5, C6, C7, C8, C9, C10, C11, C12, C13, C14, C15, C16, C17, C18, C19].getD i 0) :=
    { g0 := PySem.W.mg_of X G g0, g1 := PySem.W.mg_of X G g1, g2 := PySem.W.mg_of X G g2, g3 := PySem.W.mg_of X G g3, g4 := PySem.W.mg_of X G g4, g5 := PySem.W.mg_of X G g5, g6 := PySem.W.mg_of X G g6, g7 := PySem.W.mg_of X G g7, g8 := PySem.W.mg_of X G g8, g9 := PySem.W.mg_of X G g9, g10 := PySem.W.mg_of X G g10, g11 := PySem.W.mg_of X G g11, g12 := PySem.W.mg_of X G g12, g13 := PySem.W.mg_of X G g13, g14 := PySem.W.mg_of X G g14, g15 := PySem.W.mg_of X G g15, g16 := PySem.W.mg_of X G g16, g17 := PySem.W.mg_of X G g17, g18 := PySem.W.mg_of X G g18, g19 := PySem.W.mg_of X G g19, nV := PySem.W.mg_none_of X G z_ValueError, mi := PySem.W.mg_none_of X G z_isinstance, mr := PySem.W.mg_none_of X G z_range, ml := PySem.W.mg_none_of X G z_len, me := PySem.W.mg_none_of X G z_enumerate, mp := PySem.W.mg_none_of X G z_repr,
      ex := fun i hi => exB_ok (Bool.and_eq_true_iff.mp (row i hi)).1
      kitL := fun i hi => of_decide_eq_true (Bool.and_eq_true_iff.mp (Bool.and_eq_true_iff.mp (row i hi)).2).1
      kitV := fun i hi => of_decide_eq_true (Bool.and_eq_true_iff.mp (Bool.and_eq_true_iff.mp (Bool.and_eq_true_iff.mp (row i hi)).2).2).1
      kit := fun i j hi hj => of_decide_eq_true (all_range (Bool.and_eq_true_iff.mp (Bool.and_eq_true_iff.mp (Bool.and_eq_true_iff.mp (row i hi)).2).2).2 j hj)
      xc := fun i hi => (Bool.and_eq_true_iff.mp (row2 i hi)).1
      kp := fun i hi => (Bool.and_eq_true_iff.mp (row2 i hi)).2 }
  obtain ⟨v, hv, rv⟩ := xl.2.val (Str.ofString "MAX_COUNT", PySem.W.WData.int 1000000000000) List.mem_cons_self
  have L : Lim mg := by
    refine ⟨⟨_, PySem.W.mg_of X G m_MAX_VERTICES⟩, ⟨_, PySem.W.mg_of X G m_LISTED⟩, ⟨_, PySem.W.mg_of X G m_SHAPE_VERTICES⟩, ⟨_, PySem.W.mg_of X G m_BATCH⟩, ⟨_, PySem.W.mg_of X G m_HISTORY⟩, ?_, ⟨_, PySem.W.mg_of X G m_MAX_FORESTS⟩⟩
    cases rv with
    | int i t => exact ⟨t, hv⟩
  have F0 := fun_mk (st := sWell) lF0 cF0 kF0
  have F1 := fun_mk (st := sPull) lF1 cF1 kF1
  have F2 := fun_mk (st := sItem) lF2 cF2 kF2
  have F3 := fun_mk (st := sOdd) lF3 cF3 kF3
  have F4 := fun_mk (st := sPlain) lF4 cF4 kF4
  have F5 := fun_mk (st := sFilled) lF5 cF5 kF5
  have F6 := fun_mk (st := sAlone) lF6 cF6 kF6
  have F7 := fun_mk (st := sMade) lF7 cF7 kF7
  have F8 := fun_mk (st := sLaw) lF8 cF8 kF8
  have B0 := F0.binds (ps := ["_law_script"]) fun _ _ _ _ _ _ us hl => match us, hl with | [_], _ => rfl
  have B1 := F1.binds (ps := ["_law_well_here", "_law_many"]) fun _ _ _ _ _ _ us hl => match us, hl with | [_, _], _ => rfl
  have B2 := F2.binds (ps := ["_law_well_here", "_law_items"]) fun _ _ _ _ _ _ us hl => match us, hl with | [_, _], _ => rfl
  have B3 := F3.binds (ps := ["_law_well_here"]) fun _ _ _ _ _ _ us hl => match us, hl with | [_], _ => rfl
  have B4 := F4.binds (ps := ["_law_error"]) fun _ _ _ _ _ _ us hl => match us, hl with | [_], _ => rfl
  have B5 := F5.binds (ps := ["_law_error"]) fun _ _ _ _ _ _ us hl => match us, hl with | [_], _ => rfl
  have B6 := F6.binds (ps := ["_law_errors", "_law_others"]) fun _ _ _ _ _ _ us hl => match us, hl with | [_, _], _ => rfl
  have B7 := F7.binds (ps := ["_law_values"]) fun _ _ _ _ _ _ us hl => match us, hl with | [_], _ => rfl
  refine ⟨PySem.W.fnOf "law" "law" (defArgs sLaw) (defBody sLaw) (defScope sLaw) .none kVF8 dcF8 pmF8 anF8 cdF8 ctF8, fun s v => .of_eq rfl, fun base _ _ sys => ?_⟩
  obtain ⟨A0⟩ := fld_mk (P := l.prog) (w := w) (mg := mg) xL0 hb0 sa0 nb0 a0 t0 l0 c0 k0 eC0 tC0 kC0 scBadJoin bdBadJoin (.inl rfl) (.inl rfl) (by decide) (by decide) (fun _ _ _ _ _ _ us hl => match us, hl with | [_, _], _ => rfl) base
  obtain ⟨A1⟩ := fld_mk (P := l.prog) (w := w) (mg := mg) xL1 hb1 sa1 nb1 a1 t1 l1 c1 k1 eC1 tC1 kC1 scBadText bdBadText (.inl rfl) (.inl rfl) (by decide) (by decide) (fun _ _ _ _ _ _ us hl => match us, hl with | [_, _], _ => rfl) base
  obtain ⟨A2⟩ := fld_mk (P := l.prog) (w := w) (mg := mg) xL2 hb2 sa2 nb2 a2 t2 l2 c2 k2 eC2 tC2 kC2 scNoIndex bdNoIndex (.inl rfl) (.inl rfl) (by decide) (by decide) (fun _ _ _ _ _ _ us hl => match us, hl with | [_, _], _ => rfl) base
  obtain ⟨A3⟩ := fld_mk (P := l.prog) (w := w) (mg := mg) xL3 hb3 sa3 nb3 a3 t3 l3 c3 k3 eC3 tC3 kC3 scNoStart bdNoStart (.inl rfl) (.inl rfl) (by decide) (by decide) (fun _ _ _ _ _ _ us hl => match us, hl with | [_, _], _ => rfl) base
  obtain ⟨A4⟩ := fld_mk (P := l.prog) (w := w) (mg := mg) xL4 hb4 sa4 nb4 a4 t4 l4 c4 k4 eC4 tC4 kC4 scNoVersion bdNoVersion (.inl rfl) (.inl rfl) (by decide) (by decide) (fun _ _ _ _ _ _ us hl => match us, hl with | [_, _], _ => rfl) base
  obtain ⟨A5⟩ := fld_mk (P := l.prog) (w := w) (mg := mg) xL5 hb5 sa5 nb5 a5 t5 l5 c5 k5 eC5 tC5 kC5 scNoVertex bdNoVertex (.inl rfl) (.inl rfl) (by decide) (by decide) (fun _ _ _ _ _ _ us hl => match us, hl with | [_, _], _ => rfl) base
  obtain ⟨A6⟩ := fld_mk (P := l.prog) (w := w) (mg := mg) xL6 hb6 sa6 nb6 a6 t6 l6 c6 k6 eC6 tC6 kC6 scNotBuilt bdNotBuilt (.inl rfl) (.inl rfl) (by decide) (by decide) (fun _ _ _ _ _ _ us hl => match us, hl with | [_, _], _ => rfl) base
  obtain ⟨A7⟩ := fld_mk (P := l.prog) (w := w) (mg := mg) xL7 hb7 sa7 nb7 a7 t7 l7 c7 k7 eC7 tC7 kC7 scRejected bdRejected (.inl rfl) (.inl rfl) (by decide) (by decide) (fun _ _ _ _ _ _ us hl => match us, hl with | [_, _], _ => rfl) base
  obtain ⟨A8⟩ := fld_mk (P := l.prog) (w := w) (mg := mg) xL8 hb8 sa8 nb8 a8 t8 l8 c8 k8 eC8 tC8 kC8 scTooMany bdTooMany (.inl rfl) (.inl rfl) (by decide) (by decide) (fun _ _ _ _ _ _ us hl => match us, hl with | [_, _], _ => rfl) base
  have GW := ok_well (P := l.prog) (w := w) (base := base) F0 (PySem.W.mg_none_of X G z_len) (PySem.W.mg_none_of X G z_abs) (PySem.W.mg_none_of X G z_int)
  have GI := ok_item (P := l.prog) (w := w) (base := base) F2 F1 B1 (PySem.W.mg_of X G aF1) (PySem.W.mg_none_of X G z_len)
  have GO := ok_odd F3 F2 GI B2 (PySem.W.mg_of X G aF2)
  have GA := ok_alone (P := l.prog) (w := w) (base := base) F6 T F4 B4 (PySem.W.mg_of X G aF4) F5 B5 (PySem.W.mg_of X G aF5)
  have GM := ok_made F7 T A0 A1 A2 A3 A4 A5 A6 A7 A8
  exact ok_law F8 T L sys F0 B0 (PySem.W.mg_of X G aF0) GW F3 B3 (PySem.W.mg_of X G aF3) GO F7 B7 (PySem.W.mg_of X G aF7) GM F6 B6 (PySem.W.mg_of X G aF6) GA
end Lf
open PySem PySem.W PyProof.Rows
set_option maxRecDepth 100000 in
set_option maxHeartbeats 0 in
theorem PySem.Challenge.cw_linkforests_k01_limits_and_errors_holds : PySem.Challenge.rw_linkforests_k01_limits_and_errors.Holds := by
  w_on; o_law; k_head; (case hw => w_witness2)
  k_fill
  refine Lf.walk_g (l := PySem.Challenge.rw_linkforests_k01_limits_and_errors) (n := 63) (k := 4) (x := "_law_script") (sp := Lf.spLaw) rfl (by decide) rfl ⟨rfl, by decide, by decide⟩ (by decide +kernel) (fun w h Y => PySem.W.kIn_of Y) ?F (fun _ _ a ns hl _ hS => ⟨a, ns, rfl, hS, hl, fun _ => rfl⟩)
  case F =>
    intro w mg fa h KX G xl hmg
    refine' Lf.all_mk KX G xl hmg ?u_g0 ?u_g1 ?u_g2 ?u_g3 ?u_g4 ?u_g5 ?u_g6 ?u_g7 ?u_g8 ?u_g9 ?u_g10 ?u_g11 ?u_g12 ?u_g13 ?u_g14 ?u_g15 ?u_g16 ?u_g17 ?u_g18 ?u_g19 ?u_big ?u_xL0 ?u_hb0 ?u_sa0 ?u_nb0 ?u_a0 ?u_t0 ?u_l0 ?u_c0 ?u_k0 ?u_eC0 ?u_tC0 ?u_kC0 ?u_xL1 ?u_hb1 ?u_sa1 ?u_nb1 ?u_a1 ?u_t1 ?u_l1 ?u_c1 ?u_k1 ?u_eC1 ?u_tC1 ?u_kC1 ?u_xL2 ?u_hb2 ?u_sa2 ?u_nb2 ?u_a2 ?u_t2 ?u_l2 ?u_c2 ?u_k2 ?u_eC2 ?u_tC2 ?u_kC2 ?u_xL3 ?u_hb3 ?u_sa3 ?u_nb3 ?u_a3 ?u_t3 ?u_l3 ?u_c3 ?u_k3 ?u_eC3 ?u_tC3 ?u_kC3 ?u_xL4 ?u_hb4 ?u_sa4 ?u_nb4 ?u_a4 ?u_t4 ?u_l4 ?u_c4 ?u_k4 ?u_eC4 ?u_tC4 ?u_kC4 ?u_xL5 ?u_hb5 ?u_sa5 ?u_nb5 ?u_a5 ?u_t5 ?u_l5 ?u_c5 ?u_k5 ?u_eC5 ?u_tC5 ?u_kC5 ?u_xL6 ?u_hb6 ?u_sa6 ?u_nb6 ?u_a6 ?u_t6 ?u_l6 ?u_c6 ?u_k6 ?u_eC6 ?u_tC6 ?u_kC6 ?u_xL7 ?u_hb7 ?u_sa7 ?u_nb7 ?u_a7 ?u_t7 ?u_l7 ?u_c7 ?u_k7 ?u_eC7 ?u_tC7 ?u_kC7 ?u_xL8 ?u_hb8 ?u_sa8 ?u_nb8 ?u_a8 ?u_t8 ?u_l8 ?u_c8 ?u_k8 ?u_eC8 ?u_tC8 ?u_kC8 ?u_aF0 ?u_lF0 ?u_cF0 ?u_kF0 ?u_aF1 ?u_lF1 ?u_cF1 ?u_kF1 ?u_aF2 ?u_lF2 ?u_cF2 ?u_kF2 ?u_aF3 ?u_lF3 ?u_cF3 ?u_kF3 ?u_aF4 ?u_lF4 ?u_cF4 ?u_kF4 ?u_aF5 ?u_lF5 ?u_cF5 ?u_kF5 ?u_aF6 ?u_lF6 ?u_cF6 ?u_kF6 ?u_aF7 ?u_lF7 ?u_cF7 ?u_kF7 ?u_aF8 ?u_lF8 ?u_cF8 ?u_kF8 ?u_z_len ?u_z_abs ?u_z_int ?u_z_isinstance ?u_z_range ?u_z_enumerate ?u_z_repr ?u_z_ValueError ?u_m_MAX_VERTICES ?u_m_LISTED ?u_m_SHAPE_VERTICES ?u_m_BATCH ?u_m_HISTORY ?u_m_MAX_FORESTS
    (case u_g0 => k_is)
    (case u_g1 => k_is)
    (case u_g2 => k_is)
    (case u_g3 => k_is)
    (case u_g4 => k_is)
    (case u_g5 => k_is)
    (case u_g6 => k_is)
    (case u_g7 => k_is)
    (case u_g8 => k_is)
    (case u_g9 => k_is)
    (case u_g10 => k_is)
    (case u_g11 => k_is)
    (case u_g12 => k_is)
    (case u_g13 => k_is)
    (case u_g14 => k_is)
    (case u_g15 => k_is)
    (case u_g16 => k_is)
    (case u_g17 => k_is)
    (case u_g18 => k_is)
    (case u_g19 => k_is)
    (case u_big => kernel_rfl)
    (case u_xL0 => k_is)
    (case u_hb0 => rfl)
    (case u_sa0 => k_is)
    (case u_nb0 => k_is)
    (case u_a0 => k_is)
    (case u_t0 => k_is)
    (case u_l0 => k_is)
    (case u_c0 => k_is)
    (case u_k0 => k_is)
    (case u_eC0 => k_is)
    (case u_tC0 => k_is)
    (case u_kC0 => k_is)
    (case u_xL1 => k_is)
    (case u_hb1 => rfl)
    (case u_sa1 => k_is)
    (case u_nb1 => k_is)
    (case u_a1 => k_is)
    (case u_t1 => k_is)
    (case u_l1 => k_is)
    (case u_c1 => k_is)
    (case u_k1 => k_is)
    (case u_eC1 => k_is)
    (case u_tC1 => k_is)
    (case u_kC1 => k_is)
    (case u_xL2 => k_is)
    (case u_hb2 => rfl)
    (case u_sa2 => k_is)
    (case u_nb2 => k_is)
    (case u_a2 => k_is)
    (case u_t2 => k_is)
    (case u_l2 => k_is)
    (case u_c2 => k_is)
    (case u_k2 => k_is)
    (case u_eC2 => k_is)
    (case u_tC2 => k_is)
    (case u_kC2 => k_is)
    (case u_xL3 => k_is)
    (case u_hb3 => rfl)
    (case u_sa3 => k_is)
    (case u_nb3 => k_is)
    (case u_a3 => k_is)
    (case u_t3 => k_is)
    (case u_l3 => k_is)
    (case u_c3 => k_is)
    (case u_k3 => k_is)
    (case u_eC3 => k_is)
    (case u_tC3 => k_is)
    (case u_kC3 => k_is)
    (case u_xL4 => k_is)
    (case u_hb4 => rfl)
    (case u_sa4 => k_is)
    (case u_nb4 => k_is)
    (case u_a4 => k_is)
    (case u_t4 => k_is)
    (case u_l4 => k_is)
    (case u_c4 => k_is)
    (case u_k4 => k_is)
    (case u_eC4 => k_is)
    (case u_tC4 => k_is)
    (case u_kC4 => k_is)
    (case u_xL5 => k_is)
    (case u_hb5 => rfl)
    (case u_sa5 => k_is)
    (case u_nb5 => k_is)
    (case u_a5 => k_is)
    (case u_t5 => k_is)
    (case u_l5 => k_is)
    (case u_c5 => k_is)
    (case u_k5 => k_is)
    (case u_eC5 => k_is)
    (case u_tC5 => k_is)
    (case u_kC5 => k_is)
    (case u_xL6 => k_is)
    (case u_hb6 => rfl)
    (case u_sa6 => k_is)
    (case u_nb6 => k_is)
    (case u_a6 => k_is)
    (case u_t6 => k_is)
    (case u_l6 => k_is)
    (case u_c6 => k_is)
    (case u_k6 => k_is)
    (case u_eC6 => k_is)
    (case u_tC6 => k_is)
    (case u_kC6 => k_is)
    (case u_xL7 => k_is)
    (case u_hb7 => rfl)
    (case u_sa7 => k_is)
    (case u_nb7 => k_is)
    (case u_a7 => k_is)
    (case u_t7 => k_is)
    (case u_l7 => k_is)
    (case u_c7 => k_is)
    (case u_k7 => k_is)
    (case u_eC7 => k_is)
    (case u_tC7 => k_is)
    (case u_kC7 => k_is)
    (case u_xL8 => k_is)
    (case u_hb8 => rfl)
    (case u_sa8 => k_is)
    (case u_nb8 => k_is)
    (case u_a8 => k_is)
    (case u_t8 => k_is)
    (case u_l8 => k_is)
    (case u_c8 => k_is)
    (case u_k8 => k_is)
    (case u_eC8 => k_is)
    (case u_tC8 => k_is)
    (case u_kC8 => k_is)
    (case u_aF0 => k_is)
    (case u_lF0 => k_is)
    (case u_cF0 => k_is)
    (case u_kF0 => k_is)
    (case u_aF1 => k_is)
    (case u_lF1 => k_is)
    (case u_cF1 => k_is)
    (case u_kF1 => k_is)
    (case u_aF2 => k_is)
    (case u_lF2 => k_is)
    (case u_cF2 => k_is)
    (case u_kF2 => k_is)
    (case u_aF3 => k_is)
    (case u_lF3 => k_is)
    (case u_cF3 => k_is)
    (case u_kF3 => k_is)
    (case u_aF4 => k_is)
    (case u_lF4 => k_is)
    (case u_cF4 => k_is)
    (case u_kF4 => k_is)
    (case u_aF5 => k_is)
    (case u_lF5 => k_is)
    (case u_cF5 => k_is)
    (case u_kF5 => k_is)
    (case u_aF6 => k_is)
    (case u_lF6 => k_is)
    (case u_cF6 => k_is)
    (case u_kF6 => k_is)
    (case u_aF7 => k_is)
    (case u_lF7 => k_is)
    (case u_cF7 => k_is)
    (case u_kF7 => k_is)
    (case u_aF8 => k_is)
    (case u_lF8 => k_is)
    (case u_cF8 => k_is)
    (case u_kF8 => k_is)
    (case u_z_len => k_is)
    (case u_z_abs => k_is)
    (case u_z_int => k_is)
    (case u_z_isinstance => k_is)
    (case u_z_range => k_is)
    (case u_z_enumerate => k_is)
    (case u_z_repr => k_is)
    (case u_z_ValueError => k_is)
    (case u_m_MAX_VERTICES => k_is)
    (case u_m_LISTED => k_is)
    (case u_m_SHAPE_VERTICES => k_is)
    (case u_m_BATCH => k_is)
    (case u_m_HISTORY => k_is)
    (case u_m_MAX_FORESTS => k_is)
