import PyProof.Rows.All
import Wide.All
import OpenK.AllK
import Wide.FinOn
import HandS.ForMost
import HandS.Style
import HandS.Wide
import HandS.NoneIn
import HandS.Walk
import HandS.ExcInit
import HandS.ExcValue
import HandS.ExcOwn
import HandS.IsInst
import KE.KExcIs
import HandS.TupAny
import HandS.Conv
import HandS.Sort
import HandS.Flow
import HandS.Codes
import KE.GoesEnum
import KE.KRevSl
import HandS.Strs
import PyProof.ReprLen
import KE.KSortedM
import PySem.Challenge.RW_linkforests_k04_forests_renamed
set_option Elab.async false
set_option linter.all false
set_option maxRecDepth 100000
set_option maxHeartbeats 2000000
namespace Lf
open PySem PySem.Spec PyProof.Rows L2

/-! ### data that repr shows -/
def keyD : Key → PyData
  | .inl i => .int i
  | .inr x => .str x
mutual
inductive Rp (H : Hp) : V → PyData → Prop
  | non : Rp H .non .none
  | bl (b : Bool) : Rp H (.bl b) (.bool b)
  | int (i : Int) : Rp H (.int i) (.int i)
  | str (x : Str) : Rp H (.str x) (.str x)
  | lst {a : Addr} {xs : List V} {ds : List PyData} : H a = some (.lst xs) → RpAll H xs ds → Rp H (.ref a) (.list ds)
  | tup {a : Addr} {xs : List V} {ds : List PyData} : H a = some (.tup xs) → RpAll H xs ds → Rp H (.ref a) (.tuple ds)
  | ftp {a : Addr} {o : Obj} {xs : List V} {ds : List PyData} : H a = some (.frz o (.tup xs)) → RpAll H xs ds → Rp H (.ref a) (.tuple ds)
  | dct {a : Addr} {kvs : List (Key × V)} {es : List (PyData × PyData)} : H a = some (.dK kvs) → RpKv H kvs es → Rp H (.ref a) (.dict es)
inductive RpAll (H : Hp) : List V → List PyData → Prop
  | nil : RpAll H [] []
  | cons {v : V} {vs : List V} {d : PyData} {ds : List PyData} : Rp H v d → RpAll H vs ds → RpAll H (v :: vs) (d :: ds)
inductive RpKv (H : Hp) : List (Key × V) → List (PyData × PyData) → Prop
  | nil : RpKv H [] []
  | cons {k : Key} {v : V} {r : List (Key × V)} {d : PyData} {es : List (PyData × PyData)} : Rp H v d → RpKv H r es → RpKv H ((k, v) :: r) ((keyD k, d) :: es)
end

theorem reads_key {h : Heap} {k : Key} {v : Value} (e : keyIs k v = true) : Reads h v (keyD k) [] := by
  rcases keyIs_shape e with ⟨i, t, rfl, rfl⟩ | ⟨x, t, rfl, rfl⟩
  · exact Reads.int i t
  · exact Reads.str x t

section
variable {X : Cx} {pins : List (Addr × Obj)} {σ : L2.St} {H : Hp} {s : Shared}
theorem not_sys (I : Inv X pins σ H s) (hs : ∃ o, X.base.get? sysModules = some o) {a : Addr} {o : HO} (e : H a = some o) : sysModules ≠ a := by
  obtain ⟨o', h1⟩ := hs
  intro z
  have q := (I.bs _ _ h1).2
  rw [z, e] at q
  cases q
mutual
theorem Rp.reads (I : Inv X pins σ H s) (hs : ∃ o, X.base.get? sysModules = some o) : ∀ {v : V} {d : PyData}, Rp H v d → ∀ u, RelV v u → ∃ as, Reads s.heap u d as ∧ sysModules ∉ as
  | _, _, .non, u, r => by
    cases r
    exact ⟨[], Reads.none, List.not_mem_nil⟩
  | _, _, .bl b, u, r => by
    cases r
    exact ⟨[], Reads.bool b, List.not_mem_nil⟩
  | _, _, .int i, u, r => by
    obtain ⟨t, rfl⟩ := r
    exact ⟨[], Reads.int i t, List.not_mem_nil⟩
  | _, _, .str x, u, r => by
    obtain ⟨t, rfl⟩ := r
    exact ⟨[], Reads.str x t, List.not_mem_nil⟩
  | _, _, .lst (a := a) (xs := xs) e q, u, r => by
    cases r
    obtain ⟨_, its, n, rv, ho⟩ := (show ObjOk X.prog X.w H s.heap a (.lst xs) from I.hok a _ e)
    obtain ⟨as, h1, h2⟩ := RpAll.reads I hs q its rv
    refine ⟨a :: as, Reads.list ho rfl rfl h1, fun z => ?_⟩
    rcases List.mem_cons.mp z with z | z
    · exact not_sys I hs e z
    · exact h2 z
  | _, _, .tup (a := a) (xs := xs) e q, u, r => by
    cases r
    obtain ⟨_, its, rv, o, ho, hc, n, hd⟩ := (show ObjOk X.prog X.w H s.heap a (.tup xs) from I.hok a _ e)
    obtain ⟨as, h1, h2⟩ := RpAll.reads I hs q its rv
    exact ⟨as, Reads.tuple ho hc hd h1, h2⟩
  | _, _, .ftp (a := a) (o := ob) (xs := xs) e q, u, r => by
    cases r
    obtain ⟨_, _, its, rv, o, ho, hc, n, hd⟩ := (show ObjOk X.prog X.w H s.heap a (.frz ob (.tup xs)) from I.hok a _ e)
    obtain ⟨as, h1, h2⟩ := RpAll.reads I hs q its rv
    exact ⟨as, Reads.tuple ho hc hd h1, h2⟩
  | _, _, .dct (a := a) (kvs := kvs) e q, u, r => by
    cases r
    obtain ⟨_, _, vs, kv, o, es, ep, ho, hx, hd, hko, hp, _⟩ := (show ObjOk X.prog X.w H s.heap a (.dK kvs) from I.hok a _ e)
    obtain ⟨as, h1, h2, h3⟩ := RpKv.reads I hs q vs kv es.toList hp
    refine ⟨a :: [] ++ as, Reads.dict ho hx.1 hd h1 h2, fun z => ?_⟩
    rcases List.mem_cons.mp z with z | z
    · exact not_sys I hs e z
    · exact h3 z
theorem RpAll.reads (I : Inv X pins σ H s) (hs : ∃ o, X.base.get? sysModules = some o) : ∀ {vs : List V} {ds : List PyData}, RpAll H vs ds → ∀ us, Vals vs us → ∃ as, ReadsAll s.heap us ds as ∧ sysModules ∉ as
  | _, _, .nil, us, r => by
    cases r
    exact ⟨[], ReadsAll.nil, List.not_mem_nil⟩
  | _, _, .cons q1 q2, us, r => by
    cases r with
    | cons r1 r2 =>
      obtain ⟨as, h1, h2⟩ := Rp.reads I hs q1 _ r1
      obtain ⟨bs, h3, h4⟩ := RpAll.reads I hs q2 _ r2
      exact ⟨as ++ bs, ReadsAll.cons h1 h3, fun z => (List.mem_append.mp z).elim h2 h4⟩
theorem RpKv.reads (I : Inv X pins σ H s) (hs : ∃ o, X.base.get? sysModules = some o) : ∀ {kvs : List (Key × V)} {es : List (PyData × PyData)}, RpKv H kvs es → ∀ vs, KV kvs vs → ∀ ens, Pairs (mixKind X.prog X.w) ens vs →
    ∃ as, ReadsAll s.heap (ens.map (·.key)) (es.map (·.1)) [] ∧ ReadsAll s.heap (ens.map (·.val)) (es.map (·.2)) as ∧ sysModules ∉ as
  | _, _, .nil, vs, kv, ens, p => by
    cases kv
    cases p
    exact ⟨[], ReadsAll.nil, ReadsAll.nil, List.not_mem_nil⟩
  | _, _, .cons q1 q2, vs, kv, ens, p => by
    cases kv with
    | cons k1 k2 =>
      cases p with
      | cons p1 p2 p3 =>
        obtain ⟨e1, e2⟩ := k1
        rw [← p2] at e2
        obtain ⟨as, h1, h2⟩ := Rp.reads I hs q1 _ e2
        obtain ⟨bs, h3, h4, h5⟩ := RpKv.reads I hs q2 _ k2 _ p3
        refine ⟨as ++ bs, ReadsAll.cons (as := []) ?_ h3, ReadsAll.cons h1 h4, fun z => (List.mem_append.mp z).elim h2 h5⟩
        rw [← e1] at p1
        exact reads_key p1
end
end

/-! what stood stands: the same data reads the same -/
mutual
theorem Rp.mono {H H' : Hp} (k : ∀ b o, H b = some o → H' b = some o) : ∀ {v : V} {d : PyData}, Rp H v d → Rp H' v d
  | _, _, .non => .non
  | _, _, .bl b => .bl b
  | _, _, .int i => .int i
  | _, _, .str x => .str x
  | _, _, .lst e q => .lst (k _ _ e) (RpAll.mono k q)
  | _, _, .tup e q => .tup (k _ _ e) (RpAll.mono k q)
  | _, _, .ftp e q => .ftp (k _ _ e) (RpAll.mono k q)
  | _, _, .dct e q => .dct (k _ _ e) (RpKv.mono k q)
theorem RpAll.mono {H H' : Hp} (k : ∀ b o, H b = some o → H' b = some o) : ∀ {vs : List V} {ds : List PyData}, RpAll H vs ds → RpAll H' vs ds
  | _, _, .nil => .nil
  | _, _, .cons q1 q2 => .cons (Rp.mono k q1) (RpAll.mono k q2)
theorem RpKv.mono {H H' : Hp} (k : ∀ b o, H b = some o → H' b = some o) : ∀ {kvs : List (Key × V)} {es : List (PyData × PyData)}, RpKv H kvs es → RpKv H' kvs es
  | _, _, .nil => .nil
  | _, _, .cons q1 q2 => .cons (Rp.mono k q1) (RpKv.mono k q2)
end

section
variable {X : Cx}
/-- repr of a list or a tuple -/
theorem call_repr (hs : ∃ o, X.base.get? sysModules = some o) (hg : X.A.guards = some []) (hu : X.A.units + 200 < cLine) :
    CallR X (.builtin "repr") (fun xs H Q => ∃ (a : Addr) (d : PyData), xs = [.ref a] ∧ Rp H (.ref a) d ∧ d.showable = true ∧ d.depth ≤ 100 ∧ d.shown.length ≤ sizeLine ∧ Q (.str d.shown) H) := by
  intro pins s σ H xs us Q I r h
  obtain ⟨a, d, rfl, hr, h1, h2, h3, q⟩ := h
  obtain ⟨u, rfl, r1⟩ := vals1 r
  cases (show u = Value.ref a from r1)
  obtain ⟨as, rd, na⟩ := Rp.reads I hs hr _ rfl
  exact repr_of_reads' rd h1 (fun _ => na) hg (by omega) (fun _ _ e => e) (fun h' t tk k => ⟨.str d.shown, H, I.kept k, ⟨t, rfl⟩, q⟩) h3
end
end Lf
namespace Lf
open PySem PySem.Spec PyProof.Rows L2

/-! ### the law's own call: nothing is being shown around it (repr's guard is empty), the modules' table stands below all -/
/-- a promise of the def at f for a caller whose repr guard is empty -/
def RunG (P : Program) (w : World) (K : PySem.W.Frag) (mg : Str → Option Value) (base : Heap) (k : Nat) (f : Addr) (fd : FuncData) (ps : List Str) (sp : Sp) : Prop :=
  ∀ (A : Around) (outer : List Env) (s : Shared) (H : Hp) (args : Args) (us : List Value) (vs : List V) (Q : VK) (E : XK), A.guards = some [] →
    Room k A → Env0 P w K mg base A outer s H → BindsTo s fd args (ps.zip us) → Vals vs us → sp vs H Q E → codeAny (model P w) A (.call (.ref f) args) (CR CX0 outer P w H s Q E) s

theorem runG_of {P : Program} {w : World} {K : PySem.W.Frag} {mg : Str → Option Value} {base : Heap} {name qual : Str} {st : Stmt} {f : Addr} {fd : FuncData} {N ps : List Str} {k : Nat} {sp : Sp}
    (Fn : Fun K name qual st f fd) (Sc : FnScope N ps (defScope st)) (lens : ∀ vs H Q E, sp vs H Q E → vs.length = ps.length)
    (bd : ∀ (cdv : Value) (A : Around) (outer : List Env) (s : Shared) (H : Hp) (vs : List V) (Q : VK) (E : XK), A.guards = some [] → Room k (A.deeper (envOfC qual (defScope st) s.heap.objs.size f cdv)) → sp vs H Q E →
      ∃ t, PSs (cxOf CX0 P w K mg base N qual (defScope st) f cdv A outer s H E).nox (defBody st) t ∧ t { nx := fun _ H' => Q .non H', rt := Q } (start N vs) H) :
    RunG P w K mg base (k + 1) f fd ps sp := by
  obtain ⟨oc, od, kV, doc, pm, an, cdv, ct, osl, rfl, look, code⟩ := Fn.ex
  intro A outer s H args us vs Q E gu room env bind vals want
  have within : K.In s.heap := env.mod.kin.keeps fun b o z => (env.bs b o z).1
  have free : s.heap.NoLimit := env.mod.nolimit.keeps fun b o z => (env.bs b o z).1
  have kinds : ∀ y ∈ ps.zip us, (defScope st).names.lookup y.1 = some .local ∨ ((defScope st).names.lookup y.1 = some .cell ∧ ((cellsFrom (s.heap.objs.size + 1) (defScope st).names []).lookup y.1).isSome = true) := by
    rintro ⟨n, v⟩ mem
    exact (Sc.par n (List.of_mem_zip mem).1).imp id fun z => ⟨z, PySem.W.cellsFrom_some _ _ _ (.inl z)⟩
  apply codeAny_call_function room.depth (within _ _ look) rfl Sc.co Sc.gen rfl (PySem.W.codeRec_of within code)
  apply bind
  apply wpAny_newFunctionEnv_cells Sc.kind kinds
  rintro env' rfl s1 called
  refine ⟨free.keeps called.toInCall.keep, codeAny_func ?_⟩
  obtain ⟨t, walk, read⟩ := bd cdv A outer s H vs Q E gu (room.deeper _) want
  have inv : Inv (cxOf CX0 P w K mg base N qual (defScope st) f cdv A outer s H E) [] (start N vs) H s1 := inv_start Sc room.hd env (lens _ _ _ _ want) vals called
  refine wpAny_mono (walk.nox.run [] s1 (start N vs) H _ inv read) ?_ (fun _ _ z => z)
  rintro (_ | u | _ | _) s' got
  · obtain ⟨σ', H', J, q⟩ := got
    exact ⟨.non, H', J.os, J.bare, J.base, J.hok, rfl, q⟩
  all_goals first
    | (obtain ⟨v, σ', H', J, rv, q⟩ := got; exact ⟨v, H', J.os, J.bare, J.base, J.hok, rv, q⟩)
    | (obtain ⟨_, _, _, q⟩ := got; exact q.elim)

/-- from the law's promise to the goal that k_head leaves; F may use the loose names' values and the modules' table -/
theorem walk_g {l : PySem.W.OpenLaw} {n k : Nat} {q : Program} {loose : List Str} {XP : (Str → Option Value) → Heap → Prop} {YP : World → Heap → Prop} {d : DefRec} {K : Params → PySem.W.Frag} {sp : PySem.W.Frag → Sp} {x : Str}
    (most : l.most = some n) (fits : n ≤ sizeLine) (plain : d.params.defaults = []) (room : Room k callerA) (noimp : importsNone q = true)
    (hY : ∀ (w : World) (h : Heap), YP w h → (K w.params).In h)
    (F : ∀ (w : World) (mg : Str → Option Value) (fa : Addr) (h : Heap), (K w.params).In h → h.Ns mainGlobals mg → XP mg h → mg d.name = some (.ref fa) →
      ∃ fd : FuncData, (∀ (s : Shared) (u : Value), BindsTo s fd ⟨[u], []⟩ [(x, u)]) ∧
        ∀ base : Heap, (K w.params).In base → base.Ns mainGlobals mg → (∃ o, base.get? sysModules = some o) → RunG l.prog w (K w.params) mg base k fa fd [x] (sp (K w.params)))
    (hsp : ∀ (K : PySem.W.Frag) (H : Hp) (a : Addr) (ns : List Int), ns.length ≤ n → Only H → SqL K H a (ns.map V.int) → sp K [.ref a] H (fun v _ => v = .bl true) fun _ _ _ => False) :
    PySem.W.WalkO q loose XP YP l.row.toRowW d [] (fun f vs => PySem.call f vs) := by
  refine Att.attach_call most plain ?_
  intro w s₀ s₁ mg mb fa o pm cd doc a vs ns Gr Y _ _ _ named script areInts short gens
  have KX := hY w _ Y
  obtain ⟨fd, binds, FB⟩ := F w mg fa _ KX Gr.T.g Gr.X named
  obtain ⟨mm, hmm, _⟩ := (Gr.T.seer noimp).mods
  have pairs := vals_ints areInts
  have size := areInts.length
  have long : ns.length ≤ sizeLine := Nat.le_trans short fits
  -- whatever of the script is tracked
  have go : ∀ H : Hp, Only H → SqL (K w.params) H a (ns.map V.int) → HOk l.prog w H s₁.heap → (∀ b, H b ≠ none → b = a) → (H a ≠ none → (K w.params).lookup a = none) →
      codeAny (model l.prog w) callerA (.call (.ref fa) ⟨[.ref a], []⟩) (fun r s' => r = .ok (.ret (.bool true)) ∧ OldK s₁.heap s'.heap ∧ s'.os = s₁.os ∧ AllBare s'.gens) s₁ := by
    intro H only listed held lone off
    have low : ∀ {b : Addr} {m : Str → Option Value}, s₁.heap.Ns b m → (hidT s₁.heap H).Ns b m := by
      rintro b m ⟨ob, es, ep, z, dz, rz⟩
      refine ⟨ob, es, ep, hidT_get z ?_, dz, rz⟩
      cases hb : H b with
      | none => rfl
      | some u =>
        obtain rfl := lone b (by rw [hb]; exact fun z => nomatch z)
        rw [script] at z
        cases z
        cases dz
    have inb : (K w.params).In (hidT s₁.heap H) := by
      intro b ob z
      refine hidT_get (KX b ob z) ?_
      cases hb : H b with
      | none => rfl
      | some u =>
        obtain rfl := lone b (by rw [hb]; exact fun z => nomatch z)
        rw [off (by rw [hb]; exact fun z => nomatch z)] at z
        cases z
    have modu : Mod (K w.params) mg (hidT s₁.heap H) := by
      obtain ⟨mc, c1, c2⟩ := Gr.T.nolimit
      exact ⟨inb, low Gr.T.g, ⟨mb, low Gr.T.b, Gr.T.builtins⟩, ⟨mc, low c1, c2⟩⟩
    have e0 : Env0 l.prog w (K w.params) mg (hidT s₁.heap H) callerA [] s₁ H :=
      ⟨rfl, modu, fun b ob z => of_hidT z, Nat.le_of_eq (hidT_size _ _), trivial, (fun b z => nomatch z), held, AllBare.of_eq gens⟩
    have sys : ∃ ob, (hidT s₁.heap H).get? sysModules = some ob := by
      obtain ⟨ob, _, _, z, _⟩ := low hmm
      exact ⟨ob, z⟩
    have done := FB _ inb (low Gr.T.g) sys callerA [] s₁ H ⟨[.ref a], []⟩ [.ref a] [.ref a] _ _ rfl room e0 (binds s₁ (.ref a)) (.cons rfl .nil) (hsp _ H a ns short only listed)
    refine codeAny_mono done ?_
    intro r s' got
    cases r with
    | error er => exact False.elim got
    | ok fl =>
      cases fl with
      | next => exact False.elim got
      | brk => exact False.elim got
      | cont => exact False.elim got
      | ret u =>
        obtain ⟨v, H', hos, bare, un, held', rv, hv⟩ := got
        cases (show v = .bl true from hv)
        cases (show u = Value.bool true from rv)
        refine ⟨rfl, OldK.of_keep ?_, hos, bare⟩
        intro b ob z
        rcases only b with hb | ⟨o2, xs, hb⟩
        · exact un.keep b ob z hb (fun y => nomatch y) (fun y => nomatch y)
        · have z1 := (held b _ hb).1
          have z2 := (held' b _ (un.frzs b o2 _ hb)).1
          rw [z] at z1
          cases z1
          exact z2
  cases lk : (K w.params).lookup a with
  | none =>
    refine go (fun b => if b = a then some (.frz { cls := .type "list", data := .seq vs.toArray } (.lst (ns.map V.int))) else none) ?_ (.inl (.inr ⟨_, if_pos rfl⟩)) ?_ ?_ (fun _ => lk)
    · intro b
      by_cases hb : b = a
      · exact .inr ⟨_, _, if_pos hb⟩
      · exact .inl (if_neg hb)
    · intro b u z
      by_cases hb : b = a
      · subst hb
        have z := (if_pos rfl).symm.trans z
        cases z
        exact ⟨script, by rw [List.length_map]; exact long, vs, _, pairs, script⟩
      · have z := (if_neg hb).symm.trans z
        cases z
    · intro b z
      by_cases hb : b = a
      · exact hb
      · exact absurd (if_neg hb) z
  | some ob =>
    have z := KX a ob lk
    rw [script] at z
    cases z
    exact go (fun _ => none) (fun _ => .inl rfl) (.inr ⟨_, vs.toArray, _, lk, rfl, rfl, rfl, by rw [List.size_toArray, size]; exact long, by simpa using pairs⟩) (fun b u z => nomatch z) (fun b z => absurd rfl z) (fun z => absurd rfl z)
end Lf
/-! ### forests: plain mathematics -/
namespace Lf
/-- the parent of v -/
def par (fs : List Nat) (v : Nat) : Nat := fs.getD v 0
/-- k steps lead from v to a root, no fewer -/
inductive Rch (fs : List Nat) : Nat → Nat → Prop
  | root {v : Nat} : par fs v = v → Rch fs 0 v
  | step {k v : Nat} : par fs v ≠ v → Rch fs k (par fs v) → Rch fs (k + 1) v
/-- the way from v to its root -/
inductive Pth (fs : List Nat) : Nat → List Nat → Prop
  | root {v : Nat} : par fs v = v → Pth fs v [v]
  | step {v : Nat} {l : List Nat} : par fs v ≠ v → Pth fs (par fs v) l → Pth fs v (v :: l)
/-- v lies on the way of u -/
inductive Bel (fs : List Nat) (v : Nat) : Nat → Prop
  | refl : Bel fs v v
  | step {u : Nat} : par fs u ≠ u → Bel fs v (par fs u) → Bel fs v u
structure Forest (fs : List Nat) : Prop where
  pos : 0 < fs.length
  few : fs.length ≤ 24
  rng : ∀ v, v < fs.length → par fs v < fs.length
  rch : ∀ v, v < fs.length → ∃ k, Rch fs k v
theorem Rch.inj {fs : List Nat} {j k v : Nat} (a : Rch fs j v) (b : Rch fs k v) : j = k := by
  induction a generalizing k with
  | root h =>
    cases b with
    | root _ => rfl
    | step h' _ => exact absurd h h'
  | step h _ ih =>
    cases b with
    | root h' => exact absurd h' h
    | step _ r => rw [ih r]
theorem Bel.le {fs : List Nat} {v u j k : Nat} (b : Bel fs v u) (a : Rch fs j u) (c : Rch fs k v) : k ≤ j := by
  induction b generalizing j with
  | refl => rw [a.inj c]; exact Nat.le_refl _
  | step h _ ih =>
    cases a with
    | root h' => exact absurd h' h
    | step _ r => exact Nat.le_succ_of_le (ih r)
/-- nobody lies below himself -/
theorem Bel.no {fs : List Nat} {v : Nat} (f : ∃ k, Rch fs k v) (h : par fs v ≠ v) : ¬ Bel fs v (par fs v) := fun b => by
  obtain ⟨k, r⟩ := f
  cases r with
  | root h' => exact h h'
  | step _ r' =>
    have := b.le r' (.step h r')
    omega
theorem Pth.of {fs : List Nat} {k v : Nat} (a : Rch fs k v) : ∃ l, Pth fs v l ∧ l.length = k + 1 := by
  induction a with
  | root h => exact ⟨_, .root h, rfl⟩
  | step h _ ih =>
    obtain ⟨l, h1, h2⟩ := ih
    exact ⟨_, .step h h1, by rw [List.length_cons, h2]⟩
theorem Pth.inj {fs : List Nat} {v : Nat} {l m : List Nat} (a : Pth fs v l) (b : Pth fs v m) : l = m := by
  induction a generalizing m with
  | root h =>
    cases b with
    | root _ => rfl
    | step h' _ => exact absurd h h'
  | step h _ ih =>
    cases b with
    | root h' => exact absurd h' h
    | step _ r => rw [ih r]
theorem Pth.bel {fs : List Nat} {u : Nat} {l : List Nat} (a : Pth fs u l) (v : Nat) : v ∈ l ↔ Bel fs v u := by
  induction a with
  | root h =>
    refine ⟨fun z => ?_, fun z => ?_⟩
    · rw [List.mem_singleton.mp z]
      exact .refl
    · cases z with
      | refl => exact List.mem_singleton.mpr rfl
      | step h' _ => exact absurd h h'
  | step h _ ih =>
    refine ⟨fun z => ?_, fun z => ?_⟩
    · rcases List.mem_cons.mp z with z | z
      · rw [z]
        exact .refl
      · exact .step h (ih.mp z)
    · cases z with
      | refl => exact List.mem_cons_self
      | step _ b => exact List.mem_cons_of_mem _ (ih.mpr b)
theorem Bel.lt {fs : List Nat} (rng : ∀ v, v < fs.length → par fs v < fs.length) {v u : Nat} (b : Bel fs v u) (h : u < fs.length) : v < fs.length := by
  induction b with
  | refl => exact h
  | step _ _ ih => exact ih (rng _ h)
theorem Pth.nodup {fs : List Nat} (rch : ∀ v, v < fs.length → ∃ k, Rch fs k v) (rng : ∀ v, v < fs.length → par fs v < fs.length) {u : Nat} {l : List Nat} (a : Pth fs u l) (h : u < fs.length) : l.Nodup := by
  induction a with
  | root _ => exact List.nodup_cons.mpr ⟨List.not_mem_nil, List.nodup_nil⟩
  | step hn p ih => exact List.nodup_cons.mpr ⟨fun z => Bel.no (rch _ h) hn ((p.bel _).mp z), ih (rng _ h)⟩
/-- a list without repetition of numbers below n has at most n items -/
theorem nodup_le : ∀ {n : Nat} {l : List Nat}, l.Nodup → (∀ x ∈ l, x < n) → l.length ≤ n
  | 0, [], _, _ => Nat.le_refl _
  | 0, x :: _, _, hb => absurd (hb x List.mem_cons_self) (Nat.not_lt_zero _)
  | n + 1, l, h, hb => by
    by_cases hn : n ∈ l
    · have h2 := List.length_erase_of_mem hn
      have h3 : (l.erase n).length ≤ n := nodup_le (h.erase n) fun x hx => by
        have h4 := (List.Nodup.mem_erase_iff h).mp hx
        have := hb x h4.2
        have := h4.1
        omega
      have h5 : 0 < l.length := List.length_pos_of_mem hn
      omega
    · refine Nat.le_succ_of_le (nodup_le h fun x hx => ?_)
      have := hb x hx
      have : x ≠ n := fun e => hn (e ▸ hx)
      omega
theorem Forest.path {fs : List Nat} (F : Forest fs) {v : Nat} (h : v < fs.length) : ∃ l, Pth fs v l ∧ l.Nodup ∧ l.length ≤ fs.length ∧ (∀ x ∈ l, x < fs.length) ∧ Rch fs (l.length - 1) v ∧ 0 < l.length := by
  obtain ⟨k, r⟩ := F.rch v h
  obtain ⟨l, p, e⟩ := Pth.of r
  have nd := p.nodup F.rch F.rng h
  have lt : ∀ x ∈ l, x < fs.length := fun x hx => ((p.bel x).mp hx).lt F.rng h
  refine ⟨l, p, nd, nodup_le nd lt, lt, ?_, by omega⟩
  rw [e]
  exact r
/-! new forests of old ones -/
theorem par_set {fs : List Nat} {a b v : Nat} (h : a < fs.length) : par (fs.set a b) v = if v = a then b else par fs v := by
  unfold par
  rw [List.getD_eq_getElem?_getD, List.getD_eq_getElem?_getD, List.getElem?_set]
  by_cases e : a = v
  · subst e
    rw [if_pos rfl, if_pos rfl, if_pos h]
    rfl
  · rw [if_neg e, if_neg (fun z => e z.symm)]
/-- reaching a root, without a count -/
def Up (fs : List Nat) (v : Nat) : Prop := ∃ k, Rch fs k v
theorem Up.root {fs : List Nat} {v : Nat} (h : par fs v = v) : Up fs v := ⟨0, .root h⟩
theorem Up.step {fs : List Nat} {v : Nat} (h : Up fs (par fs v)) : Up fs v := by
  obtain ⟨k, r⟩ := h
  by_cases e : par fs v = v
  · exact .root e
  · exact ⟨k + 1, .step e r⟩
/-- v is put below w, on whose way it does not lie -/
theorem Forest.moved {fs : List Nat} (F : Forest fs) {v w : Nat} (hv : v < fs.length) (hw : w < fs.length) (nb : ¬ Bel fs v w) : Forest (fs.set v w) := by
  have key : ∀ {k u : Nat}, Rch fs k u → ¬ Bel fs v u → Up (fs.set v w) u := by
    intro k u r
    induction r with
    | root h =>
      rename_i u
      intro z
      have ne : ¬ u = v := fun e => z (e ▸ .refl)
      exact .root (by rw [par_set hv, if_neg ne]; exact h)
    | step h r ih =>
      rename_i k u
      intro z
      have ne : ¬ u = v := fun e => z (e ▸ .refl)
      refine .step ?_
      rw [par_set hv, if_neg ne]
      exact ih fun b => z (.step h b)
  obtain ⟨kw, rw'⟩ := F.rch w hw
  have upw := key rw' nb
  refine ⟨by rw [List.length_set]; exact F.pos, by rw [List.length_set]; exact F.few, fun u hu => ?_, fun u hu => ?_⟩
  · rw [List.length_set] at hu ⊢
    rw [par_set hv]
    by_cases e : u = v
    · rw [if_pos e]
      exact hw
    · rw [if_neg e]
      exact F.rng u hu
  · rw [List.length_set] at hu
    obtain ⟨k, r⟩ := F.rch u hu
    clear hu
    show Up _ _
    induction r with
    | root h =>
      rename_i u
      by_cases e : u = v
      · refine .step ?_
        rw [par_set hv, if_pos e]
        exact upw
      · exact .root (by rw [par_set hv, if_neg e]; exact h)
    | step h _ ih =>
      rename_i k u _
      by_cases e : u = v
      · refine .step ?_
        rw [par_set hv, if_pos e]
        exact upw
      · refine .step ?_
        rw [par_set hv, if_neg e]
        exact ih
theorem par_range {n v : Nat} (h : v < n) : par (List.range n) v = v := by
  unfold par
  rw [List.getD_eq_getElem?_getD, List.getElem?_range h]
  rfl
theorem Forest.range {n : Nat} (h0 : 0 < n) (h1 : n ≤ 24) : Forest (List.range n) := by
  refine ⟨by rw [List.length_range]; exact h0, by rw [List.length_range]; exact h1, fun v hv => ?_, fun v hv => ?_⟩
  · rw [List.length_range] at hv
    rw [par_range hv, List.length_range]
    exact hv
  · rw [List.length_range] at hv
    exact Up.root (par_range hv)
def tops (fs : List Nat) : List Nat := (List.range fs.length).filter fun v => decide (par fs v = v)
theorem mem_tops {fs : List Nat} {v : Nat} : v ∈ tops fs ↔ v < fs.length ∧ par fs v = v := by
  unfold tops
  rw [List.mem_filter, List.mem_range, decide_eq_true_iff]
theorem tops_nodup (fs : List Nat) : (tops fs).Nodup := List.Pairwise.filter _ List.nodup_range
/-- one root below another: one root fewer -/
theorem tops_moved {fs : List Nat} {a b : Nat} (ha : a ∈ tops fs) (hb : b ∈ tops fs) (ne : a ≠ b) : (tops (fs.set a b)).length + 1 = (tops fs).length := by
  have h1 := mem_tops.mp ha
  have e : tops (fs.set a b) = (tops fs).filter fun v => decide (v ≠ a) := by
    unfold tops
    rw [List.length_set, List.filter_filter]
    refine List.filter_congr fun v hv => ?_
    rw [par_set h1.1]
    by_cases z : v = a
    · subst z
      rw [if_pos rfl]
      simp [Ne.symm ne]
    · rw [if_neg z]
      simp [z]
  have e2 : (tops fs).filter (fun v => decide (v ≠ a)) = (tops fs).erase a := by
    rw [List.Nodup.erase_eq_filter (tops_nodup fs)]
    refine List.filter_congr fun v _ => ?_
    by_cases z : v = a <;> simp [z]
  rw [e, e2, List.length_erase_of_mem ha]
  have := List.length_pos_of_mem ha
  omega
end Lf
namespace Lf
/-! ### all that lies below v, found from children to children -/
def kids (fs : List Nat) (y : Nat) : List Nat := (List.range fs.length).filter fun u => decide (par fs u = y) && decide (u ≠ par fs u)
theorem mem_kids {fs : List Nat} {y u : Nat} : u ∈ kids fs y ↔ u < fs.length ∧ par fs u = y ∧ u ≠ par fs u := by
  unfold kids
  rw [List.mem_filter, List.mem_range, Bool.and_eq_true_iff, decide_eq_true_iff, decide_eq_true_iff]
structure Bfs (fs : List Nat) (v : Nat) (ins : List Nat) (c : Nat) : Prop where
  nd : ins.Nodup
  bel : ∀ u ∈ ins, u < fs.length ∧ Bel fs v u
  top : v ∈ ins
  cnt : c ≤ ins.length
  cls : ∀ j u, j < c → ins[j]? = some (par fs u) → u < fs.length → par fs u ≠ u → u ∈ ins
  org : ∀ u ∈ ins, u = v ∨ (par fs u ≠ u ∧ ∃ j, j < c ∧ ins[j]? = some (par fs u))
theorem Bfs.start {fs : List Nat} {v : Nat} (h : v < fs.length) : Bfs fs v [v] 0 :=
  ⟨List.nodup_cons.mpr ⟨List.not_mem_nil, List.nodup_nil⟩, fun u hu => by rw [List.mem_singleton.mp hu]; exact ⟨h, .refl⟩, List.mem_singleton.mpr rfl, Nat.zero_le _, fun j u hj => absurd hj (Nat.not_lt_zero _), fun u hu => .inl (List.mem_singleton.mp hu)⟩
theorem Bfs.le {fs : List Nat} {v c : Nat} {ins : List Nat} (B : Bfs fs v ins c) : ins.length ≤ fs.length := nodup_le B.nd fun u hu => (B.bel u hu).1
theorem Bfs.next {fs : List Nat} (rch : ∀ v, v < fs.length → ∃ k, Rch fs k v) {v c y : Nat} {ins : List Nat} (B : Bfs fs v ins c) (hy : ins[c]? = some y) : Bfs fs v (ins ++ kids fs y) (c + 1) := by
  have hc : c < ins.length := by
    rcases Nat.lt_or_ge c ins.length with z | z
    · exact z
    · rw [List.getElem?_eq_none z] at hy
      cases hy
  have ym : y ∈ ins := List.mem_of_getElem? hy
  have yb := B.bel y ym
  refine ⟨?_, ?_, ?_, ?_, ?_, ?_⟩
  · refine List.nodup_append.mpr ⟨B.nd, List.Pairwise.filter _ List.nodup_range, ?_⟩
    intro u hu w hw e
    subst e
    obtain ⟨k1, k2, k3⟩ := mem_kids.mp hw
    rcases B.org u hu with z | ⟨_, j, hj, ej⟩
    · subst z
      exact Bel.no (rch _ k1) (Ne.symm k3) (k2 ▸ yb.2)
    · rw [k2] at ej
      have e2 : j = c := (List.getElem?_inj (Nat.lt_trans hj hc) B.nd).mp (ej.trans hy.symm)
      omega
  · intro u hu
    rcases List.mem_append.mp hu with z | z
    · exact B.bel u z
    · obtain ⟨k1, k2, k3⟩ := mem_kids.mp z
      exact ⟨k1, .step (Ne.symm k3) (k2 ▸ yb.2)⟩
  · exact List.mem_append_left _ B.top
  · rw [List.length_append]
    omega
  · intro j u hj ej hu hn
    by_cases z : j < c
    · rw [List.getElem?_append_left (by omega)] at ej
      exact List.mem_append_left _ (B.cls j u z ej hu hn)
    · have z2 : j = c := by omega
      subst z2
      rw [List.getElem?_append_left hc, hy] at ej
      exact List.mem_append_right _ (mem_kids.mpr ⟨hu, (Option.some.inj ej).symm, Ne.symm hn⟩)
  · intro u hu
    rcases List.mem_append.mp hu with z | z
    · rcases B.org u z with z | ⟨h1, j, hj, ej⟩
      · exact .inl z
      · exact .inr ⟨h1, j, by omega, by rw [List.getElem?_append_left (by omega)]; exact ej⟩
    · obtain ⟨k1, k2, k3⟩ := mem_kids.mp z
      exact .inr ⟨Ne.symm k3, c, Nat.lt_succ_self _, by rw [List.getElem?_append_left hc, hy, k2]⟩
theorem Bfs.done {fs : List Nat} (rng : ∀ v, v < fs.length → par fs v < fs.length) {v : Nat} {ins : List Nat} (B : Bfs fs v ins ins.length) (u : Nat) : u ∈ ins ↔ u < fs.length ∧ Bel fs v u := by
  refine ⟨B.bel u, fun hh => ?_⟩
  obtain ⟨h, b⟩ := hh
  induction b with
  | refl => exact B.top
  | step hn _ ih =>
    obtain ⟨j, hj, ej⟩ := List.getElem_of_mem (ih (rng _ h))
    exact B.cls j _ hj (by rw [List.getElem?_eq_getElem hj, ej]) h hn
end Lf
namespace Lf
open PySem PySem.Spec PyProof.Rows L2
/-! ### rules -/
/-- a list or a tuple -/
def SqQ (K : PySem.W.Frag) (H : Hp) (p : Addr) (xs : List V) : Prop := SqL K H p xs ∨ SqT K H p xs
theorem same_seqT {K : PySem.W.Frag} {H H' : Hp} {a : Addr} {xs : List V} (e : Same H H') (h : SqT K H a xs) : SqT K H' a xs := by
  rcases h with (h | ⟨o, h⟩) | h
  · exact .inl (.inl (e _ _ h))
  · exact .inl (.inr ⟨o, e _ _ h⟩)
  · exact .inr h
theorem SqQ.same {K : PySem.W.Frag} {H H' : Hp} {p : Addr} {xs : List V} (s : Same H H') : SqQ K H p xs → SqQ K H' p xs
  | .inl h => .inl (s.seq h)
  | .inr h => .inr (same_seqT s h)
def rIxQ (K : PySem.W.Frag) : R2 := fun x y H Q => ∃ (p : Addr) (xs : List V) (i : Int) (v : V), x = .ref p ∧ y = .int i ∧ SqQ K H p xs ∧ atI xs i = some v ∧ Q v H
section
variable {X : Cx}
theorem ix_q : IxR X (rIxQ X.K) := by
  intro value slice pins s σ H x y v u Q I rx ry q hs
  obtain ⟨p, xs, i, z, h1, h2, h3, h4, h5⟩ := q
  rcases h3 with h3 | h3
  · exact ix_list value slice pins s σ H x y v u Q I rx ry ⟨p, xs, i, z, h1, h2, h3, h4, h5⟩ hs
  · exact ix_tup value slice pins s σ H x y v u Q I rx ry ⟨p, xs, i, z, h1, h2, h3, h4, h5⟩ hs
end
/-! ### xs[::k], k one or minus one -/
def tStepL (K : PySem.W.Frag) (te ts : TE) : TE := fun σ H Q => te σ H fun x H1 => ts σ H1 fun y H2 => ∃ (a : Addr) (xs : List V) (k : Int), x = .ref a ∧ y = .int k ∧ SqL K H2 a xs ∧ (k = 1 ∨ k = -1) ∧ ∀ p, H2 p = none → ∀ zs, (zs = xs ∨ zs = xs.reverse) → Q (.ref p) (upd H2 p (.lst zs))
theorem pick_one (its : Array Value) : slicePick its none none (some 1) = its := slicePick_all its
section
variable {X : Cx} {e st : Expr} {te ts : TE} {p3 pos : Pos}
theorem pe_stepL (he : PE X e te) (hst : PE X st ts) (tl : ∀ (a b : Addr), subscripted (.Slice none none (some st) p3) false (.ref a) (.ref b) = operate [.ref a, .ref b] (getItem (.ref a) (.ref b)) := by intros; with_unfolding_all rfl) :
    PE X (.Subscript e (.Slice none none (some st) p3) pos) (tStepL X.K te ts) := by
  refine ⟨fun pins s σ H Q I h => ?_⟩
  refine Subscript_ (thn (he.run pins s σ H _ I h) ?_)
  rintro v s1 ⟨x, H1, I1, r1, q1⟩
  refine wpAny_Slice (thn (po_none.run pins s1 σ H1 (fun o G => o = none ∧ G = H1) I1 ⟨rfl, rfl⟩) ?_)
  rintro vl s2 ⟨ol, G2, I2, pl, rfl, rfl⟩
  refine thn (po_none.run pins s2 σ G2 (fun o G => o = none ∧ G = G2) I2 ⟨rfl, rfl⟩) ?_
  rintro vu s3 ⟨ou, G3, I3, pu, rfl, rfl⟩
  rw [evalPart_some]
  refine thn (hst.run pins s3 σ G3 _ I3 q1) ?_
  rintro vs s4 ⟨y, H4, I4, ry, a, xs, k, rfl, rfl, hx, hk, q⟩
  cases (show v = Value.ref a from r1)
  obtain ⟨tk, rfl⟩ := ry
  have I5 : Inv X pins σ H4 { s4 with heap := s4.heap.push { cls := .type "slice", data := .fields #[vl, vu, .int k tk] } } := I4.kept (t' := s4.toks) fun b ob z => Heap.get?_push_of_some _ z
  obtain ⟨its, rv, plain, small⟩ := I5.list hx
  have same := rv.length
  show wpAny (model X.prog X.w) X.A (subscriptTail e (.Slice none none (some st) p3) (.ref a) (.ref s4.heap.objs.size)) (EP X pins σ Q) X.xe { s4 with heap := s4.heap.push { cls := .type "slice", data := .fields #[vl, vu, .int k tk] } }
  refine tail_any (ops := [.ref a, .ref s4.heap.objs.size]) plain.isList.typeIs (PySem.slot_list_getitem.lookup) ?_ (tl a _)
  rcases hk with rfl | rfl
  · refine wpAny_getItem_list_slice plain.isList (Heap.IsSliceOf.new _ vl vu _) pl pu (IsPart.int 1 tk) (by decide) ?_ (by rw [List.size_toArray]; omega)
    rw [pick_one]
    refine ⟨.ref _, _, I5.laid (t' := s4.toks) (o := .lst xs) (fun b ob z => Heap.get?_push_of_some _ z) (Nat.le_refl _) ?_, rfl, q _ (I5.hok.fresh (Nat.le_refl _)) xs (.inl rfl)⟩
    exact ⟨small, its, 0, rv, Heap.get?_push_size _ rfl⟩
  · refine wpAny_getItem_list_slice plain.isList (Heap.IsSliceOf.new _ vl vu _) pl pu (IsPart.int (-1) tk) (by decide) ?_ (by rw [List.size_toArray]; omega)
    rw [PySem.W.krv_pick]
    refine ⟨.ref _, _, I5.laid (t' := s4.toks) (o := .lst xs.reverse) (fun b ob z => Heap.get?_push_of_some _ z) (Nat.le_refl _) ?_, rfl, q _ (I5.hok.fresh (Nat.le_refl _)) xs.reverse (.inr rfl)⟩
    exact ⟨by rw [List.length_reverse]; exact small, _, 0, rv.reverse, Heap.get?_push_size _ rfl⟩
end
/-- numbers as values -/
def nv (l : List Nat) : List V := l.map fun x => V.int (x : Nat)
theorem nv_length (l : List Nat) : (nv l).length = l.length := List.length_map ..
theorem nv_get {l : List Nat} {i : Nat} (h : i < l.length) : (nv l)[i]? = some (.int ((l.getD i 0 : Nat) : Int)) := by
  unfold nv
  rw [List.getElem?_map, List.getD_eq_getElem?_getD, List.getElem?_eq_getElem h]
  rfl
theorem nv_some {l : List Nat} {i : Nat} {v : V} (h : (nv l)[i]? = some v) : i < l.length ∧ v = .int ((l.getD i 0 : Nat) : Int) := by
  have hi : i < l.length := by
    rcases Nat.lt_or_ge i l.length with z | z
    · exact z
    · rw [List.getElem?_eq_none (by rw [nv_length]; exact z)] at h
      cases h
  rw [nv_get hi] at h
  exact ⟨hi, (Option.some.inj h).symm⟩
theorem nv_append (l m : List Nat) : nv (l ++ m) = nv l ++ nv m := List.map_append ..
theorem dpNv {K : PySem.W.Frag} {H : Hp} : ∀ l : List Nat, DpAll K H (nv l) ((l.map fun x => ((x : Nat) : Int)).map PyData.int)
  | [] => .nil
  | x :: l => .cons (.int _) (dpNv l)
end Lf
namespace Lf
open PySem PySem.Spec PyProof.Rows L2
/-! ### the drawing well: a list of great numbers at l and a state below 2 ^ 64, both in the list at w -/
def Well (w l : Addr) (H : Hp) : Prop := w ≠ l ∧ ∃ (xs : List Int) (st : Int), H w = some (.lst [.ref l, .int st]) ∧ H l = some (.lst (xs.map V.int)) ∧ xs.length ≤ 63 ∧ 0 ≤ st ∧ st < 18446744073709551616
def Keep (w l : Addr) (H H' : Hp) : Prop := ∀ b o, b ≠ w → b ≠ l → H b = some o → H' b = some o
theorem Keep.refl {w l : Addr} {H : Hp} : Keep w l H H := fun _ _ _ _ h => h
theorem Keep.trans {w l : Addr} {H H1 H2 : Hp} (a : Keep w l H H1) (b : Keep w l H1 H2) : Keep w l H H2 := fun c o h1 h2 h => b c o h1 h2 (a c o h1 h2 h)
theorem Keep.of {w l : Addr} {H H1 : Hp} (a : Same H H1) : Keep w l H H1 := fun c o _ _ h => a c o h
theorem same_new {H : Hp} {p : Addr} {o : HO} (h : H p = none) : Same H (upd H p o) := fun b u e => by
  rw [upd_ne (ne_of_none e h)]
  exact e
theorem Well.same {w l : Addr} {H H' : Hp} (a : Well w l H) (s : Same H H') : Well w l H' := by
  obtain ⟨n, xs, st, h1, h2, h3⟩ := a
  exact ⟨n, xs, st, s _ _ h1, s _ _ h2, h3⟩

theorem dpInts {K : PySem.W.Frag} {H : Hp} : ∀ xs : List Int, DpAll K H (xs.map V.int) (xs.map PyData.int)
  | [] => .nil
  | x :: xs => .cons (.int x) (dpInts xs)
theorem layInts : ∀ xs : List Int, PyData.canLayAll0 (xs.map PyData.int) = true
  | [] => rfl
  | x :: xs => by
    show (PyData.canLay0 (.int x) && PyData.canLayAll0 (xs.map PyData.int)) = true
    rw [layInts xs]
    rfl
theorem deepInts : ∀ xs : List Int, PyData.depthAll (xs.map PyData.int) = 0
  | [] => rfl
  | x :: xs => by
    show max (PyData.depth (.int x)) (PyData.depthAll (xs.map PyData.int)) = 0
    rw [deepInts xs]
    rfl
theorem shInts (xs : List Int) : SeqAt.shaped (.list (xs.map PyData.int)) = true := by
  show (PyData.canLayAll0 (xs.map PyData.int) && decide (PyData.depthAll (xs.map PyData.int) + 1 ≤ 64)) = true
  rw [layInts, deepInts]
  rfl
theorem get_last {α : Type} (ys : List α) (y : α) : (ys ++ [y])[(ys ++ [y]).length - 1]? = some y := by
  rw [List.length_append]
  show (ys ++ [y])[ys.length]? = some y
  simp

theorem nil_or_snoc {α : Type} (xs : List α) : xs = [] ∨ ∃ ys y, xs = ys ++ [y] := by
  rcases List.eq_nil_or_concat xs with h | ⟨ys, y, h⟩
  · exact .inl h
  · exact .inr ⟨ys, y, by rw [h, List.concat_eq_append]⟩

def spWell (K : PySem.W.Frag) : Sp := fun vs H Q _ => ∃ (a : Addr) (ns : List Int), vs = [.ref a] ∧ SqL K H a (ns.map V.int) ∧ ns.length ≤ 63 ∧
  ∀ H' w l, Same H H' → Well w l H' → H w = none → H l = none → Q (.ref w) H'
def spPull : Sp := fun vs H Q _ => ∃ (w l : Addr) (many : Int), vs = [.ref w, .int many] ∧ Well w l H ∧ 0 < many ∧ many < 1073741824 ∧
  ∀ r H', 0 ≤ r → r < many → Well w l H' → Keep w l H H' → Q (.int r) H'
def spItem : Sp := fun vs H Q _ => ∃ (w l p : Addr) (xs : List V), vs = [.ref w, .ref p] ∧ Well w l H ∧ H p = some (.lst xs) ∧ p ≠ w ∧ p ≠ l ∧ xs ≠ [] ∧ xs.length < 1073741824 ∧
  ∀ v H', v ∈ xs → Well w l H' → Keep w l H H' → Q v H'

end Lf
namespace Lf
open PySem PySem.Spec PyProof.Rows L2
def topS (i : Nat) : Stmt := PySem.Challenge.pw_linkforests_k04_forests_renamed.main.body.getD i (.Pass ⟨0, 0, 0, 0⟩)
abbrev sWell : Stmt := topS (12)
abbrev sPull : Stmt := topS (12 + 1)
abbrev sItem : Stmt := topS (12 + 2)
abbrev sMixed : Stmt := topS (12 + 3)
abbrev sTops : Stmt := topS (12 + 4)
abbrev sHeft : Stmt := topS (12 + 5)
abbrev sGrown : Stmt := topS (12 + 6)
abbrev sWild : Stmt := topS (12 + 7)
abbrev sLine : Stmt := topS (12 + 8)
abbrev sForest : Stmt := topS (12 + 9)
section
variable {P : Program} {w : World} {K : PySem.W.Frag} {mg : Str → Option Value} {base : Heap}
theorem scWell : FnScope ["_law_script", "_law_state", "_law_cell"] ["_law_script"] (defScope sWell) := ⟨rfl, rfl, rfl, by decide +kernel, rfl, by decide +kernel, by decide +kernel⟩
theorem ok_well {f : Addr} {fd : FuncData} (F : Fun K "_law_well" "_law_well" sWell f fd) (ml : mg "len" = none) (ma : mg "abs" = none) (mi : mg "int" = none) : FnOk P w K mg base CX0 1 f fd ["_law_script"] (spWell K) := by
  refine F.ok scWell (fun vs H Q E h => ?_) (fun cdv A outer s H vs Q E hr h => ?_)
  · obtain ⟨a, ns, rfl, _⟩ := h
    rfl
  · obtain ⟨a, ns, rfl, hS, hlen, q⟩ := h
    refine ⟨_, pss_cons (ps_set (i := 1) scWell.nd rfl (.inl rfl) (pe_op op_add pe_int (pe_op op_mul pe_int (pe_callB call_len_seq (by rfl) ml PySem.boot_len (pa_cons (pv 0) pa_nil)))))
      (pss_cons (ps_for PassesOwn.never rfl (pi_list (pv 0)) (pg_name (i := 2) scWell.nd rfl (.inl rfl)) (pss_one (ps_set (i := 1) scWell.nd rfl (.inl rfl)
        (pe_op op_mod (pe_op op_add (pe_op op_add (pe_op op_add (pe_op op_mul (pv 1) pe_int) (pe_op op_mul pe_int (pe_callB call_abs (by rfl) ma (by decide +kernel) (pa_cons (pv 2) pa_nil))))
          (pe_callTy call_int1 (by rfl) mi (by decide +kernel) (pa_cons (pe_cmpR op_lt (pv 2) pe_int (nomark _)) pa_nil))) pe_int) (pe_op op_pow pe_int pe_int)))))
      (pss_one (ps_ret (pe_lst (pa_cons (pe_revL (pe_lc (own := [("_law_cell", 2)]) (g := gName 2) (by rfl) scWell.nd (pi_list (pv 0)) (blkOk_by (own := [("_law_cell", 2)]) (N := ["_law_script", "_law_state", "_law_cell"]) (sc := defScope sWell) (by decide +kernel))
        (fun _ _ _ _ _ => pg_name (i := 2) scWell.nd rfl (Or.inl rfl)) (fun _ _ _ _ _ => pts_one (pt_cmpR op_ge (pe_callB call_abs (by rfl) ma (by decide +kernel) (pa_cons (pv 2) pa_nil)) (pe_op op_pow pe_int pe_int) (nomark _)))
        (fun _ _ _ _ _ => pe_callB call_abs (by rfl) ma (by decide +kernel) (pa_cons (pv 2) pa_nil)))) (pa_cons (pv 1) pa_nil)))))), ?_⟩
    refine ⟨.ref a, rfl, a, _, rfl, .inl hS, 977, _, rfl, rfl, .inl ⟨by decide, by decide⟩, _, _, rfl, rfl, ?_⟩
    refine ⟨.ref a, rfl, a, rfl, ⟨_, hS⟩, for_list (K := K) (a := a) (xs := ns.map V.int) (fun i σ H' => H' = H ∧ ∃ (st : Int) (c : Option V), σ = [some (.ref a), some (.int st), c] ∧ 0 ≤ st ∧ st < 18446744073709551616)
      ⟨rfl, _, none, rfl, by omega, by rw [List.length_map]; omega⟩ (fun i σ H' _ p => p.1 ▸ hS) ?_ ?_⟩
    · rintro i y σ H' hi ⟨rfl, st, c, rfl, h0, h1⟩
      obtain ⟨z, hz, rfl⟩ : ∃ z, ns[i]? = some z ∧ y = V.int z := by
        rw [List.getElem?_map] at hi
        cases e : ns[i]? with
        | none =>
          rw [e] at hi
          cases hi
        | some z =>
          rw [e] at hi
          exact ⟨z, rfl, (Option.some.inj hi).symm⟩
      refine ⟨.int st, rfl, st, _, rfl, rfl, .inl ⟨by omega, by omega⟩, .int z, rfl, z, rfl, 2, _, rfl, rfl, .inl ⟨by decide, by decide⟩, _, _, rfl, rfl, .int z, rfl, z, 0, rfl, rfl, .inr ⟨_, rfl, _, _, rfl, rfl, _, _, rfl, rfl, 2, 64, rfl, rfl, ⟨by decide, by decide, by decide⟩, _, _, rfl, rfl, (by show (0 : Int) < 2 ^ 64; decide), ?_⟩⟩
      refine ⟨rfl, _, _, rfl, Int.emod_nonneg _ (by decide), Int.emod_lt_of_pos _ (by decide)⟩
    · rintro σ H' ⟨rfl, st, c, rfl, h0, h1⟩
      refine ⟨.ref a, rfl, a, rfl, ⟨_, hS⟩, fun D nD => lc_list (K := K) (a := a) (xs := ns.map V.int) (fun i H2 => Same H' H2 ∧ ∃ ms : List Int, H2 D = some (.lst (ms.map V.int)) ∧ ms.length ≤ i) ⟨same_new nD, [], upd_same, Nat.le_refl _⟩ (fun i H2 _ p => p.1.seq hS) ?_ ?_⟩
      · rintro i y H2 hi ⟨sm, ms, hD, hm⟩
        have hin : i < (ns.map V.int).length := by
          rcases Nat.lt_or_ge i (ns.map V.int).length with z | z
          · exact z
          · rw [List.getElem?_eq_none z] at hi
            cases hi
        rw [List.length_map] at hin
        obtain ⟨z, hz, rfl⟩ : ∃ z, ns[i]? = some z ∧ y = V.int z := by
          rw [List.getElem?_map] at hi
          cases e : ns[i]? with
          | none =>
            rw [e] at hi
            cases hi
          | some z =>
            rw [e] at hi
            exact ⟨z, rfl, (Option.some.inj hi).symm⟩
        refine ⟨rfl, .int z, rfl, z, rfl, 10, 18, rfl, rfl, ⟨by decide, by decide, by decide⟩, _, _, rfl, rfl, _, rfl, ite2 (fun _ => ?_) (fun _ => ?_)⟩
        · refine ⟨.int z, rfl, z, rfl, _, hD, ?_, fun b o e => ?_, ms ++ [if z < 0 then -z else z], ?_, ?_⟩
          · rw [List.length_map]
            exact small1000 (by omega)
          · rw [upd_ne (ne_of_none e nD)]
            exact sm _ _ e
          · rw [upd_same, List.map_append]
            rfl
          · rw [List.length_append]
            show ms.length + 1 ≤ i + 1
            omega
        · exact ⟨sm, ms, hD, by omega⟩
      · rintro H2 ⟨sm, ms, hD, hm⟩
        rw [List.length_map] at hm
        refine ⟨D, _, rfl, SqL.of hD, fun l nl => ⟨.int st, rfl, by show 2 ≤ sizeLine; decide, fun w nw => ?_⟩⟩
        have nlw : w ≠ l := fun z => by
          rw [z, upd_same] at nw
          cases nw
        have nw2 : H2 w = none := by
          rw [upd_ne nlw] at nw
          exact nw
        refine q _ w l (sm.trans ((same_new nl).trans (same_new nw))) ⟨nlw, ms.reverse, st, upd_same, ?_, ?_, h0, h1⟩ (sm.free nw2) (sm.free nl)
        · rw [upd_ne (Ne.symm nlw), upd_same, List.map_reverse]
        · rw [List.length_reverse]
          omega
theorem scPull : FnScope ["_law_well_here", "_law_many", "_law_rest"] ["_law_well_here", "_law_many"] (defScope sPull) := ⟨rfl, rfl, rfl, by decide +kernel, rfl, by decide +kernel, by decide +kernel⟩
theorem ok_pull {f : Addr} {fd : FuncData} (F : Fun K "_law_pull" "_law_pull" sPull f fd) : FnOk P w K mg base CX0 1 f fd ["_law_well_here", "_law_many"] spPull := by
  refine F.ok scPull (fun vs H Q E h => ?_) (fun cdv A outer s H vs Q E hr h => ?_)
  · obtain ⟨a, l, m, rfl, _⟩ := h
    rfl
  · obtain ⟨w, l, many, rfl, hW, m0, m1, q⟩ := h
    refine ⟨_, pss_cons (ps_while PassesOwn.never (pt_cmpR (op_neD hr.units) (pe_ix ix_list (pv 0) pe_int (fun _ _ => rfl)) (pe_lst pa_nil) (nomark _))
        (pss_cons (ps_set (i := 2) scPull.nd rfl (.inl rfl) (pe_bm0 PySem.F.plainAttrs_list PySem.F.slot_list_pop PySem.F.type_list_pop mt_pop (pe_ix ix_list (pv 0) pe_int (fun _ _ => rfl))))
        (pss_one (ps_if (pt_cmpR op_gt (pv 2) pe_int (nomark _))
          (pss_cons (ps_expr (pe_bm PySem.F.plainAttrs_list PySem.F.slot_list_append PySem.F.type_list_append mt_append (pe_ix ix_list (pv 0) pe_int (fun _ _ => rfl)) (pa_cons (pe_op op_fdiv (pv 2) (pv 1)) pa_nil)))
          (pss_one (ps_ret (pe_op op_mod (pv 2) (pv 1))))) pss_nil))))
      (pss_cons (ps_asg (pe_op op_mod (pe_op op_add (pe_op op_mul (pe_ix ix_list (pv 0) pe_int (fun _ _ => rfl)) pe_int) pe_int) (pe_op op_pow pe_int pe_int)) (pg_sub (pv 0) pe_int set_list))
      (pss_one (ps_ret (pe_op op_mod (pe_op op_fdivW (pe_ix ix_list (pv 0) pe_int (fun _ _ => rfl)) (pe_op op_pow pe_int pe_int)) (pv 1))))), ?_⟩
    obtain ⟨nwl, xs0, st0, hw0, hl0, hx0, s00, s01⟩ := hW
    refine ⟨fun m σ H1 => ∃ (xs : List Int) (st : Int) (c : Option V), m = xs.length ∧ σ = [some (.ref w), some (.int many), c] ∧ H1 w = some (.lst [.ref l, .int st]) ∧ H1 l = some (.lst (xs.map V.int)) ∧ xs.length ≤ 63 ∧ 0 ≤ st ∧ st < 18446744073709551616 ∧ Keep w l H H1,
      ⟨_, xs0, st0, none, rfl, rfl, hw0, hl0, hx0, s00, s01, Keep.refl⟩, ?_⟩
    rintro m σ H1 ⟨xs, st, c, rfl, rfl, hw, hl, hx, s0, s1, kp⟩
    refine ⟨.ref w, rfl, w, _, 0, .ref l, rfl, rfl, SqL.of hw, atI_nat (j := 0) rfl, by show 0 ≤ sizeLine; omega, fun p np => ?_⟩
    have sm := same_new (o := .lst []) np
    have hw2 := sm _ _ hw
    have hl2 := sm _ _ hl
    refine ⟨.list (xs.map .int), .list [], .lst (SqL.of hl2) (dpInts xs), .lst (SqL.of upd_same) .nil, shInts xs, rfl, _, rfl, ?_⟩
    rcases nil_or_snoc xs with rfl | ⟨ys, y, rfl⟩
    · -- the state's own draw
      refine iteF ?_
      refine ⟨.ref w, rfl, w, _, 1, .int st, rfl, rfl, SqL.of hw2, atI_nat (j := 1) rfl, st, _, rfl, rfl, .inl ⟨by omega, by omega⟩, _, _, rfl, rfl, 2, 64, rfl, rfl, ⟨by decide, by decide, by decide⟩, _, _, rfl, rfl, (by show (0 : Int) < 2 ^ 64; decide), ?_⟩
      refine ⟨.ref w, rfl, w, _, 1, 1, rfl, rfl, hw2, rfl, ?_⟩
      have b0 : 0 ≤ (st * 6364136223846793005 + 1442695040888963407) % 18446744073709551616 := Int.emod_nonneg _ (by decide)
      have b1 : (st * 6364136223846793005 + 1442695040888963407) % 18446744073709551616 < 18446744073709551616 := Int.emod_lt_of_pos _ (by decide)
      refine ⟨.ref w, rfl, w, _, 1, _, rfl, rfl, SqL.of upd_same, atI_nat (j := 1) rfl, 2, 33, rfl, rfl, ⟨by decide, by decide, by decide⟩, _, _, rfl, rfl, ?_, .int many, rfl, _, many, rfl, rfl, m0, ?_⟩
      · exact wide_div (by show (0 : Int) < 2 ^ 33; decide) (b := 34) (by decide) (by decide) (by decide)
      · refine q _ _ (Int.emod_nonneg _ (by omega)) (Int.emod_lt_of_pos _ m0) ⟨nwl, [], _, upd_same, ?_, hx, b0, b1⟩ (kp.trans ((Keep.of sm).trans fun b o h1 h2 h => ?_))
        · rw [upd_ne (Ne.symm nwl)]
          exact hl2
        · rw [upd_ne h1]
          exact h
    · have hv : PyData.eqv (.list ((ys ++ [y]).map .int)) (.list []) = false := by
        cases ys <;> rfl
      rw [hv]
      refine iteT ⟨fun σ' H' => ∃ (st : Int) (c : Option V), σ' = [some (.ref w), some (.int many), c] ∧ H' w = some (.lst [.ref l, .int st]) ∧ H' l = some (.lst (ys.map V.int)) ∧ 0 ≤ st ∧ st < 18446744073709551616 ∧ Keep w l H H', ?_, ?_⟩
      · rintro σ' H' ⟨st', c', rfl, z1, z2, z3, z4, z5⟩
        rw [List.length_append] at hx ⊢
        exact ⟨ys.length, by simp, ys, st', c', rfl, rfl, z1, z2, by omega, z3, z4, z5⟩
      · have lst2 : (upd (upd H1 p (.lst [])) l (.lst ((ys ++ [y]).map V.int).dropLast)) l = some (.lst (ys.map V.int)) := by
          rw [upd_same, List.map_append]
          simp
        refine ⟨.ref w, rfl, w, _, 0, .ref l, rfl, rfl, SqL.of hw2, atI_nat (j := 0) rfl, .inl ⟨rfl, _, SqL.of hl2⟩, l, _, .int y, rfl, rfl, hl2, ?_, .int y, rfl, y, 0, rfl, rfl, _, rfl, ite2 (fun hy => ?_) (fun hy => ?_)⟩
        · rw [List.map_append]
          exact get_last (ys.map V.int) (.int y)
        · have hw3 : (upd (upd H1 p (.lst [])) l (.lst ((ys ++ [y]).map V.int).dropLast)) w = some (.lst [.ref l, .int st]) := by
            rw [upd_ne nwl]
            exact hw2
          refine ⟨.ref w, rfl, w, _, 0, .ref l, rfl, rfl, SqL.of hw3, atI_nat (j := 0) rfl, .inl ⟨rfl, _, SqL.of lst2⟩, .int y, rfl, .int many, rfl, y, many, rfl, rfl, ⟨m0, m1⟩, l, _, _, rfl, rfl, lst2, ?_, ?_⟩
          · rw [List.length_map]
            rw [List.length_append] at hx
            exact small1000 (by omega)
          · refine ⟨.int y, rfl, .int many, rfl, y, many, rfl, rfl, m0, ?_⟩
            refine q _ _ (Int.emod_nonneg _ (by omega)) (Int.emod_lt_of_pos _ m0) ⟨nwl, ys ++ [y / many], st, ?_, ?_, ?_, s0, s1⟩ (kp.trans ((Keep.of sm).trans fun b o h1 h2 h => ?_))
            · rw [upd_ne nwl]
              exact hw3
            · rw [upd_same, List.map_append]
              rfl
            · rw [List.length_append] at hx ⊢
              exact hx
            · rw [upd_ne h2, upd_ne h2]
              exact h
        · refine ⟨st, some (.int y), rfl, ?_, lst2, s0, s1, kp.trans ((Keep.of sm).trans fun b o h1 h2 h => ?_)⟩
          · rw [upd_ne nwl]
            exact hw2
          · rw [upd_ne h2]
            exact h
theorem scItem : FnScope ["_law_well_here", "_law_items"] ["_law_well_here", "_law_items"] (defScope sItem) := ⟨rfl, rfl, rfl, by decide +kernel, rfl, by decide +kernel, by decide +kernel⟩
theorem ok_item {f fP : Addr} {fd fdP : FuncData} (F : Fun K "_law_item" "_law_item" sItem f fd) (FP : Fun K "_law_pull" "_law_pull" sPull fP fdP) (bP : Binds K fdP ["_law_well_here", "_law_many"] []) (gP : mg "_law_pull" = some (.ref fP)) (ml : mg "len" = none) :
    FnOk P w K mg base CX0 2 f fd ["_law_well_here", "_law_items"] spItem := by
  have GP : FnOk P w K mg base CX0 1 fP fdP ["_law_well_here", "_law_many"] spPull := ok_pull FP
  refine F.ok scItem (fun vs H Q E h => ?_) (fun cdv A outer s H vs Q E hr h => ?_)
  · obtain ⟨w, l, p, xs, rfl, _⟩ := h
    rfl
  · obtain ⟨w, l, p, xs, rfl, hW, hp, npw, npl, hne, hlen, q⟩ := h
    refine ⟨_, pss_one (ps_ret (pe_ix ix_list (pv 1) (pe_call GP hr (by rfl) gP FP.kp bP .nil pass0 (pa_cons (pv 0) (pa_cons (pe_callB call_len_seq (by rfl) ml PySem.boot_len (pa_cons (pv 1) pa_nil)) pa_nil))) (fun _ _ => rfl))), ?_⟩
    have pos : 0 < xs.length := List.length_pos_iff.mpr hne
    refine ⟨.ref p, rfl, .ref w, rfl, .ref p, rfl, p, xs, rfl, .inl (SqL.of hp), w, l, _, rfl, hW, by omega, by omega, fun r H' r0 r1 hW' kp => ?_⟩
    have hi : r.toNat < xs.length := by omega
    have er : ((r.toNat : Nat) : Int) = r := Int.toNat_of_nonneg r0
    refine ⟨p, xs, r, xs[r.toNat], rfl, rfl, SqL.of (kp _ _ npw npl hp), ?_, q _ _ (List.getElem_mem hi) hW' kp⟩
    have z := atI_nat (List.getElem?_eq_getElem hi)
    rw [er] at z
    exact z
end
end Lf
namespace Lf
open PySem PySem.Spec PyProof.Rows L2
/-! ### _law_mixed, _law_tops, _law_heft -/
def spMixed : Sp := fun vs H Q _ => ∃ (w l p : Addr) (ns : List Nat), vs = [.ref w, .ref p] ∧ Well w l H ∧ H p = some (.lst (nv ns)) ∧ ns.length ≤ 1000 ∧
  ∀ (ms : List Nat) (q : Addr) (H' : Hp), ms.Perm ns → Well w l H' → Keep w l H H' → H q = none → H' q = some (.lst (nv ms)) → Q (.ref q) H'
def spTops (K : PySem.W.Frag) : Sp := fun vs H Q _ => ∃ (p : Addr) (fs : List Nat), vs = [.ref p] ∧ SqQ K H p (nv fs) ∧ fs.length ≤ 1000 ∧
  ∀ (q : Addr) (H' : Hp), Same H H' → H q = none → H' q = some (.lst (nv (tops fs))) → Q (.ref q) H'
def spHeft (K : PySem.W.Frag) : Sp := fun vs H Q _ => ∃ (p : Addr) (fs : List Nat) (v : Nat), vs = [.ref p, .int (v : Nat)] ∧ SqQ K H p (nv fs) ∧ Forest fs ∧ v < fs.length ∧
  ∀ (ins : List Nat) (H' : Hp), Same H H' → ins.Nodup → (∀ u, u ∈ ins ↔ u < fs.length ∧ Bel fs v u) → Q (.int (ins.length : Nat)) H'
theorem erase_map {α β : Type} (f : α → β) : ∀ (l : List α) (i : Nat), (l.map f).eraseIdx i = (l.eraseIdx i).map f
  | [], _ => rfl
  | _ :: _, 0 => rfl
  | x :: l, i + 1 => by
    show f x :: (l.map f).eraseIdx i = f x :: (l.eraseIdx i).map f
    rw [erase_map f l i]
theorem erase_perm {α : Type} : ∀ (l : List α) (i : Nat) (h : i < l.length), (l[i] :: l.eraseIdx i).Perm l
  | [], i, h => absurd h (Nat.not_lt_zero i)
  | x :: l, 0, _ => .refl _
  | x :: l, i + 1, h => by
    have ih := erase_perm l i (Nat.lt_of_succ_lt_succ h)
    show (l[i]'(Nat.lt_of_succ_lt_succ h) :: x :: l.eraseIdx i).Perm (x :: l)
    exact (List.Perm.swap _ _ _).trans (.cons x ih)
theorem seqAt {i : Int} {n : Nat} (h0 : 0 ≤ i) (h1 : i < n) : seqIndex? i n = some i.toNat := by
  unfold seqIndex?
  have e : (if i < 0 then i + n else i) = i := if_neg (by omega)
  show (if (decide (0 ≤ (if i < 0 then i + n else i)) && decide ((if i < 0 then i + n else i) < n)) = true then some (if i < 0 then i + (n : Int) else i).toNat else none) = _
  rw [e, decide_eq_true h0, decide_eq_true h1]
  rfl
theorem range_filter_succ {k : Nat} (p : Nat → Bool) : (List.range (k + 1)).filter p = if p k = true then (List.range k).filter p ++ [k] else (List.range k).filter p := by
  rw [List.range_succ, List.filter_append]
  by_cases h : p k = true
  · rw [if_pos h, List.filter_cons_of_pos h]
    rfl
  · rw [if_neg h, List.filter_cons_of_neg h]
    simp
theorem range_filter_le (k : Nat) (p : Nat → Bool) : ((List.range k).filter p).length ≤ k := by
  have := List.length_filter_le p (List.range k)
  rwa [List.length_range] at this
theorem natV_inj {a b : Nat} : (V.int (a : Int) = V.int (b : Int)) ↔ a = b := by
  refine ⟨fun h => ?_, fun h => by rw [h]⟩
  have := V.int.inj h
  omega
section
variable {P : Program} {w : World} {K : PySem.W.Frag} {mg : Str → Option Value} {base : Heap}
theorem scMixed : FnScope ["_law_well_here", "_law_items", "_law_rest", "_law_found"] ["_law_well_here", "_law_items"] (defScope sMixed) := ⟨rfl, rfl, rfl, by decide +kernel, rfl, by decide +kernel, by decide +kernel⟩
theorem ok_mixed {f fP : Addr} {fd fdP : FuncData} (F : Fun K "_law_mixed" "_law_mixed" sMixed f fd) (FP : Fun K "_law_pull" "_law_pull" sPull fP fdP) (bP : Binds K fdP ["_law_well_here", "_law_many"] []) (gP : mg "_law_pull" = some (.ref fP)) (ml : mg "len" = none) (mL : mg "list" = none) :
    FnOk P w K mg base CX0 2 f fd ["_law_well_here", "_law_items"] spMixed := by
  have GP : FnOk P w K mg base CX0 1 fP fdP ["_law_well_here", "_law_many"] spPull := ok_pull FP
  refine F.ok scMixed (fun vs H Q E h => ?_) (fun cdv A outer s H vs Q E hr h => ?_)
  · obtain ⟨w, l, p, xs, rfl, _⟩ := h
    rfl
  · obtain ⟨w, l, p, ns, rfl, hW, hp, hlen, q⟩ := h
    refine ⟨_, pss_cons (ps_par (i := 2) (j := 3) (by rfl) scMixed.nd rfl rfl (by decide) rfl rfl (pa_cons (pe_callTy call_list_of (by rfl) mL (by decide +kernel) (pa_cons (pv 1) pa_nil)) (pa_cons (pe_lst pa_nil) pa_nil)) (by rfl))
      (pss_cons (ps_while PassesOwn.never (pt_cmpR (op_neD hr.units) (pv 2) (pe_lst pa_nil) (nomark _)) (pss_one (ps_expr (pe_bm PySem.F.plainAttrs_list PySem.F.slot_list_append PySem.F.type_list_append mt_append (pv 3)
          (pa_cons (pe_bm PySem.F.plainAttrs_list PySem.F.slot_list_pop PySem.F.type_list_pop mt_popAt (pv 2) (pa_cons (pe_call GP hr (by rfl) gP FP.kp bP .nil pass0 (pa_cons (pv 0) (pa_cons (pe_callB call_len_seq (by rfl) ml PySem.boot_len (pa_cons (pv 2) pa_nil)) pa_nil))) pa_nil)) pa_nil)))))
      (pss_one (ps_ret (pv 3)))), ?_⟩
    refine ⟨.ref p, rfl, p, _, rfl, .inl (SqL.of hp), fun r nr => ⟨by show 0 ≤ sizeLine; decide, fun d nd => ⟨.ref r, .ref d, rfl, ?_⟩⟩⟩
    have Sr := same_new (o := .lst (nv ns)) nr
    have Sd := same_new (o := .lst []) nd
    have rd : r ≠ d := fun z => by
      rw [← z, upd_same] at nd
      cases nd
    obtain ⟨nwl, x0, st0, hw0, hl0, hx0⟩ := id hW
    have rw' : r ≠ w := (ne_of_none hw0 nr).symm
    have rl : r ≠ l := (ne_of_none hl0 nr).symm
    have dw : d ≠ w := (ne_of_none (Sr _ _ hw0) nd).symm
    have dl : d ≠ l := (ne_of_none (Sr _ _ hl0) nd).symm
    have hd0 : H d = none := Sr.free nd
    refine ⟨fun m σ H1 => ∃ rs fs : List Nat, m = rs.length ∧ σ = [some (.ref w), some (.ref p), some (.ref r), some (.ref d)] ∧ H1 r = some (.lst (nv rs)) ∧ H1 d = some (.lst (nv fs)) ∧ (fs ++ rs).Perm ns ∧ Well w l H1 ∧ Keep w l H H1,
      ⟨_, ns, [], rfl, rfl, Sd _ _ upd_same, upd_same, .refl _, hW.same (Sr.trans Sd), Keep.of (Sr.trans Sd)⟩, ?_⟩
    rintro m σ H1 ⟨rs, fs, rfl, rfl, hr1, hd1, pm, hW1, kp⟩
    have lens : fs.length + rs.length = ns.length := by
      have := pm.length_eq
      rwa [List.length_append] at this
    refine ⟨.ref r, rfl, by show 0 ≤ sizeLine; decide, fun e ne => ?_⟩
    have Se := same_new (o := .lst []) ne
    refine ⟨_, .list [], .lst (SqL.of (Se _ _ hr1)) (dpNv rs), .lst (SqL.of upd_same) .nil, shInts _, rfl, _, rfl, ?_⟩
    cases rs with
    | nil =>
      refine iteF ⟨.ref d, rfl, q fs d _ (by simpa using pm) (hW1.same Se) (kp.trans (Keep.of Se)) hd0 (Se _ _ hd1)⟩
    | cons x0 rt =>
      generalize hrs : x0 :: rt = rs at *
      have pos : 0 < rs.length := by rw [← hrs]; exact Nat.succ_pos _
      have hv : PyData.eqv (.list ((rs.map fun x => ((x : Nat) : Int)).map .int)) (.list []) = false := by
        rw [← hrs]
        rfl
      rw [hv]
      refine iteT ⟨fun σ' H' => ∃ rs' fs' : List Nat, rs'.length < rs.length ∧ σ' = [some (.ref w), some (.ref p), some (.ref r), some (.ref d)] ∧ H' r = some (.lst (nv rs')) ∧ H' d = some (.lst (nv fs')) ∧ (fs' ++ rs').Perm ns ∧ Well w l H' ∧ Keep w l H H', ?_, ?_⟩
      · rintro σ' H' ⟨rs', fs', z0, z1, z2, z3, z4, z5, z6⟩
        exact ⟨_, z0, rs', fs', rfl, z1, z2, z3, z4, z5, z6⟩
      · refine ⟨.ref d, rfl, .inl ⟨rfl, _, SqL.of (Se _ _ hd1)⟩, .ref r, rfl, .inl ⟨rfl, _, SqL.of (Se _ _ hr1)⟩, .ref w, rfl, .ref r, rfl, r, _, rfl, .inl (SqL.of (Se _ _ hr1)), w, l, _, rfl, hW1.same Se, ?_, ?_, fun i H2 i0 i1 hW2 kp2 => ?_⟩
        · rw [nv_length]
          omega
        · rw [nv_length]
          omega
        · rw [nv_length] at i1
          have hi : i.toNat < rs.length := by omega
          have hr2 : H2 r = some (.lst (nv rs)) := kp2 _ _ rw' rl (Se _ _ hr1)
          have hd2 : H2 d = some (.lst (nv fs)) := kp2 _ _ dw dl (Se _ _ hd1)
          refine ⟨r, _, i, i.toNat, _, rfl, rfl, hr2, by omega, by omega, ?_, nv_get hi, d, nv fs, _, rfl, rfl, ?_, ?_, ?_⟩
          · rw [nv_length]
            exact seqAt i0 i1
          · rw [upd_ne rd.symm]
            exact hd2
          · rw [nv_length]
            exact small1000 (by omega)
          · refine ⟨rs.eraseIdx i.toNat, fs ++ [rs.getD i.toNat 0], ?_, rfl, ?_, ?_, ?_, ?_, ?_⟩
            · rw [List.length_eraseIdx_of_lt hi]
              omega
            · rw [upd_ne rd, upd_same]
              unfold nv
              rw [erase_map]
            · rw [upd_same, nv_append]
              rfl
            · refine List.Perm.trans ?_ pm
              rw [List.append_assoc]
              refine List.Perm.append_left _ ?_
              have e1 : rs.getD i.toNat 0 = rs[i.toNat] := by rw [List.getD_eq_getElem?_getD, List.getElem?_eq_getElem hi]; rfl
              rw [e1]
              exact erase_perm rs _ hi
            · obtain ⟨n3, x3, st3, hw3, hl3, r3⟩ := hW2
              exact ⟨n3, x3, st3, by rw [upd_ne dw.symm, upd_ne rw'.symm]; exact hw3, by rw [upd_ne dl.symm, upd_ne rl.symm]; exact hl3, r3⟩
            · intro b o h1 h2 h
              rw [upd_ne (ne_of_none h hd0), upd_ne (ne_of_none h nr)]
              exact kp2 b o h1 h2 (Se _ _ (kp b o h1 h2 h))
theorem scTops : FnScope ["_law_parents", "_law_vertex"] ["_law_parents"] (defScope sTops) := ⟨rfl, rfl, rfl, by decide +kernel, rfl, by decide +kernel, by decide +kernel⟩
theorem ok_tops {f : Addr} {fd : FuncData} (F : Fun K "_law_tops" "_law_tops" sTops f fd) (ml : mg "len" = none) (mr : mg "range" = none) : FnOk P w K mg base CX0 1 f fd ["_law_parents"] (spTops K) := by
  refine F.ok scTops (fun vs H Q E h => ?_) (fun cdv A outer s H vs Q E hr h => ?_)
  · obtain ⟨p, fs, rfl, _⟩ := h
    rfl
  · obtain ⟨p, fs, rfl, hp, hlen, q⟩ := h
    refine ⟨_, pss_one (ps_ret (pe_lc (own := [("_law_vertex", 1)]) (g := gName 1) (tt := tTest (tOp rEq (tOp (rIxQ K) (tVar 0) (tVar 1)) (tVar 1))) (te := tVar 1) (by rfl) scTops.nd (pi_range1 (by rfl) mr (pa_cons (pe_callB call_len_seq (by rfl) ml PySem.boot_len (pa_cons (pv 0) pa_nil)) pa_nil))
      (blkOk_by (own := [("_law_vertex", 1)]) (N := ["_law_parents", "_law_vertex"]) (sc := defScope sTops) (by decide +kernel)) (fun _ _ _ _ _ => pg_name (i := 1) scTops.nd rfl (Or.inl rfl))
      (fun _ _ _ _ _ => pts_one (pt_cmpR op_eq (pe_ix ix_q (pv 0) (pv 1) (fun _ _ => rfl)) (pv 1) (nomark _))) (fun _ _ _ _ _ => pv 1))), ?_⟩
    refine ⟨.ref p, rfl, p, _, rfl, hp, _, rfl, ?_, ?_, fun D nD => lc_range (lo := 0) (n := ((nv fs).length : Int).toNat) (fun k H2 => Same H H2 ∧ H2 D = some (.lst (nv ((List.range k).filter fun v => decide (par fs v = v))))) ⟨same_new nD, upd_same⟩ ?_ ?_⟩
    · rw [nv_length]
      omega
    · rw [nv_length]
      omega
    · rintro k H2 hk ⟨sm, hD⟩
      rw [nv_length] at hk
      have hk' : k < fs.length := by omega
      refine ⟨rfl, .ref p, rfl, .int (0 + (k : Int)), rfl, p, _, (k : Int), .int ((par fs k : Nat) : Int), rfl, by rw [Int.zero_add], hp.same sm, atI_nat (nv_get hk'), .int (0 + (k : Int)), rfl, rfl, _, rfl, ite2 (fun hc => ?_) (fun hc => ?_)⟩
      · rw [Int.zero_add] at hc
        have hc : par fs k = k := natV_inj.mp (of_decide_eq_true hc)
        refine ⟨.int (0 + (k : Int)), rfl, _, hD, ?_, fun b o z => ?_, ?_⟩
        · rw [nv_length]
          exact small1000 (Nat.le_trans (range_filter_le _ _) (by omega))
        · rw [upd_ne (ne_of_none z nD)]
          exact sm _ _ z
        · rw [upd_same, range_filter_succ, if_pos (decide_eq_true hc), nv_append, Int.zero_add]
          rfl
      · rw [Int.zero_add] at hc
        refine ⟨sm, ?_⟩
        rw [hD, range_filter_succ, if_neg]
        intro z
        exact hc (decide_eq_true (natV_inj.mpr (of_decide_eq_true z)))
    · rintro H2 ⟨sm, hD⟩
      rw [nv_length, Int.toNat_natCast] at hD
      exact q D H2 sm nD hD
theorem scHeft : FnScope ["_law_parents", "_law_vertex", "_law_inside", "_law_count", "_law_v"] ["_law_parents", "_law_vertex"] (defScope sHeft) := ⟨rfl, rfl, rfl, by decide +kernel, rfl, by decide +kernel, by decide +kernel⟩
theorem ok_heft {f : Addr} {fd : FuncData} (F : Fun K "_law_heft" "_law_heft" sHeft f fd) (ml : mg "len" = none) (mr : mg "range" = none) : FnOk P w K mg base CX0 1 f fd ["_law_parents", "_law_vertex"] (spHeft K) := by
  refine F.ok scHeft (fun vs H Q E h => ?_) (fun cdv A outer s H vs Q E hr h => ?_)
  · obtain ⟨p, fs, v, rfl, _⟩ := h
    rfl
  · obtain ⟨p, fs, v, rfl, hp, hF, hv, q⟩ := h
    refine ⟨_, pss_cons (ps_asg (pe_tup (pa_cons (pe_lst (pa_cons (pv 1) pa_nil)) (pa_cons pe_int pa_nil))) (pg_tup rfl (pgs_cons (pg_name (i := 2) scHeft.nd rfl (.inr rfl)) (pgs_cons (pg_name (i := 3) scHeft.nd rfl (.inr rfl)) pgs_nil))))
      (pss_cons (ps_while PassesOwn.never (pt_cmpR op_lt (pv 3) (pe_callB call_len_seq (by rfl) ml PySem.boot_len (pa_cons (pv 2) pa_nil)) (nomark _))
        (pss_cons (ps_set (i := 2) scHeft.nd rfl (.inr rfl) (pe_op op_cat (pv 2) (pe_lc (own := [("_law_v", 4)]) (g := gName 4)
            (tt := tAnd (tTest (tOp rEq (tOp (rIxQ K) (tVar 0) (tVar 4)) (tOp (rIxL K) (tVar 2) (tVar 3)))) (tTest (tOp rNe (tVar 4) (tOp (rIxQ K) (tVar 0) (tVar 4))))) (te := tVar 4) (by rfl) scHeft.nd (pi_range1 (by rfl) mr (pa_cons (pe_callB call_len_seq (by rfl) ml PySem.boot_len (pa_cons (pv 0) pa_nil)) pa_nil))
          (blkOk_by (own := [("_law_v", 4)]) (N := ["_law_parents", "_law_vertex", "_law_inside", "_law_count", "_law_v"]) (sc := defScope sHeft) (by decide +kernel)) (fun _ _ _ _ _ => pg_name (i := 4) scHeft.nd rfl (Or.inl rfl))
          (fun _ _ _ _ _ => pts_one (PW.pt (pw_and (pt_cmpR op_eq (pe_ix ix_q (pv 0) (pv 4) (fun _ _ => rfl)) (pe_ix ix_list (pv 2) (pv 3) (fun _ _ => rfl)) (nomark _)) (pw_and1 (pt_cmpR op_ne (pv 4) (pe_ix ix_q (pv 0) (pv 4) (fun _ _ => rfl)) (nomark _)))))) (fun _ _ _ _ _ => pv 4))))
        (pss_one (ps_set (i := 3) scHeft.nd rfl (.inr rfl) (pe_op op_add (pv 3) pe_int)))))
      (pss_one (ps_ret (pv 3)))), ?_⟩
    refine ⟨.int (v : Nat), rfl, (by show 1 ≤ sizeLine; decide), fun q1 n1 => ⟨(by show 2 ≤ sizeLine; decide), fun t nt => ⟨t, _, rfl, SqT.of upd_same, rfl, _, _, rfl, _, _, rfl, rfl, ?_⟩⟩⟩
    have S1 := same_new (o := .lst [V.int (v : Nat)]) n1
    have S2 := same_new (o := .tup [V.ref q1, V.int 0]) nt
    refine ⟨fun m σ H1 => ∃ (ins : List Nat) (c : Nat) (qa : Addr), m = fs.length - c ∧ σ = [some (.ref p), some (.int (v : Nat)), some (.ref qa), some (.int (c : Nat)), none] ∧ Same H H1 ∧ H1 qa = some (.lst (nv ins)) ∧ Bfs fs v ins c,
      ⟨_, [v], 0, q1, rfl, rfl, S1.trans S2, S2 _ _ upd_same, Bfs.start hv⟩, ?_⟩
    rintro m σ H1 ⟨ins, c, qa, rfl, rfl, sm, hqa, B⟩
    have few := hF.few
    have le := B.le
    refine ⟨.int (c : Nat), rfl, .ref qa, rfl, qa, _, rfl, .inl (SqL.of hqa), _, _, rfl, rfl, _, rfl, ite2 (fun hc => ?_) (fun hc => ?_)⟩
    · have hc : (c : Int) < ((nv ins).length : Int) := of_decide_eq_true hc
      rw [nv_length] at hc
      have hcl : c < ins.length := by omega
      have ec : ins[c]? = some (ins.getD c 0) := by rw [List.getD_eq_getElem?_getD, List.getElem?_eq_getElem hcl]; rfl
      refine ⟨fun σ' H' => ∃ (ins : List Nat) (qa : Addr), σ' = [some (.ref p), some (.int (v : Nat)), some (.ref qa), some (.int ((c + 1 : Nat) : Int)), none] ∧ Same H H' ∧ H' qa = some (.lst (nv ins)) ∧ Bfs fs v ins (c + 1), ?_, ?_⟩
      · rintro σ' H' ⟨ins', qa', z1, z2, z3, z4⟩
        exact ⟨fs.length - (c + 1), by omega, ins', c + 1, qa', rfl, z1, z2, z3, z4⟩
      · have hpp := hp.same sm
        refine ⟨.ref qa, rfl, .ref p, rfl, p, _, rfl, hpp, _, rfl, ?_, ?_, fun D nD => lc_range (lo := 0) (n := ((nv fs).length : Int).toNat)
          (fun k H2 => Same H1 H2 ∧ H2 D = some (.lst (nv ((List.range k).filter fun u => decide (par fs u = ins.getD c 0) && decide (u ≠ par fs u))))) ⟨same_new nD, upd_same⟩ ?_ ?_⟩
        · rw [nv_length]
          omega
        · rw [nv_length]
          omega
        · rintro k H2 hk ⟨s2, hD⟩
          rw [nv_length] at hk
          have hk' : k < fs.length := by omega
          refine ⟨rfl, .ref p, rfl, .int (0 + (k : Int)), rfl, p, _, (k : Int), .int ((par fs k : Nat) : Int), rfl, by rw [Int.zero_add], hpp.same s2, atI_nat (nv_get hk'), .ref qa, rfl, .int (c : Nat), rfl, qa, _, (c : Int), _, rfl, rfl, SqL.of (s2 _ _ hqa), atI_nat (nv_get hcl), rfl, _, rfl, ite2 (fun h1 => ?_) (fun h1 => ?_)⟩
          · have h1 : par fs k = ins.getD c 0 := natV_inj.mp (of_decide_eq_true h1)
            refine ⟨.int (0 + (k : Int)), rfl, .ref p, rfl, .int (0 + (k : Int)), rfl, p, _, (k : Int), .int ((par fs k : Nat) : Int), rfl, by rw [Int.zero_add], hpp.same s2, atI_nat (nv_get hk'), rfl, _, rfl, ite2 (fun h2 => ?_) (fun h2 => ?_)⟩
            · rw [Int.zero_add] at h2
              have h2 : k ≠ par fs k := fun z => by
                rw [decide_eq_true (natV_inj.mpr z)] at h2
                cases h2
              refine ⟨.int (0 + (k : Int)), rfl, _, hD, ?_, fun b o z => ?_, ?_⟩
              · rw [nv_length]
                exact small1000 (Nat.le_trans (range_filter_le _ _) (by omega))
              · rw [upd_ne (ne_of_none z nD)]
                exact s2 _ _ z
              · rw [upd_same, range_filter_succ, if_pos (by rw [decide_eq_true h1, decide_eq_true h2]; rfl), nv_append, Int.zero_add]
                rfl
            · rw [Int.zero_add] at h2
              have h2 : k = par fs k := Classical.byContradiction fun z => h2 (by rw [decide_eq_false (fun y => z (natV_inj.mp y))]; rfl)
              refine ⟨s2, ?_⟩
              rw [hD, range_filter_succ, if_neg]
              rw [decide_eq_false (p := k ≠ par fs k) (fun z => z h2), Bool.and_false]
              exact Bool.false_ne_true
          · have h1 : ¬ par fs k = ins.getD c 0 := fun z => h1 (decide_eq_true (natV_inj.mpr z))
            refine iteF ⟨s2, ?_⟩
            rw [hD, range_filter_succ, if_neg]
            rw [decide_eq_false h1]
            exact Bool.false_ne_true
        · rintro H2 ⟨s2, hD⟩
          rw [nv_length, Int.toNat_natCast] at hD
          have B2 := B.next hF.rch ec
          have le2 := B2.le
          rw [List.length_append] at le2
          refine ⟨qa, D, _, _, rfl, rfl, s2 _ _ hqa, hD, ?_, fun p2 n2 => ?_⟩
          · rw [nv_length, nv_length]
            have e2 : (kids fs (ins.getD c 0)).length = ((List.range fs.length).filter fun u => decide (par fs u = ins.getD c 0) && decide (u ≠ par fs u)).length := rfl
            exact Nat.le_of_lt (small1000 (by omega))
          · refine ⟨.int (c : Nat), rfl, _, _, rfl, rfl, ins ++ kids fs (ins.getD c 0), p2, ?_, sm.trans (s2.trans (same_new n2)), ?_, B2⟩
            · rfl
            · rw [upd_same, nv_append]
              rfl
    · have hc : ¬ (c : Int) < ((nv ins).length : Int) := fun z => hc (decide_eq_true z)
      rw [nv_length] at hc
      have e : c = ins.length := by
        have := B.cnt
        omega
      subst e
      exact ⟨.int (ins.length : Nat), rfl, q ins H1 sm B.nd (B.done hF.rng)⟩
end
end Lf
namespace Lf
open PySem PySem.Spec PyProof.Rows L2
/-! ### _law_grown -/
def spGrown : Sp := fun vs H Q _ => ∃ (w l : Addr) (most : Int), vs = [.ref w, .int most] ∧ Well w l H ∧ 0 < most ∧ most ≤ 24 ∧
  ∀ (fs : List Nat) (q : Addr) (H' : Hp), Forest fs → Well w l H' → Keep w l H H' → H q = none → H' q = some (.tup (nv fs)) → Q (.ref q) H'
theorem rgV_nv (n : Nat) : rgV 0 (n : Int) = nv (List.range n) := by
  unfold rgV nv
  simp
theorem keep_free {w l p : Addr} {H H' : Hp} (k : Keep w l H H') (W : Well w l H') (h : H' p = none) : H p = none := by
  obtain ⟨_, _, _, h1, h2, _⟩ := W
  cases z : H p with
  | none => rfl
  | some o =>
    rw [k _ _ (ne_of_none h1 h).symm (ne_of_none h2 h).symm z] at h
    cases h
theorem tops_range (n : Nat) : tops (List.range n) = List.range n := by
  unfold tops
  rw [List.length_range, List.filter_eq_self]
  intro v hv
  exact decide_eq_true (par_range (List.mem_range.mp hv))
/-- a number's value -/
def unV : V → Nat
  | .int i => i.toNat
  | _ => 0
theorem un_nv (l : List Nat) : (nv l).map unV = l := by
  unfold nv
  rw [List.map_map]
  have : (unV ∘ fun x : Nat => V.int (x : Nat)) = id := funext fun x => Int.toNat_natCast x
  rw [this, List.map_id]
theorem perm_nv {zs : List V} {l : List Nat} (p : zs.Perm (nv l)) : ∃ ms, zs = nv ms ∧ ms.Perm l := by
  refine ⟨zs.map unV, ?_, ?_⟩
  · have all : ∀ z ∈ zs, V.int ((unV z : Nat) : Int) = z := fun z hz => by
      obtain ⟨x, _, rfl⟩ := List.mem_map.mp (p.mem_iff.mp hz)
      rfl
    unfold nv
    rw [List.map_map]
    conv => lhs; rw [← List.map_id zs]
    exact List.map_congr_left fun z hz => (all z hz).symm
  · have := p.map unV
    rwa [un_nv] at this
/-- what the pair at a reference points to -/
def pairAt (H : Hp) (xs : List V) : V → V
  | .ref t => match H t with
    | some (.tup [_, .int j]) => xs.getD j.toNat .non
    | _ => .non
  | _ => .non
section
variable {P : Program} {w : World} {K : PySem.W.Frag} {mg : Str → Option Value} {base : Heap}
abbrev NG : List Str := ["_law_well_here", "_law_most", "_law_n", "_law_parents", "_law_way", "_law_turn", "_law_tops_here", "_law_ranked", "_law_one", "_law_other", "_law_k", "_law_weight"]
theorem scGrown : FnScope NG ["_law_well_here", "_law_most"] (defScope sGrown) := ⟨rfl, rfl, rfl, by decide +kernel, rfl, by decide +kernel, by decide +kernel⟩
theorem ok_grown {f fP fI fM fT fH : Addr} {fd fdP fdI fdM fdT fdH : FuncData} (F : Fun K "_law_grown" "_law_grown" sGrown f fd)
    (FP : Fun K "_law_pull" "_law_pull" sPull fP fdP) (bP : Binds K fdP ["_law_well_here", "_law_many"] []) (gP : mg "_law_pull" = some (.ref fP))
    (FI : Fun K "_law_item" "_law_item" sItem fI fdI) (bI : Binds K fdI ["_law_well_here", "_law_items"] []) (gI : mg "_law_item" = some (.ref fI))
    (FM : Fun K "_law_mixed" "_law_mixed" sMixed fM fdM) (bM : Binds K fdM ["_law_well_here", "_law_items"] []) (gM : mg "_law_mixed" = some (.ref fM))
    (FT : Fun K "_law_tops" "_law_tops" sTops fT fdT) (bT : Binds K fdT ["_law_parents"] []) (gT : mg "_law_tops" = some (.ref fT))
    (FH : Fun K "_law_heft" "_law_heft" sHeft fH fdH) (bH : Binds K fdH ["_law_parents", "_law_vertex"] []) (gH : mg "_law_heft" = some (.ref fH))
    (ml : mg "len" = none) (mr : mg "range" = none) (mL : mg "list" = none) (mT : mg "tuple" = none) (mS : mg "sorted" = none) :
    FnOk P w K mg base CX0 3 f fd ["_law_well_here", "_law_most"] spGrown := by
  have GP : FnOk P w K mg base CX0 1 fP fdP ["_law_well_here", "_law_many"] spPull := ok_pull FP
  have GI : FnOk P w K mg base CX0 2 fI fdI ["_law_well_here", "_law_items"] spItem := ok_item FI FP bP gP ml
  have GM : FnOk P w K mg base CX0 2 fM fdM ["_law_well_here", "_law_items"] spMixed := ok_mixed FM FP bP gP ml mL
  have GT : FnOk P w K mg base CX0 1 fT fdT ["_law_parents"] (spTops K) := ok_tops FT ml mr
  have GH : FnOk P w K mg base CX0 1 fH fdH ["_law_parents", "_law_vertex"] (spHeft K) := ok_heft FH ml mr
  refine F.ok scGrown (fun vs H Q E h => ?_) (fun cdv A outer s H vs Q E hr h => ?_)
  · obtain ⟨w, l, m, rfl, _⟩ := h
    rfl
  · obtain ⟨w, l, most, rfl, hW, m0, m1, q⟩ := h
    have hr1 : Room 1 _ := hr.mono (by decide)
    refine ⟨_, pss_cons (ps_set (i := 2) scGrown.nd rfl (.inl rfl) (pe_op op_add pe_int (pe_call GP hr1 (by rfl) gP FP.kp bP .nil pass0 (pa_cons (pv 0) (pa_cons (pv 1) pa_nil)))))
      (pss_cons (ps_asg (pe_tup (pa_cons (pe_listRg rfl (by rfl) mL (prg_1 (by rfl) mr (pv 2))) (pa_cons (pe_call GP hr1 (by rfl) gP FP.kp bP .nil pass0 (pa_cons (pv 0) (pa_cons pe_int pa_nil))) pa_nil)))
          (pg_tup rfl (pgs_cons (pg_name (i := 3) scGrown.nd rfl (.inr rfl)) (pgs_cons (pg_name (i := 4) scGrown.nd rfl (.inl rfl)) pgs_nil))))
      (pss_cons (ps_for PassesOwn.never rfl (pi_range1 (by rfl) mr (pa_cons (pe_call GI hr (by rfl) gI FI.kp bI .nil pass0 (pa_cons (pv 0) (pa_cons (pe_lst (pa_cons (pe_op op_sub (pv 2) pe_int) (pa_cons (pe_op op_sub (pv 2) pe_int)
            (pa_cons (pe_call GP hr1 (by rfl) gP FP.kp bP .nil pass0 (pa_cons (pv 0) (pa_cons (pv 2) pa_nil))) pa_nil)))) pa_nil))) pa_nil)) (pg_name (i := 5) scGrown.nd rfl (.inl rfl))
          (pss_cons (ps_set (i := 6) scGrown.nd rfl (.inr rfl) (pe_call GM hr (by rfl) gM FM.kp bM .nil pass0 (pa_cons (pv 0) (pa_cons (pe_call GT hr1 (by rfl) gT FT.kp bT .nil pass0 (pa_cons (pv 3) pa_nil)) pa_nil))))
          (C8.pss_cut (ps_if (pt_cmpR op_lt (pv 4) pe_int (nomark _))
              (pss_cons (ps_set (i := 7) scGrown.nd rfl (.inl rfl) (pe_callB cr_sortedP (by rfl) mS (by decide +kernel) (pa_cons (pe_lc (own := [("_law_k", 10)]) (g := gName 10) (tt := tYes)
                  (te := tTup (tCons (tCall (spHeft K) [] E0 (tCons (tVar 3) (tCons (tOp (rIxL K) (tVar 6) (tVar 10)) tNil))) (tCons (tVar 10) tNil))) (by rfl) scGrown.nd
                  (pi_range1 (by rfl) mr (pa_cons (pe_callB call_len_seq (by rfl) ml PySem.boot_len (pa_cons (pv 6) pa_nil)) pa_nil)) (blkOk_by (own := [("_law_k", 10)]) (N := NG) (sc := defScope sGrown) (by decide +kernel))
                  (fun _ _ _ _ _ => pg_name (i := 10) scGrown.nd rfl (Or.inl rfl)) (fun _ _ _ _ _ => pts_nil)
                  (fun _ _ _ _ _ => pe_tup (pa_cons (pe_call GH hr1 (by rfl) gH FH.kp bH .nil pass0 (pa_cons (pv 3) (pa_cons (pe_ix ix_list (pv 6) (pv 10) (fun _ _ => rfl)) pa_nil))) (pa_cons (pv 10) pa_nil)))) pa_nil)))
              (pss_one (ps_set (i := 6) scGrown.nd rfl (.inr rfl) (pe_stepL (pe_lc (own := [("_law_weight", 11), ("_law_k", 10)]) (g := gTup K 2 (gCons (gName 11) (gCons (gName 10) gNil))) (tt := tYes) (te := tOp (rIxL K) (tVar 6) (tVar 10)) (by rfl) scGrown.nd (pi_list (pv 7))
                  (blkOk_by (own := [("_law_weight", 11), ("_law_k", 10)]) (N := NG) (sc := defScope sGrown) (by decide +kernel)) (fun _ _ _ _ _ => pg_tup rfl (pgs_cons (pg_name (i := 11) scGrown.nd rfl (Or.inl rfl)) (pgs_cons (pg_name (i := 10) scGrown.nd rfl (Or.inl rfl)) pgs_nil))) (fun _ _ _ _ _ => pts_nil)
                  (fun _ _ _ _ _ => pe_ix ix_list (pv 6) (pv 10) (fun _ _ => rfl))) (pe_ix ix_list (pe_lst (pa_cons pe_int (pa_cons (pe_un un_neg pe_int) pa_nil))) (pv 4) (fun _ _ => rfl)))))) pss_nil)
          (pss_cons (ps_par (i := 8) (j := 9) (by rfl) scGrown.nd rfl rfl (by decide) rfl rfl (pa_cons (pe_ix ix_list (pv 6) pe_int (fun _ _ => rfl)) (pa_cons (pe_ix ix_list (pv 6) pe_int (fun _ _ => rfl)) pa_nil)) (by rfl))
          (C8.pss_cut (ps_if (pt_cmpR op_lt (pe_call GH hr1 (by rfl) gH FH.kp bH .nil pass0 (pa_cons (pv 3) (pa_cons (pv 8) pa_nil))) (pe_call GH hr1 (by rfl) gH FH.kp bH .nil pass0 (pa_cons (pv 3) (pa_cons (pv 9) pa_nil))) (nomark _))
              (pss_one (ps_par (i := 8) (j := 9) (by rfl) scGrown.nd rfl rfl (by decide) rfl rfl (pa_cons (pv 9) (pa_cons (pv 8) pa_nil)) (by rfl))) pss_nil)
          (pss_one (ps_asg (pv 8) (pg_sub (pv 3) (pv 9) set_list))))))))
      (pss_one (ps_ret (pe_callTy call_tuple_of (by rfl) mT (by decide +kernel) (pa_cons (pv 3) pa_nil)))))), ?_⟩
    refine ⟨.ref w, rfl, .int most, rfl, w, l, most, rfl, hW, m0, by omega, fun r H1 r0 r1 hW1 kp1 => ⟨1, r, rfl, rfl, ?_⟩⟩
    obtain ⟨n, en⟩ : ∃ n : Nat, 1 + r = (n : Int) := ⟨(1 + r).toNat, by omega⟩
    show gName 2 (V.int (1 + r)) _ _ _
    rw [en]
    have n0 : 0 < n := by omega
    have n24 : n ≤ 24 := by omega
    refine ⟨.int (n : Int), rfl, n, rfl, RgOk.of_le (by omega) (by omega) (by omega) (by omega), fun pr npr => ?_⟩
    rw [rgV_nv]
    have Sp := same_new (o := .lst (nv (List.range n))) npr
    refine ⟨.ref w, rfl, w, l, 4, rfl, hW1.same Sp, by decide, by decide, fun wy H2 y0 y1 hW2 kp2 => ?_⟩
    obtain ⟨nwl, x1, st1, hw1, hl1, _⟩ := id hW1
    have prw : pr ≠ w := (ne_of_none hw1 npr).symm
    have prl : pr ≠ l := (ne_of_none hl1 npr).symm
    have prn : H pr = none := by
      cases z : H pr with
      | none => rfl
      | some o =>
        rw [kp1 _ _ prw prl z] at npr
        cases npr
    have hpr2 : H2 pr = some (.lst (nv (List.range n))) := kp2 _ _ prw prl upd_same
    have K2 : Keep w l H H2 := kp1.trans ((Keep.of Sp).trans kp2)
    refine ⟨(by show 2 ≤ sizeLine; decide), fun t nt => ⟨t, _, rfl, SqT.of upd_same, rfl, _, _, rfl, _, _, rfl, rfl, ?_⟩⟩
    have St := same_new (o := .tup [V.ref pr, V.int wy]) nt
    refine ⟨.ref w, rfl, .int (n : Int), rfl, _, _, rfl, rfl, .int (n : Int), rfl, _, _, rfl, rfl, .ref w, rfl, .int (n : Int), rfl, w, l, (n : Int), rfl, hW2.same St, by omega, by omega, fun r2 H3 q0 q1 hW3 kp3 => ?_⟩
    refine ⟨(by show 3 ≤ sizeLine; decide), fun p3 n3 => ?_⟩
    have S3 := same_new (o := .lst [V.int ((n : Int) - 1), V.int ((n : Int) - 1), V.int r2]) n3
    obtain ⟨_, x3, st3, hw3, hl3, _⟩ := id hW3
    refine ⟨w, l, p3, _, rfl, hW3.same S3, upd_same, (ne_of_none hw3 n3).symm, (ne_of_none hl3 n3).symm, (fun z => nomatch z), (by show 3 < 1073741824; decide), fun v H4 hv hW4 kp4 => ?_⟩
    obtain ⟨tn, rfl, t0, t1⟩ : ∃ tn : Int, v = .int tn ∧ 0 ≤ tn ∧ tn < n := by
      simp only [List.mem_cons, List.not_mem_nil, or_false] at hv
      rcases hv with rfl | rfl | rfl
      · exact ⟨_, rfl, by omega, by omega⟩
      · exact ⟨_, rfl, by omega, by omega⟩
      · exact ⟨_, rfl, q0, q1⟩
    have K4 : Keep w l H H4 := K2.trans ((Keep.of St).trans (kp3.trans ((Keep.of S3).trans kp4)))
    have hpr4 : H4 pr = some (.lst (nv (List.range n))) := kp4 _ _ prw prl (S3 _ _ (kp3 _ _ prw prl (St _ _ hpr2)))
    refine ⟨tn, rfl, by omega, by omega, for_range (lo := 0) (n := tn.toNat) (fun i σ H5 => ∃ (fs : List Nat) (c5 c6 c7 c8 c9 : Option V), σ = [some (.ref w), some (.int most), some (.int (n : Int)), some (.ref pr), some (.int wy), c5, c6, c7, c8, c9, none, none] ∧ Forest fs ∧ fs.length = n ∧ (tops fs).length + i = n ∧ H5 pr = some (.lst (nv fs)) ∧ Well w l H5 ∧ Keep w l H H5)
      ⟨List.range n, none, none, none, none, none, rfl, Forest.range n0 n24, List.length_range, by rw [tops_range, List.length_range]; rfl, hpr4, hW4, K4⟩ ?_ ?_⟩
    · rintro i σ H5 hi ⟨fs, c5, c6, c7, c8, c9, rfl, hF, ef, et, hpr, hW5, kp5⟩
      have two : 2 ≤ (tops fs).length := by omega
      refine ⟨.ref w, rfl, .ref pr, rfl, pr, fs, rfl, .inl (SqL.of hpr), by omega, fun tq H6 S6 nq hq => ?_⟩
      have tle : (tops fs).length ≤ 1000 := by omega
      refine ⟨w, l, tq, tops fs, rfl, hW5.same S6, hq, tle, fun ms th H7 pm hW7 kp7 nth hth => ?_⟩
      have hpr7 : H7 pr = some (.lst (nv fs)) := kp7 _ _ prw prl (S6 _ _ hpr)
      have K7 : Keep w l H H7 := kp5.trans ((Keep.of S6).trans kp7)
      have lms : ms.length = (tops fs).length := pm.length_eq
      have inT : ∀ {x : Nat}, x ∈ ms → x < fs.length := fun hx => (mem_tops.mp (pm.mem_iff.mp hx)).1
      -- the roots in some order, whichever way
      refine ⟨fun σ' H8 => ∃ (ks : List Nat) (tb : Addr) (d7 : Option V), σ' = [some (.ref w), some (.int most), some (.int (n : Int)), some (.ref pr), some (.int wy), some (.int (0 + (i : Int))), some (.ref tb), d7, c8, c9, none, none] ∧ ks.Perm (tops fs) ∧ H8 tb = some (.lst (nv ks)) ∧ H8 pr = some (.lst (nv fs)) ∧ Well w l H8 ∧ Keep w l H H8, ?_, ?_⟩
      · refine ⟨.int wy, rfl, _, _, rfl, rfl, _, rfl, ite2 (fun hy => ?_) (fun hy => ?_)⟩
        · have hy : wy < 2 := of_decide_eq_true hy
          refine ⟨.ref th, rfl, th, _, rfl, .inl (SqL.of hth), _, rfl, ?_, ?_, fun D nD => lc_range (lo := 0) (n := ((nv ms).length : Int).toNat)
            (fun k H8 => Same H7 H8 ∧ ∃ ts : List Addr, H8 D = some (.lst (ts.map V.ref)) ∧ ts.length = k ∧ ∀ (j : Nat) (t : Addr), ts[j]? = some t → H7 t = none ∧ t ≠ D ∧ ∃ c : Int, H8 t = some (.tup [.int c, .int (j : Int)])) ⟨same_new nD, [], upd_same, rfl, fun j t z => nomatch z⟩ ?_ ?_⟩
          · rw [nv_length]
            omega
          · rw [nv_length]
            omega
          · rintro k H8 hk ⟨s8, ts, hD, lt, hts⟩
            rw [nv_length] at hk
            have hk' : k < ms.length := by omega
            refine ⟨rfl, ?_⟩
            dsimp only [tYes]
            rw [if_pos rfl]
            refine ⟨.ref pr, rfl, .ref th, rfl, .int (0 + (k : Int)), rfl, th, _, (k : Int), _, rfl, by rw [Int.zero_add], SqL.of (s8 _ _ hth), atI_nat (nv_get hk'), pr, fs, _, rfl, .inl (SqL.of (s8 _ _ hpr7)), hF, ?_, fun ins H9 s9 _ _ => ?_⟩
            · refine inT ?_
              rw [List.getD_eq_getElem?_getD, List.getElem?_eq_getElem hk']
              exact List.getElem_mem hk'
            · refine ⟨.int (0 + (k : Int)), rfl, (by show 2 ≤ sizeLine; decide), fun t5 n5 => ?_⟩
              have S5 := same_new (o := .tup [V.int (ins.length : Nat), V.int (0 + (k : Int))]) n5
              have hD9 := S5 _ _ (s9 _ _ hD)
              have t5D : t5 ≠ D := (ne_of_none (s9 _ _ hD) n5).symm
              refine ⟨_, hD9, ?_, fun b o z => ?_, ts ++ [t5], ?_, ?_, ?_⟩
              · rw [List.length_map]
                exact small1000 (by omega)
              · rw [upd_ne (ne_of_none z nD)]
                exact S5 _ _ (s9 _ _ (s8 _ _ z))
              · rw [upd_same, List.map_append]
                rfl
              · rw [List.length_append, lt]
                rfl
              · intro j t hj
                by_cases z : j < ts.length
                · rw [List.getElem?_append_left z] at hj
                  obtain ⟨g1, g2, c, g3⟩ := hts j t hj
                  refine ⟨g1, g2, c, ?_⟩
                  rw [upd_ne g2]
                  exact S5 _ _ (s9 _ _ g3)
                · rw [List.getElem?_append_right (Nat.le_of_not_lt z)] at hj
                  have z2 : j - ts.length = 0 := by
                    rcases Nat.eq_zero_or_pos (j - ts.length) with y | y
                    · exact y
                    · rw [List.getElem?_eq_none (by rw [List.length_singleton]; omega)] at hj
                      cases hj
                  rw [z2] at hj
                  have e5 : t5 = t := Option.some.inj hj
                  subst e5
                  have ej : j = k := by omega
                  subst ej
                  refine ⟨(s8.trans s9).free n5, t5D, ((ins.length : Nat) : Int), ?_⟩
                  rw [upd_ne t5D, upd_same, Int.zero_add]
          · rintro H8 ⟨s8, ts, hD, lt, hts⟩
            rw [nv_length, Int.toNat_natCast] at lt
            have memts : ∀ x ∈ ts.map V.ref, ∃ (t : Addr) (a b : Int), x = V.ref t ∧ H8 t = some (.tup [.int a, .int b]) := fun x hx => by
              obtain ⟨t, ht, rfl⟩ := List.mem_map.mp hx
              obtain ⟨j, hj, ej⟩ := List.getElem_of_mem ht
              obtain ⟨_, _, c, g⟩ := hts j t (by rw [List.getElem?_eq_getElem hj, ej])
              exact ⟨t, c, j, rfl, g⟩
            refine ⟨D, _, rfl, SqL.of hD, memts, fun ys p6 py n6 => ?_⟩
            have S8 := same_new (o := .lst ys) n6
            have ey : (upd H8 p6 (.lst ys)) p6 = some (.lst ys) := upd_same
            generalize hG : upd H8 p6 (.lst ys) = G at *
            clear hG
            have lys : ys.length = ms.length := by
              rw [py.length_eq, List.length_map, lt]
            have val : ∀ y ∈ ys, ∃ (t : Addr) (c : Int) (j : Nat), y = V.ref t ∧ G t = some (.tup [.int c, .int (j : Int)]) ∧ j < ms.length := fun y hy => by
              obtain ⟨t, ht, rfl⟩ := List.mem_map.mp (py.mem_iff.mp hy)
              obtain ⟨j, hj, ej⟩ := List.getElem_of_mem ht
              obtain ⟨_, _, c, g⟩ := hts j t (by rw [List.getElem?_eq_getElem hj, ej])
              exact ⟨t, c, j, rfl, S8 _ _ g, by omega⟩
            have eqTs : (ts.map V.ref).map (pairAt G (nv ms)) = nv ms := by
              apply List.ext_getElem?
              intro j
              rw [List.getElem?_map, List.getElem?_map]
              by_cases z : j < ts.length
              · obtain ⟨_, _, c, g⟩ := hts j ts[j] (by rw [List.getElem?_eq_getElem z])
                rw [List.getElem?_eq_getElem z]
                have g2 := S8 _ _ g
                have e3 : pairAt G (nv ms) (V.ref ts[j]) = (nv ms).getD j .non := by
                  show (match G ts[j] with | some (.tup [_, .int j]) => (nv ms).getD j.toNat .non | _ => .non) = _
                  rw [g2]
                  rfl
                show some (pairAt G (nv ms) (V.ref ts[j])) = _
                rw [e3, List.getD_eq_getElem?_getD, nv_get (by omega)]
                rfl
              · rw [List.getElem?_eq_none (Nat.le_of_not_lt z), List.getElem?_eq_none (by rw [nv_length]; omega)]
                rfl
            have hth8 : G th = some (.lst (nv ms)) := S8 _ _ (s8 _ _ hth)
            refine ⟨.ref p6, rfl, p6, rfl, ⟨_, SqL.of ey⟩, fun E nE => lc_list (K := K) (a := p6) (xs := ys) (fun k H9 => Same G H9 ∧ H9 E = some (.lst ((ys.take k).map (pairAt G (nv ms))))) ⟨same_new nE, upd_same⟩ (fun k H9 _ z => SqL.of (z.1 _ _ ey)) ?_ ?_⟩
            · rintro k y H9 hk ⟨s9, hE⟩
              have hkl : k < ys.length := by
                rcases Nat.lt_or_ge k ys.length with z | z
                · exact z
                · rw [List.getElem?_eq_none z] at hk
                  cases hk
              obtain ⟨t, c, j, rfl, g, jl⟩ := val y (List.mem_of_getElem? hk)
              refine ⟨t, _, rfl, SqT.of (s9 _ _ g), rfl, _, _, rfl, _, _, rfl, rfl, rfl, ?_⟩
              dsimp only [tYes]
              rw [if_pos rfl]
              refine ⟨.ref th, rfl, .int (j : Int), rfl, th, _, (j : Int), _, rfl, rfl, SqL.of (s9 _ _ hth8), atI_nat (nv_get jl), _, hE, ?_, fun b o z => ?_, ?_⟩
              · rw [List.length_map, List.length_take]
                exact small1000 (Nat.le_trans (Nat.min_le_right _ _) (by omega))
              · rw [upd_ne (ne_of_none z nE)]
                exact s9 _ _ z
              · have e3 : pairAt G (nv ms) (V.ref t) = .int ((ms.getD j 0 : Nat) : Int) := by
                  show (match G t with | some (.tup [_, .int j]) => (nv ms).getD j.toNat .non | _ => .non) = _
                  rw [g]
                  show (nv ms).getD (Int.toNat (j : Int)) .non = _
                  rw [Int.toNat_natCast, List.getD_eq_getElem?_getD, nv_get jl]
                  rfl
                rw [upd_same, List.take_add_one, hk, List.map_append]
                show some (HO.lst (_ ++ [_])) = some (HO.lst (_ ++ [pairAt G (nv ms) (V.ref t)]))
                rw [e3]
            · rintro H9 ⟨s9, hE⟩
              rw [List.take_length] at hE
              refine ⟨1, rfl, (by show 2 ≤ sizeLine; decide), fun p7 n7 => ?_⟩
              have S9 := same_new (o := .lst [V.int 1, V.int (-1)]) n7
              have pz : (ys.map (pairAt G (nv ms))).Perm (nv ms) := by
                have := py.map (pairAt G (nv ms))
                rwa [eqTs] at this
              obtain ⟨ks, ek, pk⟩ := perm_nv pz
              rw [ek] at hE
              have fin : ∀ (zs : List Nat), zs.Perm ms → ∀ p8, (upd H9 p7 (.lst [V.int 1, V.int (-1)])) p8 = none → _ := fun zs pzs p8 n8 =>
                show ∃ (ks : List Nat) (tb : Addr) (d7 : Option V), [some (.ref w), some (.int most), some (.int (n : Int)), some (.ref pr), some (.int wy), some (.int (0 + (i : Int))), some (.ref p8), some (.ref p6), c8, c9, none, none] = [some (.ref w), some (.int most), some (.int (n : Int)), some (.ref pr), some (.int wy), some (.int (0 + (i : Int))), some (.ref tb), d7, c8, c9, none, none] ∧ ks.Perm (tops fs) ∧ (upd (upd H9 p7 (.lst [V.int 1, V.int (-1)])) p8 (.lst (nv zs))) tb = some (.lst (nv ks)) ∧ (upd (upd H9 p7 (.lst [V.int 1, V.int (-1)])) p8 (.lst (nv zs))) pr = some (.lst (nv fs)) ∧ Well w l (upd (upd H9 p7 (.lst [V.int 1, V.int (-1)])) p8 (.lst (nv zs))) ∧ Keep w l H (upd (upd H9 p7 (.lst [V.int 1, V.int (-1)])) p8 (.lst (nv zs))) from by
                  have Sz := (s8.trans (S8.trans (s9.trans S9))).trans (same_new (o := .lst (nv zs)) n8)
                  exact ⟨zs, p8, _, rfl, pzs.trans pm, upd_same, Sz _ _ hpr7, hW7.same Sz, K7.trans (Keep.of Sz)⟩
              have w01 : wy = 0 ∨ wy = 1 := by omega
              rcases w01 with rfl | rfl
              · refine ⟨.int 0, rfl, p7, _, 0, .int 1, rfl, rfl, SqL.of upd_same, atI_nat (j := 0) rfl, E, _, 1, rfl, rfl, SqL.of (S9 _ _ hE), .inl rfl, fun p8 n8 zs hz => ?_⟩
                rcases hz with rfl | rfl
                · exact fin ks pk p8 n8
                · rw [show (nv ks).reverse = nv ks.reverse from (List.map_reverse ..).symm]
                  exact fin ks.reverse ((List.reverse_perm ks).trans pk) p8 n8
              · refine ⟨.int 1, rfl, p7, _, 1, .int (-1), rfl, rfl, SqL.of upd_same, atI_nat (j := 1) rfl, E, _, -1, rfl, rfl, SqL.of (S9 _ _ hE), .inr rfl, fun p8 n8 zs hz => ?_⟩
                rcases hz with rfl | rfl
                · exact fin ks pk p8 n8
                · rw [show (nv ks).reverse = nv ks.reverse from (List.map_reverse ..).symm]
                  exact fin ks.reverse ((List.reverse_perm ks).trans pk) p8 n8
        · exact ⟨ms, th, c7, rfl, pm, hth, hpr7, hW7, K7⟩
      · rintro σ' H8 ⟨ks, tb, d7, rfl, pk, htb, hpr8, hW8, K8⟩
        have k2 : 2 ≤ ks.length := by rw [pk.length_eq]; exact two
        have knd : ks.Nodup := pk.symm.nodup (tops_nodup fs)
        generalize hx : ks.getD 0 0 = x
        generalize hy : ks.getD 1 0 = y
        have ex : ks[0]? = some x := by rw [← hx, List.getD_eq_getElem?_getD, List.getElem?_eq_getElem (by omega)]; rfl
        have ey : ks[1]? = some y := by rw [← hy, List.getD_eq_getElem?_getD, List.getElem?_eq_getElem (by omega)]; rfl
        have xm : x ∈ tops fs := pk.mem_iff.mp (List.mem_of_getElem? ex)
        have ym : y ∈ tops fs := pk.mem_iff.mp (List.mem_of_getElem? ey)
        have xy : x ≠ y := fun z => by
          subst z
          have := (List.getElem?_inj (by omega) knd).mp (ex.trans ey.symm)
          omega
        refine ⟨.ref tb, rfl, tb, _, 0, .int (x : Nat), rfl, rfl, SqL.of htb, ?_, .ref tb, rfl, tb, _, 1, .int (y : Nat), rfl, rfl, SqL.of htb, ?_, _, _, rfl, ?_⟩
        · rw [← hx]
          exact atI_nat (j := 0) (nv_get (by omega))
        · rw [← hy]
          exact atI_nat (j := 1) (nv_get (by omega))
        refine ⟨fun σ' H9 => ∃ x y : Nat, σ' = [some (.ref w), some (.int most), some (.int (n : Int)), some (.ref pr), some (.int wy), some (.int (0 + (i : Int))), some (.ref tb), d7, some (.int (x : Nat)), some (.int (y : Nat)), none, none] ∧ x ∈ tops fs ∧ y ∈ tops fs ∧ x ≠ y ∧ Same H8 H9, ?_, ?_⟩
        · refine ⟨.ref pr, rfl, .int (x : Nat), rfl, pr, fs, x, rfl, .inl (SqL.of hpr8), hF, (mem_tops.mp xm).1, fun i1 H9 s9 _ _ => ?_⟩
          refine ⟨.ref pr, rfl, .int (y : Nat), rfl, pr, fs, y, rfl, .inl (SqL.of (s9 _ _ hpr8)), hF, (mem_tops.mp ym).1, fun i2 H10 s10 _ _ => ?_⟩
          refine ⟨_, _, rfl, rfl, _, rfl, ite2 (fun _ => ?_) (fun _ => ?_)⟩
          · exact ⟨.int (y : Nat), rfl, .int (x : Nat), rfl, _, _, rfl, y, x, rfl, ym, xm, Ne.symm xy, s9.trans s10⟩
          · exact ⟨x, y, rfl, xm, ym, xy, s9.trans s10⟩
        · rintro σ2 H9 ⟨x, y, rfl, xm, ym, xy, s9⟩
          have hx1 := mem_tops.mp xm
          have hy1 := mem_tops.mp ym
          refine ⟨.int (x : Nat), rfl, .ref pr, rfl, .int (y : Nat), rfl, pr, _, (y : Int), y, rfl, rfl, s9 _ _ hpr8, ?_, ?_⟩
          · unfold ixN
            rw [nv_length, if_pos (by omega), if_pos (by omega), Int.toNat_natCast]
          · refine ⟨fs.set y x, _, _, _, _, _, rfl, hF.moved hy1.1 hx1.1 ?_, by rw [List.length_set]; exact ef, ?_, ?_, ?_, ?_⟩
            · intro b
              cases b with
              | refl => exact xy rfl
              | step h _ => exact h hx1.2
            · have := tops_moved ym xm (Ne.symm xy)
              omega
            · rw [upd_same]
              unfold nv
              rw [List.map_set]
            · obtain ⟨w1, w2, w3, w4, w5, w6⟩ := hW8.same s9
              exact ⟨w1, w2, w3, by rw [upd_ne prw.symm]; exact w4, by rw [upd_ne prl.symm]; exact w5, w6⟩
            · intro b o h1 h2 h
              rw [upd_ne (ne_of_none h prn)]
              exact s9 _ _ (K8 b o h1 h2 h)
    · rintro σ H5 ⟨fs, c5, c6, c7, c8, c9, rfl, hF, ef, et, hpr, hW5, kp5⟩
      refine ⟨.ref pr, rfl, pr, _, rfl, .inl ⟨SqL.of hpr, fun p9 n9 => ?_⟩⟩
      have S9 := same_new (o := .tup (nv fs)) n9
      exact q fs p9 _ hF (hW5.same S9) (kp5.trans (Keep.of S9)) (keep_free kp5 hW5 n9) upd_same
end
end Lf
namespace Lf
open PySem PySem.Spec PyProof.Rows L2
/-! ### _law_wild -/
/-- each one's parent is itself or stands before it -/
structure Ord (os ps : List Nat) (i : Nat) : Prop where
  len : ps.length = os.length
  bef : ∀ j, j < i → ∃ v, os[j]? = some v ∧ (par ps v = v ∨ ∃ m u, m < j ∧ os[m]? = some u ∧ par ps v = u)
theorem Ord.forest {os ps : List Nat} {n : Nat} (pm : os.Perm (List.range n)) (O : Ord os ps n) (n0 : 0 < n) (n24 : n ≤ 24) : Forest ps := by
  have lo : os.length = n := by rw [pm.length_eq, List.length_range]
  have lp : ps.length = n := by rw [O.len, lo]
  have mem : ∀ {v : Nat}, v ∈ os → v < n := fun h => List.mem_range.mp (pm.mem_iff.mp h)
  have at_ : ∀ v, v < n → ∃ j, j < n ∧ os[j]? = some v := fun v hv => by
    obtain ⟨j, hj, ej⟩ := List.getElem_of_mem (pm.mem_iff.mpr (List.mem_range.mpr hv))
    exact ⟨j, by omega, by rw [List.getElem?_eq_getElem hj, ej]⟩
  refine ⟨by omega, by omega, fun v hv => ?_, fun v hv => ?_⟩
  · obtain ⟨j, hj, ej⟩ := at_ v (by omega)
    obtain ⟨v', ev, hb⟩ := O.bef j hj
    rw [ej] at ev
    cases ev
    rcases hb with z | ⟨m, u, _, eu, z⟩
    · rw [z]
      exact hv
    · rw [z, lp]
      exact mem (List.mem_of_getElem? eu)
  · obtain ⟨j, hj, ej⟩ := at_ v (by omega)
    clear hv
    show Up ps v
    induction j using Nat.strongRecOn generalizing v with
    | _ j ih =>
      obtain ⟨v', ev, hb⟩ := O.bef j hj
      rw [ej] at ev
      cases ev
      rcases hb with z | ⟨m, u, hm, eu, z⟩
      · exact .root z
      · refine .step ?_
        rw [z]
        exact ih m hm u (by omega) eu
theorem Ord.next {os ps : List Nat} {i v x : Nat} (nd : os.Nodup) (vl : v < ps.length) (ev : os[i]? = some v) (hx : x = v ∨ ∃ m u, m < i ∧ os[m]? = some u ∧ x = u) (O : Ord os ps i) : Ord os (ps.set v x) (i + 1) := by
  refine ⟨by rw [List.length_set]; exact O.len, fun j hj => ?_⟩
  by_cases z : j < i
  · obtain ⟨v', e', hb⟩ := O.bef j z
    have ne : ¬ v' = v := fun y => by
      subst y
      have hj2 : j < os.length := by
        rcases Nat.lt_or_ge j os.length with y | y
        · exact y
        · rw [List.getElem?_eq_none y] at e'
          cases e'
      have := (List.getElem?_inj hj2 nd).mp (e'.trans ev.symm)
      omega
    refine ⟨v', e', ?_⟩
    rw [par_set vl, if_neg ne]
    exact hb
  · have : j = i := by omega
    subst this
    refine ⟨v, ev, ?_⟩
    rw [par_set vl, if_pos rfl]
    exact hx
theorem rep_nv : ∀ n : Nat, (List.replicate n [V.int 0]).flatten = nv (List.replicate n 0)
  | 0 => rfl
  | n + 1 => by
    rw [List.replicate_succ, List.replicate_succ, List.flatten_cons, rep_nv n]
    rfl
theorem cut_upto {os : List Nat} {i : Nat} (h : i ≤ os.length) : cutV (nv os) none (some (i : Int)) = nv (os.take i) := by
  unfold cutV
  rw [HT.sIx_none, HT.sIx_nat, nv_length, Nat.min_eq_left h, List.drop_zero, Nat.sub_zero]
  unfold nv
  rw [List.map_take]
section
variable {P : Program} {w : World} {K : PySem.W.Frag} {mg : Str → Option Value} {base : Heap}
abbrev NW : List Str := ["_law_well_here", "_law_most", "_law_n", "_law_order", "_law_parents", "_law_often", "_law_k", "_law_vertex"]
theorem scWild : FnScope NW ["_law_well_here", "_law_most"] (defScope sWild) := ⟨rfl, rfl, rfl, by decide +kernel, rfl, by decide +kernel, by decide +kernel⟩
theorem ok_wild {f fP fI fM : Addr} {fd fdP fdI fdM : FuncData} (F : Fun K "_law_wild" "_law_wild" sWild f fd)
    (FP : Fun K "_law_pull" "_law_pull" sPull fP fdP) (bP : Binds K fdP ["_law_well_here", "_law_many"] []) (gP : mg "_law_pull" = some (.ref fP))
    (FI : Fun K "_law_item" "_law_item" sItem fI fdI) (bI : Binds K fdI ["_law_well_here", "_law_items"] []) (gI : mg "_law_item" = some (.ref fI))
    (FM : Fun K "_law_mixed" "_law_mixed" sMixed fM fdM) (bM : Binds K fdM ["_law_well_here", "_law_items"] []) (gM : mg "_law_mixed" = some (.ref fM))
    (ml : mg "len" = none) (mr : mg "range" = none) (mL : mg "list" = none) (mT : mg "tuple" = none) (me : mg "enumerate" = none) :
    FnOk P w K mg base CX0 3 f fd ["_law_well_here", "_law_most"] spGrown := by
  have GP : FnOk P w K mg base CX0 1 fP fdP ["_law_well_here", "_law_many"] spPull := ok_pull FP
  have GI : FnOk P w K mg base CX0 2 fI fdI ["_law_well_here", "_law_items"] spItem := ok_item FI FP bP gP ml
  have GM : FnOk P w K mg base CX0 2 fM fdM ["_law_well_here", "_law_items"] spMixed := ok_mixed FM FP bP gP ml mL
  refine F.ok scWild (fun vs H Q E h => ?_) (fun cdv A outer s H vs Q E hr h => ?_)
  · obtain ⟨w, l, m, rfl, _⟩ := h
    rfl
  · obtain ⟨w, l, most, rfl, hW, m0, m1, q⟩ := h
    have hr1 : Room 1 _ := hr.mono (by decide)
    refine ⟨_, pss_cons (ps_set (i := 2) scWild.nd rfl (.inl rfl) (pe_op op_add pe_int (pe_call GP hr1 (by rfl) gP FP.kp bP .nil pass0 (pa_cons (pv 0) (pa_cons (pv 1) pa_nil)))))
      (pss_cons (ps_par (i := 3) (j := 4) (by rfl) scWild.nd rfl rfl (by decide) rfl rfl (pa_cons (pe_call GM hr (by rfl) gM FM.kp bM .nil pass0 (pa_cons (pv 0) (pa_cons (pe_listRg rfl (by rfl) mL (prg_1 (by rfl) mr (pv 2))) pa_nil))) (pa_cons (pe_op op_rep (pe_lst (pa_cons pe_int pa_nil)) (pv 2)) pa_nil)) (by rfl))
      (pss_cons (ps_set (i := 5) scWild.nd rfl (.inl rfl) (pe_op op_add pe_int (pe_call GP hr1 (by rfl) gP FP.kp bP .nil pass0 (pa_cons (pv 0) (pa_cons pe_int pa_nil)))))
      (pss_cons (ps_for PassesOwn.never rfl (pi_enum (by rfl) me (pa_cons (pv 3) pa_nil)) (pg_tup rfl (pgs_cons (pg_name (i := 6) scWild.nd rfl (.inl rfl)) (pgs_cons (pg_name (i := 7) scWild.nd rfl (.inl rfl)) pgs_nil)))
          (pss_one (ps_asg (pe_ifExp (PW.pt (pw_or (pt_cmpR op_eq (pv 6) pe_int (nomark _)) (pw_or1 (PW.pt (pw_and (pt_cmpR op_eq (pe_call GP hr1 (by rfl) gP FP.kp bP .nil pass0 (pa_cons (pv 0) (pa_cons (pv 5) pa_nil))) pe_int (nomark _)) (pw_and1 (pt_cmpR op_gt (pv 5) pe_int (nomark _)))))))) (pv 7)
              (pe_call GI hr (by rfl) gI FI.kp bI .nil pass0 (pa_cons (pv 0) (pa_cons (pe_slice sl_list (pv 3) po_none (po_some (pv 6))) pa_nil)))) (pg_sub (pv 4) (pv 7) set_list))))
      (pss_one (ps_ret (pe_callTy call_tuple_of (by rfl) mT (by decide +kernel) (pa_cons (pv 4) pa_nil))))))), ?_⟩
    refine ⟨.ref w, rfl, .int most, rfl, w, l, most, rfl, hW, m0, by omega, fun r H1 r0 r1 hW1 kp1 => ⟨1, r, rfl, rfl, ?_⟩⟩
    obtain ⟨n, en⟩ : ∃ n : Nat, 1 + r = (n : Int) := ⟨(1 + r).toNat, by omega⟩
    show gName 2 (V.int (1 + r)) _ _ _
    rw [en]
    have n0 : 0 < n := by omega
    have n24 : n ≤ 24 := by omega
    refine ⟨.ref w, rfl, .int (n : Int), rfl, n, rfl, RgOk.of_le (by omega) (by omega) (by omega) (by omega), fun pr npr => ?_⟩
    rw [rgV_nv]
    have Sp := same_new (o := .lst (nv (List.range n))) npr
    refine ⟨w, l, pr, List.range n, rfl, hW1.same Sp, upd_same, by rw [List.length_range]; omega, fun os qo H2 pm hW2 kp2 nqo hqo => ?_⟩
    refine ⟨(by show 1 ≤ sizeLine; decide), fun z1 nz1 => ⟨.int (n : Int), rfl, z1, _, _, rfl, rfl, upd_same, by omega, by omega, ?_, fun pp npp => ⟨_, _, rfl, ?_⟩⟩⟩
    · show 1 * Int.toNat (n : Int) ≤ sizeLine
      rw [sizeLine_eq]
      omega
    have Z1 := same_new (o := .lst [V.int 0]) nz1
    have lo : os.length = n := by rw [pm.length_eq, List.length_range]
    have nd : os.Nodup := pm.symm.nodup List.nodup_range
    have hrep : (List.replicate (Int.toNat (n : Int)) [V.int 0]).flatten = nv (List.replicate n 0) := by
      rw [Int.toNat_natCast]
      exact rep_nv n
    rw [hrep]
    have Z2 := same_new (o := .lst (nv (List.replicate n 0))) npp
    have ZZ := Z1.trans Z2
    have K2 : Keep w l H H2 := kp1.trans ((Keep.of Sp).trans kp2)
    have ppn : H pp = none := keep_free (K2.trans (Keep.of Z1)) (hW2.same Z1) npp
    refine ⟨.ref w, rfl, w, l, 6, rfl, hW2.same ZZ, by decide, by decide, fun of H3 o0 o1 hW3 kp3 => ⟨1, of, rfl, rfl, ?_⟩⟩
    obtain ⟨_, x3, st3, hw3, hl3, _⟩ := id (hW2.same ZZ)
    have qow : qo ≠ w ∧ qo ≠ l := by
      obtain ⟨_, _, _, hw1, hl1, _⟩ := hW1.same Sp
      exact ⟨(ne_of_none hw1 nqo).symm, (ne_of_none hl1 nqo).symm⟩
    have ppw : pp ≠ w ∧ pp ≠ l := by
      obtain ⟨_, _, _, hw1, hl1, _⟩ := hW2.same Z1
      exact ⟨(ne_of_none hw1 npp).symm, (ne_of_none hl1 npp).symm⟩
    have qopp : qo ≠ pp := (ne_of_none (Z1 _ _ hqo) npp)
    have hqo3 : H3 qo = some (.lst (nv os)) := kp3 _ _ qow.1 qow.2 (ZZ _ _ hqo)
    have hpp3 : H3 pp = some (.lst (nv (List.replicate n 0))) := kp3 _ _ ppw.1 ppw.2 upd_same
    have K3 : Keep w l H H3 := K2.trans ((Keep.of ZZ).trans kp3)
    refine ⟨.ref qo, rfl, qo, _, rfl, SqL.of hqo3, for_it (walk_enum (K := K) (a := qo) (xs := nv os)) (fun i σ H4 => ∃ (ps : List Nat) (c6 c7 : Option V), σ = [some (.ref w), some (.int most), some (.int (n : Int)), some (.ref qo), some (.ref pp), some (.int (1 + of)), c6, c7] ∧ Ord os ps i ∧ H4 qo = some (.lst (nv os)) ∧ H4 pp = some (.lst (nv ps)) ∧ Well w l H4 ∧ Keep w l H H4)
      ⟨List.replicate n 0, none, none, rfl, ⟨by rw [List.length_replicate, lo], fun j hj => absurd hj (Nat.not_lt_zero j)⟩, hqo3, hpp3, hW3, K3⟩ (fun i σ H4 _ ⟨_, _, _, _, _, z, _⟩ => SqL.of z) ?_ ?_⟩
    · rintro i v σ H4 H4' hi ⟨ps, c6, c7, rfl, O, hq4, hp4, hW4, K4⟩ ⟨t, v1, v2, rfl, nt, rfl, z1, z2⟩
      obtain ⟨io, rfl⟩ := nv_some z2
      cases z1
      have St := same_new (o := .tup [V.int (i : Nat), V.int ((os.getD i 0 : Nat) : Int)]) nt
      generalize hv : os.getD i 0 = v at *
      have ev : os[i]? = some v := by rw [← hv, List.getD_eq_getElem?_getD, List.getElem?_eq_getElem io]; rfl
      have vn : v < n := List.mem_range.mp (pm.mem_iff.mp (List.mem_of_getElem? ev))
      have vp : v < ps.length := by rw [O.len, lo]; exact vn
      -- whatever is chosen
      have put : ∀ (x : Nat) (H5 : Hp), (x = v ∨ ∃ m u, m < i ∧ os[m]? = some u ∧ x = u) → H5 qo = some (.lst (nv os)) → H5 pp = some (.lst (nv ps)) → Well w l H5 → Keep w l H H5 →
          ∃ (ps' : List Nat) (c6 c7 : Option V), [some (.ref w), some (.int most), some (.int (n : Int)), some (.ref qo), some (.ref pp), some (.int (1 + of)), some (V.int (i : Nat)), some (V.int (v : Nat))] = [some (.ref w), some (.int most), some (.int (n : Int)), some (.ref qo), some (.ref pp), some (.int (1 + of)), c6, c7] ∧ Ord os ps' (i + 1) ∧
            (upd H5 pp (.lst ((nv ps).set v (.int (x : Nat))))) qo = some (.lst (nv os)) ∧ (upd H5 pp (.lst ((nv ps).set v (.int (x : Nat))))) pp = some (.lst (nv ps')) ∧ Well w l (upd H5 pp (.lst ((nv ps).set v (.int (x : Nat))))) ∧ Keep w l H (upd H5 pp (.lst ((nv ps).set v (.int (x : Nat))))) := by
        intro x H5 hx hq5 hp5 hW5 K5
        refine ⟨ps.set v x, _, _, rfl, O.next nd vp ev hx, ?_, ?_, ?_, ?_⟩
        · rw [upd_ne qopp]
          exact hq5
        · rw [upd_same]
          unfold nv
          rw [List.map_set]
        · obtain ⟨w1, w2, w3, w4, w5, w6⟩ := hW5
          exact ⟨w1, w2, w3, by rw [upd_ne ppw.1.symm]; exact w4, by rw [upd_ne ppw.2.symm]; exact w5, w6⟩
        · intro b o h1 h2 h
          rw [upd_ne (ne_of_none h ppn)]
          exact K5 b o h1 h2 h
      have ix : ixN (nv ps).length (v : Int) = some v := by
        unfold ixN
        rw [nv_length, if_pos (by omega), if_pos (by omega), Int.toNat_natCast]
      refine ⟨t, _, rfl, SqT.of upd_same, rfl, _, _, rfl, _, _, rfl, rfl, ?_⟩
      refine ⟨.int (i : Nat), rfl, rfl, _, rfl, ite2 (fun hz => ?_) (fun hz => ?_)⟩
      · refine iteT ⟨.int (v : Nat), rfl, .ref pp, rfl, .int (v : Nat), rfl, pp, _, (v : Int), v, rfl, rfl, St _ _ hp4, ix, ?_⟩
        exact put v _ (.inl rfl) (St _ _ hq4) (St _ _ hp4) (hW4.same St) (K4.trans (Keep.of St))
      · have hz : ¬ i = 0 := fun z => hz (decide_eq_true (by rw [z]; rfl))
        refine ⟨.ref w, rfl, .int (1 + of), rfl, w, l, 1 + of, rfl, hW4.same St, by omega, by omega, fun g H5 g0 g1 hW5 kp5 => ?_⟩
        have hq5 := kp5 _ _ qow.1 qow.2 (St _ _ hq4)
        have hp5 := kp5 _ _ ppw.1 ppw.2 (St _ _ hp4)
        have K5 := K4.trans ((Keep.of St).trans kp5)
        have other : ∀ {Z : Prop}, Z → Z := fun z => z
        refine ⟨rfl, _, rfl, ite2 (fun h1 => ?_) (fun h1 => ?_)⟩
        · refine ⟨.int (1 + of), rfl, _, _, rfl, rfl, _, rfl, ite2 (fun h2 => ?_) (fun h2 => ?_)⟩
          · refine ⟨.int (v : Nat), rfl, .ref pp, rfl, .int (v : Nat), rfl, pp, _, (v : Int), v, rfl, rfl, hp5, ix, ?_⟩
            exact put v _ (.inl rfl) hq5 hp5 hW5 K5
          · refine ⟨.ref w, rfl, .ref qo, rfl, .int (i : Nat), rfl, _, rfl, qo, _, rfl, SqL.of hq5, fun ps5 n5 => ?_⟩
            have S5 := same_new (o := .lst (nv (os.take i))) n5
            rw [cut_upto (Nat.le_of_lt io)]
            obtain ⟨_, _, _, hw5, hl5, _⟩ := id hW5
            refine ⟨w, l, ps5, _, rfl, hW5.same S5, upd_same, (ne_of_none hw5 n5).symm, (ne_of_none hl5 n5).symm, ?_, ?_, fun x H6 hx hW6 kp6 => ?_⟩
            · intro z
              have := congrArg List.length z
              rw [nv_length, List.length_take] at this
              have : min i os.length = 0 := this
              omega
            · rw [nv_length, List.length_take]
              omega
            · obtain ⟨u, hu, rfl⟩ := List.mem_map.mp hx
              obtain ⟨m, hm, em⟩ := List.getElem_of_mem hu
              rw [List.length_take] at hm
              have em2 : os[m]? = some u := by
                rw [← em, List.getElem_take, List.getElem?_eq_getElem (by omega)]
              have hq6 := kp6 _ _ qow.1 qow.2 (S5 _ _ hq5)
              have hp6 := kp6 _ _ ppw.1 ppw.2 (S5 _ _ hp5)
              refine ⟨.ref pp, rfl, .int (v : Nat), rfl, pp, _, (v : Int), v, rfl, rfl, hp6, ix, ?_⟩
              exact put u _ (.inr ⟨m, u, by omega, em2, rfl⟩) hq6 hp6 hW6 (K5.trans ((Keep.of S5).trans kp6))
        · refine iteF ⟨.ref w, rfl, .ref qo, rfl, .int (i : Nat), rfl, _, rfl, qo, _, rfl, SqL.of hq5, fun ps5 n5 => ?_⟩
          have S5 := same_new (o := .lst (nv (os.take i))) n5
          rw [cut_upto (Nat.le_of_lt io)]
          obtain ⟨_, _, _, hw5, hl5, _⟩ := id hW5
          refine ⟨w, l, ps5, _, rfl, hW5.same S5, upd_same, (ne_of_none hw5 n5).symm, (ne_of_none hl5 n5).symm, ?_, ?_, fun x H6 hx hW6 kp6 => ?_⟩
          · intro z
            have := congrArg List.length z
            rw [nv_length, List.length_take] at this
            have : min i os.length = 0 := this
            omega
          · rw [nv_length, List.length_take]
            omega
          · obtain ⟨u, hu, rfl⟩ := List.mem_map.mp hx
            obtain ⟨m, hm, em⟩ := List.getElem_of_mem hu
            rw [List.length_take] at hm
            have em2 : os[m]? = some u := by
              rw [← em, List.getElem_take, List.getElem?_eq_getElem (by omega)]
            have hq6 := kp6 _ _ qow.1 qow.2 (S5 _ _ hq5)
            have hp6 := kp6 _ _ ppw.1 ppw.2 (S5 _ _ hp5)
            refine ⟨.ref pp, rfl, .int (v : Nat), rfl, pp, _, (v : Int), v, rfl, rfl, hp6, ix, ?_⟩
            exact put u _ (.inr ⟨m, u, by omega, em2, rfl⟩) hq6 hp6 hW6 (K5.trans ((Keep.of S5).trans kp6))
    · rintro σ H4 ⟨ps, c6, c7, rfl, O, hq4, hp4, hW4, K4⟩
      refine ⟨.ref pp, rfl, pp, _, rfl, .inl ⟨SqL.of hp4, fun p9 n9 => ?_⟩⟩
      have S9 := same_new (o := .tup (nv ps)) n9
      rw [nv_length, lo] at O
      exact q ps p9 _ (O.forest pm n0 n24) (hW4.same S9) (K4.trans (Keep.of S9)) (keep_free K4 hW4 n9) upd_same
end
end Lf
namespace Lf
open PySem PySem.Spec PyProof.Rows L2
/-! ### _law_line, _law_forest -/
def spLine (K : PySem.W.Frag) : Sp := fun vs H Q _ => ∃ (p : Addr) (fs : List Nat) (v : Nat), vs = [.ref p, .int (v : Nat)] ∧ SqQ K H p (nv fs) ∧ Forest fs ∧ v < fs.length ∧
  ∀ (ln : List Nat) (q : Addr) (H' : Hp), Same H H' → Pth fs v ln → ln.length ≤ fs.length → H q = none → H' q = some (.lst (nv ln)) → Q (.ref q) H'
theorem nv_last (l : List Nat) (v : Nat) : atI (nv (l ++ [v])) (-1) = some (.int (v : Nat)) := by
  rw [nv_append]
  exact atI_last (nv l) (.int (v : Nat))
section
variable {P : Program} {w : World} {K : PySem.W.Frag} {mg : Str → Option Value} {base : Heap}
theorem scLine : FnScope ["_law_parents", "_law_vertex", "_law_found"] ["_law_parents", "_law_vertex"] (defScope sLine) := ⟨rfl, rfl, rfl, by decide +kernel, rfl, by decide +kernel, by decide +kernel⟩
theorem ok_line {f : Addr} {fd : FuncData} (F : Fun K "_law_line" "_law_line" sLine f fd) : FnOk P w K mg base CX0 1 f fd ["_law_parents", "_law_vertex"] (spLine K) := by
  refine F.ok scLine (fun vs H Q E h => ?_) (fun cdv A outer s H vs Q E hr h => ?_)
  · obtain ⟨p, fs, v, rfl, _⟩ := h
    rfl
  · obtain ⟨p, fs, v, rfl, hp, hF, hv, q⟩ := h
    refine ⟨_, pss_cons (ps_set (i := 2) scLine.nd rfl (.inl rfl) (pe_lst (pa_cons (pv 1) pa_nil)))
      (pss_cons (ps_while PassesOwn.never (pt_cmpR op_ne (pe_ix ix_q (pv 0) (pe_ix ix_list (pv 2) (pe_un un_neg pe_int) (fun _ _ => rfl)) (fun _ _ => rfl)) (pe_ix ix_list (pv 2) (pe_un un_neg pe_int) (fun _ _ => rfl)) (nomark _))
        (pss_one (ps_expr (pe_bm PySem.F.plainAttrs_list PySem.F.slot_list_append PySem.F.type_list_append mt_append (pv 2) (pa_cons (pe_ix ix_q (pv 0) (pe_ix ix_list (pv 2) (pe_un un_neg pe_int) (fun _ _ => rfl)) (fun _ _ => rfl)) pa_nil)))))
      (pss_one (ps_ret (pv 2)))), ?_⟩
    refine ⟨.int (v : Nat), rfl, (by show 1 ≤ sizeLine; decide), fun qa nq => ?_⟩
    obtain ⟨k, rk⟩ := hF.rch v hv
    obtain ⟨full, pf, nd, lf, _, _, _⟩ := hF.path hv
    refine ⟨fun m σ H1 => ∃ (pre : List Nat) (cur : Nat), σ = [some (.ref p), some (.int (v : Nat)), some (.ref qa)] ∧ Same H H1 ∧ H1 qa = some (.lst (nv (pre ++ [cur]))) ∧ cur < fs.length ∧ Rch fs m cur ∧ ∀ l, Pth fs cur l → Pth fs v (pre ++ l),
      ⟨k, [], v, rfl, same_new nq, upd_same, hv, rk, fun l h => h⟩, ?_⟩
    rintro m σ H1 ⟨pre, cur, rfl, sm, hqa, hc, rc, ext⟩
    have hpp := hp.same sm
    have short : pre.length + 1 + m ≤ 24 := by
      obtain ⟨l, pl, el⟩ := Pth.of rc
      have e := (ext l pl).inj pf
      have := congrArg List.length e
      rw [List.length_append, el] at this
      have := hF.few
      omega
    refine ⟨.ref p, rfl, .ref qa, rfl, 1, rfl, qa, _, -1, _, rfl, rfl, SqL.of hqa, nv_last pre cur, p, _, (cur : Int), .int ((par fs cur : Nat) : Int), rfl, rfl, hpp, atI_nat (nv_get hc), .ref qa, rfl, 1, rfl, qa, _, -1, _, rfl, rfl, SqL.of hqa, nv_last pre cur, rfl, _, rfl, ite2 (fun hn => ?_) (fun hn => ?_)⟩
    · have hn : par fs cur ≠ cur := fun z => by
        rw [decide_eq_true (natV_inj.mpr z)] at hn
        cases hn
      cases rc with
      | root z => exact absurd z hn
      | @step m' _ _ r =>
        refine ⟨fun σ' H' => σ' = [some (.ref p), some (.int (v : Nat)), some (.ref qa)] ∧ Same H H' ∧ H' qa = some (.lst (nv ((pre ++ [cur]) ++ [par fs cur]))), ?_, ?_⟩
        · rintro σ' H' ⟨z1, z2, z3⟩
          refine ⟨m', Nat.lt_succ_self _, pre ++ [cur], par fs cur, z1, z2, z3, hF.rng cur hc, r, fun l hl => ?_⟩
          rw [List.append_assoc]
          exact ext _ (.step hn hl)
        · refine ⟨.ref qa, rfl, .inl ⟨rfl, _, SqL.of hqa⟩, .ref p, rfl, .ref qa, rfl, 1, rfl, qa, _, -1, _, rfl, rfl, SqL.of hqa, nv_last pre cur, p, _, (cur : Int), .int ((par fs cur : Nat) : Int), rfl, rfl, hpp, atI_nat (nv_get hc), qa, _, _, rfl, rfl, hqa, ?_, rfl, fun b o z => ?_, ?_⟩
          · rw [nv_length, List.length_append]
            exact small1000 (by show pre.length + 1 ≤ 1000; omega)
          · rw [upd_ne (ne_of_none z nq)]
            exact sm _ _ z
          · rw [upd_same, nv_append (pre ++ [cur])]
            rfl
    · have hn : par fs cur = cur := Classical.byContradiction fun z => hn (by rw [decide_eq_false (fun y => z (natV_inj.mp y))]; rfl)
      have pt := ext _ (.root hn)
      exact ⟨.ref qa, rfl, q _ qa H1 sm pt (by rw [pt.inj pf]; exact lf) nq hqa⟩
theorem in_nv {x : Nat} : ∀ l : List Nat, inV (.int (x : Nat)) (nv l) = decide (x ∈ l)
  | [] => rfl
  | y :: l => by
    show (eqV (.int (y : Nat)) (.int (x : Nat)) || inV (.int (x : Nat)) (nv l)) = _
    rw [in_nv l]
    have e : eqV (.int (y : Nat)) (.int (x : Nat)) = decide (x = y) := by
      show (((y : Nat) : Int) == ((x : Nat) : Int)) = _
      by_cases h : x = y
      · rw [h, decide_eq_true rfl, beq_self_eq_true]
      · rw [decide_eq_false h]
        exact beq_eq_false_iff_ne.mpr (by omega)
    rw [e]
    by_cases h : x = y <;> simp [h]
theorem flat_nv : ∀ l : List Nat, (nv l).all flatV = true
  | [] => rfl
  | _ :: l => flat_nv l
theorem cut_from {os : List Nat} {i : Nat} (h : i ≤ os.length) : cutV (nv os) (some (i : Int)) none = nv (os.drop i) := by
  unfold cutV
  rw [HT.sIx_none, HT.sIx_nat, nv_length, Nat.min_eq_left h]
  unfold nv
  rw [← List.map_drop, List.take_of_length_le]
  rw [List.length_map, List.length_drop]
  exact Nat.le_refl _
theorem set_cut {fs : List Nat} {v x : Nat} (h : v < fs.length) : fs.set v x = fs.take v ++ [x] ++ fs.drop (v + 1) := by
  rw [List.set_eq_take_append_cons_drop, if_pos h, List.append_assoc]
  rfl
abbrev NF : List Str := ["_law_well_here", "_law_most", "_law_way", "_law_parents", "_law_vertex", "_law_other"]
theorem scForest : FnScope NF ["_law_well_here", "_law_most"] (defScope sForest) := ⟨rfl, rfl, rfl, by decide +kernel, rfl, by decide +kernel, by decide +kernel⟩
theorem ok_forest {f fP fG fW fL : Addr} {fd fdP fdG fdW fdL : FuncData} (F : Fun K "_law_forest" "_law_forest" sForest f fd)
    (FP : Fun K "_law_pull" "_law_pull" sPull fP fdP) (bP : Binds K fdP ["_law_well_here", "_law_many"] []) (gP : mg "_law_pull" = some (.ref fP))
    (FG : Fun K "_law_grown" "_law_grown" sGrown fG fdG) (bG : Binds K fdG ["_law_well_here", "_law_most"] []) (gG : mg "_law_grown" = some (.ref fG)) (GG : FnOk P w K mg base CX0 3 fG fdG ["_law_well_here", "_law_most"] spGrown)
    (FW : Fun K "_law_wild" "_law_wild" sWild fW fdW) (bW : Binds K fdW ["_law_well_here", "_law_most"] []) (gW : mg "_law_wild" = some (.ref fW)) (GW : FnOk P w K mg base CX0 3 fW fdW ["_law_well_here", "_law_most"] spGrown)
    (FL : Fun K "_law_line" "_law_line" sLine fL fdL) (bL : Binds K fdL ["_law_parents", "_law_vertex"] []) (gL : mg "_law_line" = some (.ref fL))
    (ml : mg "len" = none) : FnOk P w K mg base CX0 4 f fd ["_law_well_here", "_law_most"] spGrown := by
  have GP : FnOk P w K mg base CX0 1 fP fdP ["_law_well_here", "_law_many"] spPull := ok_pull FP
  have GL : FnOk P w K mg base CX0 1 fL fdL ["_law_parents", "_law_vertex"] (spLine K) := ok_line FL
  refine F.ok scForest (fun vs H Q E h => ?_) (fun cdv A outer s H vs Q E hr h => ?_)
  · obtain ⟨w, l, m, rfl, _⟩ := h
    rfl
  · obtain ⟨w, l, most, rfl, hW, m0, m1, q⟩ := h
    have hr1 : Room 1 _ := hr.mono (by decide)
    refine ⟨_, pss_cons (ps_set (i := 2) scForest.nd rfl (.inl rfl) (pe_call GP hr1 (by rfl) gP FP.kp bP .nil pass0 (pa_cons (pv 0) (pa_cons pe_int pa_nil))))
      (pss_cons (ps_if (pt_cmpR op_eq (pv 2) pe_int (nomark _)) (pss_one (ps_ret (pe_call GW hr (by rfl) gW FW.kp bW .nil pass0 (pa_cons (pv 0) (pa_cons (pv 1) pa_nil))))) pss_nil)
      (pss_cons (ps_set (i := 3) scForest.nd rfl (.inl rfl) (pe_call GG hr (by rfl) gG FG.kp bG .nil pass0 (pa_cons (pv 0) (pa_cons (pv 1) pa_nil))))
      (pss_cons (ps_if (pt_cmpR op_eq (pv 2) pe_int (nomark _))
          (pss_cons (ps_par (i := 4) (j := 5) (by rfl) scForest.nd rfl rfl (by decide) rfl rfl (pa_cons (pe_call GP hr1 (by rfl) gP FP.kp bP .nil pass0 (pa_cons (pv 0) (pa_cons (pe_callB call_len_seq (by rfl) ml PySem.boot_len (pa_cons (pv 3) pa_nil)) pa_nil)))
              (pa_cons (pe_call GP hr1 (by rfl) gP FP.kp bP .nil pass0 (pa_cons (pv 0) (pa_cons (pe_callB call_len_seq (by rfl) ml PySem.boot_len (pa_cons (pv 3) pa_nil)) pa_nil))) pa_nil)) (by rfl))
          (pss_one (ps_if (pt_cmpR op_notIn_seq (pv 4) (pe_call GL hr1 (by rfl) gL FL.kp bL .nil pass0 (pa_cons (pv 3) (pa_cons (pv 5) pa_nil))) (by rfl))
            (pss_one (ps_set (i := 3) scForest.nd rfl (.inl rfl) (pe_op op_catA (pe_op op_catA (pe_slice sl_tupA (pv 3) po_none (po_some (pv 4))) (pe_tup (pa_cons (pv 5) pa_nil))) (pe_slice sl_tupA (pv 3) (po_some (pe_op op_add (pv 4) pe_int)) po_none)))) pss_nil))) pss_nil)
      (pss_one (ps_ret (pv 3)))))), ?_⟩
    refine ⟨.ref w, rfl, w, l, 4, rfl, hW, by decide, by decide, fun wy H1 y0 y1 hW1 kp1 => ?_⟩
    refine ⟨.int wy, rfl, rfl, _, rfl, ite2 (fun h0 => ?_) (fun h0 => ?_)⟩
    · refine ⟨.ref w, rfl, .int most, rfl, w, l, most, rfl, hW1, m0, m1, fun fs qa H2 hF hW2 kp2 nq hq => ?_⟩
      exact q fs qa H2 hF hW2 (kp1.trans kp2) (keep_free kp1 hW1 nq) hq
    · refine ⟨.ref w, rfl, .int most, rfl, w, l, most, rfl, hW1, m0, m1, fun fs qa H2 hF hW2 kp2 nq hq => ?_⟩
      have K2 := kp1.trans kp2
      have nqH : H qa = none := keep_free kp1 hW1 nq
      obtain ⟨_, _, _, hw1, hl1, _⟩ := id hW1
      have qw : qa ≠ w := (ne_of_none hw1 nq).symm
      have ql : qa ≠ l := (ne_of_none hl1 nq).symm
      have pos := hF.pos
      have few := hF.few
      refine ⟨.int wy, rfl, rfl, _, rfl, ite2 (fun h1 => ?_) (fun h1 => ?_)⟩
      · refine ⟨.ref w, rfl, .ref qa, rfl, qa, _, rfl, .inr (SqT.of hq), w, l, _, rfl, hW2, ?_, ?_, fun v H3 v0 v1 hW3 kp3 => ?_⟩
        · rw [nv_length]
          omega
        · rw [nv_length]
          omega
        have hq3 := kp3 _ _ qw ql hq
        refine ⟨.ref w, rfl, .ref qa, rfl, qa, _, rfl, .inr (SqT.of hq3), w, l, _, rfl, hW3, ?_, ?_, fun u H4 u0 u1 hW4 kp4 => ⟨_, _, rfl, ?_⟩⟩
        · rw [nv_length]
          omega
        · rw [nv_length]
          omega
        have hq4 := kp4 _ _ qw ql hq3
        rw [nv_length] at v1 u1
        obtain ⟨vn, ev⟩ : ∃ n : Nat, v = (n : Int) := ⟨v.toNat, by omega⟩
        obtain ⟨un, eu⟩ : ∃ n : Nat, u = (n : Int) := ⟨u.toNat, by omega⟩
        subst ev eu
        have vl : vn < fs.length := by omega
        have ul : un < fs.length := by omega
        have K4 := K2.trans (kp3.trans kp4)
        refine ⟨.int (vn : Nat), rfl, .ref qa, rfl, .int (un : Nat), rfl, qa, fs, un, rfl, .inr (SqT.of hq4), hF, ul, fun ln ql' H5 s5 pl _ nl hl => ?_⟩
        refine ⟨ql', _, rfl, .inl (SqL.of hl), rfl, flat_nv ln, _, rfl, ?_⟩
        have hq5 := s5 _ _ hq4
        have K5 := K4.trans (Keep.of s5)
        have hW5 := hW4.same s5
        show if (!inV (.int (vn : Nat)) (nv ln)) = true then _ else _
        rw [in_nv]
        refine ite2 (fun hi => ?_) (fun hi => ?_)
        · have nb : ¬ Bel fs vn un := fun b => by
            rw [decide_eq_true ((pl.bel vn).mpr b)] at hi
            cases hi
          have hF2 := hF.moved vl ul nb
          have lt : (nv fs).length = fs.length := nv_length fs
          -- the parts
          refine ⟨.ref qa, rfl, .int (vn : Nat), rfl, _, rfl, qa, _, rfl, SqT.of hq5, ?_, fun _ p1 n1 => ?_⟩
          · rintro ⟨_, z⟩
            rw [HT.sIx_nat, nv_length] at z
            omega
          rw [cut_upto (Nat.le_of_lt vl)]
          have S1 := same_new (o := .tup (nv (fs.take vn))) n1
          refine ⟨.int (un : Nat), rfl, (by show 1 ≤ sizeLine; decide), fun p2 n2 => ?_⟩
          have S2 := same_new (o := .tup [V.int (un : Nat)]) n2
          have len1 : (nv (fs.take vn)).length + [V.int (un : Nat)].length ≤ sizeLine := by
            rw [nv_length, List.length_take]
            exact Nat.le_of_lt (small1000 (by show min vn fs.length + 1 ≤ 1000; omega))
          refine ⟨p1, p2, _, _, rfl, rfl, SqT.of (S2 _ _ upd_same), SqT.of upd_same, len1, fun z => ?_, (fun _ z => nomatch z), fun _ _ p3 n3 => ?_⟩
          · have e0 : fs.take vn = [] := List.map_eq_nil_iff.mp z
            have nm : H p2 = none := keep_free (K5.trans (Keep.of S1)) (hW5.same S1) n2
            have SG := S1.trans S2
            have hm : (upd (upd (H5) p1 (.tup (nv (fs.take vn)))) p2 (.tup [V.int (un : Nat)])) p2 = some (.tup (nv (fs.take vn ++ [un]))) := by
              rw [upd_same, e0]
              rfl
            generalize hG : upd (upd H5 p1 (.tup (nv (fs.take vn)))) p2 (.tup [V.int (un : Nat)]) = G at *
            generalize hmm : p2 = m at *
            have hqG := SG _ _ hq5
            refine ⟨.ref qa, rfl, .int (vn : Nat), rfl, _, _, rfl, rfl, _, rfl, qa, _, rfl, SqT.of hqG, ?_, fun _ p5 n5 => ?_⟩
            · rintro ⟨z, _⟩
              have z2 : HT.sIx (nv fs).length 0 (some (((vn + 1 : Nat) : Int))) = 0 := z
              rw [HT.sIx_nat, nv_length] at z2
              omega
            have ec : cutV (nv fs) (some ((vn : Int) + 1)) none = nv (fs.drop (vn + 1)) := cut_from (i := vn + 1) vl
            have S5 := same_new (o := .tup (nv (fs.drop (vn + 1)))) n5
            rw [ec]
            have len2 : (nv (fs.take vn ++ [un])).length + (nv (fs.drop (vn + 1))).length ≤ sizeLine := by
              rw [nv_length, nv_length, List.length_append, List.length_take, List.length_drop]
              exact Nat.le_of_lt (small1000 (by show min vn fs.length + 1 + (fs.length - (vn + 1)) ≤ 1000; omega))
            refine ⟨m, p5, _, _, rfl, rfl, SqT.of (S5 _ _ hm), SqT.of upd_same, len2, fun z => ?_, fun _ z => ?_, fun _ _ p6 n6 => ?_⟩
            · have := congrArg List.length z
              rw [nv_length, List.length_append] at this
              have : (fs.take vn).length + 1 = 0 := this
              omega
            · have e0 : fs.drop (vn + 1) = [] := List.map_eq_nil_iff.mp z
              have eF : fs.set vn un = fs.take vn ++ [un] := by rw [set_cut vl, e0, List.append_nil]
              refine ⟨.ref m, rfl, q (fs.set vn un) m _ hF2 ((hW5.same SG).same S5) (K5.trans ((Keep.of SG).trans (Keep.of S5))) nm ?_⟩
              rw [eF]
              exact S5 _ _ hm
            · have S6 := same_new (o := .tup (nv (fs.take vn ++ [un]) ++ nv (fs.drop (vn + 1)))) n6
              refine ⟨.ref p6, rfl, q (fs.set vn un) p6 _ hF2 (((hW5.same SG).same S5).same S6) (K5.trans ((Keep.of SG).trans ((Keep.of S5).trans (Keep.of S6)))) (keep_free (K5.trans ((Keep.of SG).trans (Keep.of S5))) ((hW5.same SG).same S5) n6) ?_⟩
              rw [upd_same, set_cut vl, nv_append (fs.take vn ++ [un])]
          · have S3 := same_new (o := .tup (nv (fs.take vn) ++ [V.int (un : Nat)])) n3
            have nm : H p3 = none := keep_free (K5.trans (Keep.of (S1.trans S2))) (hW5.same (S1.trans S2)) n3
            have SG := (S1.trans S2).trans S3
            have hm : (upd (upd (upd H5 p1 (.tup (nv (fs.take vn)))) p2 (.tup [V.int (un : Nat)])) p3 (.tup (nv (fs.take vn) ++ [V.int (un : Nat)]))) p3 = some (.tup (nv (fs.take vn ++ [un]))) := by
              rw [upd_same, nv_append]
              rfl
            generalize hG : upd (upd (upd H5 p1 (.tup (nv (fs.take vn)))) p2 (.tup [V.int (un : Nat)])) p3 (.tup (nv (fs.take vn) ++ [V.int (un : Nat)])) = G at *
            generalize hmm : p3 = m at *
            have hqG := SG _ _ hq5
            refine ⟨.ref qa, rfl, .int (vn : Nat), rfl, _, _, rfl, rfl, _, rfl, qa, _, rfl, SqT.of hqG, ?_, fun _ p5 n5 => ?_⟩
            · rintro ⟨z, _⟩
              have z2 : HT.sIx (nv fs).length 0 (some (((vn + 1 : Nat) : Int))) = 0 := z
              rw [HT.sIx_nat, nv_length] at z2
              omega
            have ec : cutV (nv fs) (some ((vn : Int) + 1)) none = nv (fs.drop (vn + 1)) := cut_from (i := vn + 1) vl
            have S5 := same_new (o := .tup (nv (fs.drop (vn + 1)))) n5
            rw [ec]
            have len2 : (nv (fs.take vn ++ [un])).length + (nv (fs.drop (vn + 1))).length ≤ sizeLine := by
              rw [nv_length, nv_length, List.length_append, List.length_take, List.length_drop]
              exact Nat.le_of_lt (small1000 (by show min vn fs.length + 1 + (fs.length - (vn + 1)) ≤ 1000; omega))
            refine ⟨m, p5, _, _, rfl, rfl, SqT.of (S5 _ _ hm), SqT.of upd_same, len2, fun z => ?_, fun _ z => ?_, fun _ _ p6 n6 => ?_⟩
            · have := congrArg List.length z
              rw [nv_length, List.length_append] at this
              have : (fs.take vn).length + 1 = 0 := this
              omega
            · have e0 : fs.drop (vn + 1) = [] := List.map_eq_nil_iff.mp z
              have eF : fs.set vn un = fs.take vn ++ [un] := by rw [set_cut vl, e0, List.append_nil]
              refine ⟨.ref m, rfl, q (fs.set vn un) m _ hF2 ((hW5.same SG).same S5) (K5.trans ((Keep.of SG).trans (Keep.of S5))) nm ?_⟩
              rw [eF]
              exact S5 _ _ hm
            · have S6 := same_new (o := .tup (nv (fs.take vn ++ [un]) ++ nv (fs.drop (vn + 1)))) n6
              refine ⟨.ref p6, rfl, q (fs.set vn un) p6 _ hF2 (((hW5.same SG).same S5).same S6) (K5.trans ((Keep.of SG).trans ((Keep.of S5).trans (Keep.of S6)))) (keep_free (K5.trans ((Keep.of SG).trans (Keep.of S5))) ((hW5.same SG).same S5) n6) ?_⟩
              rw [upd_same, set_cut vl, nv_append (fs.take vn ++ [un])]
        · exact ⟨.ref qa, rfl, q fs qa _ hF hW5 K5 nqH hq5⟩
      · exact ⟨.ref qa, rfl, q fs qa _ hF hW2 K2 nqH hq⟩
end
end Lf
namespace Lf
open PySem PySem.Spec PyProof.Rows L2
/-! ### enumerate of a tuple -/
theorem enumNew {v : Value} {o : Obj} {G : Heap → Prop} (B : Begins v o G) :
    Meets (Builtin.«enumerate.__new__» ⟨[.type "enumerate", v], []⟩) (fun _ R s => G s.heap ∧
      R (.ok (.ret (.ref (s.heap.push o).objs.size))) { s with heap := (s.heap.push o).push { cls := .type "enumerate", data := .fields #[.none, .bool false, .ref s.heap.objs.size, rawInt 0, .none, .none] } }) :=
  .of_wp fun prog w A R s want => by
    obtain ⟨hp, gens, drawn, tok, os⟩ := s
    obtain ⟨first, want⟩ := want
    have subE := sub_enumerate
    have it0 : ∀ {A' : Around} {E : Value → Shared → Prop} {Q : Value → Shared → Prop}, Q (.ref hp.objs.size) ⟨hp.push o, gens, drawn, tok, os⟩ → wpAny (model prog w) A' (pyIter v) Q E ⟨hp, gens, drawn, tok, os⟩ := fun z => B.iter prog w _ _ ⟨hp, gens, drawn, tok, os⟩ _ first z
    wp_walk using it0
    refine wpAny_stack_any fun st => wpAny_pure ?_
    split
    · rename_i c _ _ _ _ _
      cases (c == Value.type "enumerate") <;> (wp_walk using it0; exact ⟨_, rfl, want⟩)
    · wp_walk using it0
      exact ⟨_, rfl, want⟩
theorem enumMade {prog : Program} {w : World} {A : Around} {E : Value → Shared → Prop} {s : Shared} {v : Value} {o : Obj} {G : Heap → Prop} {Q : Value → Shared → Prop} (B : Begins v o G) (first : G s.heap)
    (want : ∀ h', IsEnum h' (s.heap.objs.size + 1) s.heap.objs.size 0 .none → h'.get? s.heap.objs.size = some o → (∀ b u, s.heap.get? b = some u → h'.get? b = some u) → Q (.ref (s.heap.objs.size + 1)) { s with heap := h' }) :
    wpAny (model prog w) A (call (.type "enumerate") [v]) Q E s := by
  refine callType_new F.called_enumerate (by decide) (F.typeCall_enumerate_1 _) (F.newCall_enumerate_1 _) (fun obj => F.args_object_init_2 obj _) F.entry_enumerate_new (enumNew B) ⟨first, ?_⟩
  have size : (s.heap.push o).objs.size = s.heap.objs.size + 1 := Heap.size_push ..
  show _ ∧ _
  rw [size]
  have isE : IsEnum ((s.heap.push o).push { cls := .type "enumerate", data := .fields #[.none, .bool false, .ref s.heap.objs.size, rawInt 0, .none, .none] }) (s.heap.objs.size + 1) s.heap.objs.size 0 .none := by
    have z := Heap.get?_push_size (s.heap.push o) (o := { cls := .type "enumerate", data := .fields #[.none, .bool false, .ref s.heap.objs.size, rawInt 0, .none, .none] }) rfl
    rw [size] at z
    exact z
  exact ⟨⟨_, isE, rfl⟩, want _ isE (Heap.get?_push_of_some _ (Heap.get?_push_size _ B.free)) fun b u z => Heap.get?_push_of_some _ (Heap.get?_push_of_some _ z)⟩
/-- the tuple at a, its items in new pairs -/
def ItT (K : PySem.W.Frag) (a : Addr) : It :=
  ⟨fun i H => ∃ (xs : List V) (x : V), SqT K H a xs ∧ xs[i]? = some x, fun i H v H' => ∃ T x, v = .ref T ∧ H T = none ∧ H' = upd H T (.tup [.int (i : Nat), x]) ∧ ∀ xs, SqT K H a xs → xs[i]? = some x, fun i H => ∃ xs : List V, SqT K H a xs ∧ xs.length = i⟩
theorem walkT {K : PySem.W.Frag} {a : Addr} {xs : List V} : Walk (ItT K a) xs.length (fun H => SqT K H a xs) (YPair (fun i => some (.int (i : Nat))) (fun i => xs[i]?)) := by
  refine ⟨fun i _ hi z => ⟨xs, xs[i], z, List.getElem?_eq_getElem hi⟩, fun _ z => ⟨xs, z, rfl⟩, ?_⟩
  rintro i H v H' _ z ⟨T, x, h1, h2, h3, h4⟩
  exact ⟨T, .int (i : Nat), x, h1, h2, h3, rfl, h4 xs z⟩
theorem turnT {P : Program} {w : World} {K : PySem.W.Frag} {elts : List Expr} {kk : Nat} {tpos : Pos} (a e it : Addr) :
    Turn P w K (.Tuple elts kk tpos) (ItT K a) [e, it] e (fun i h => (∃ old, IsEnum h e it ((i : Nat) : Int) old) ∧ h.IsTupleIter it a i ∧ e ≠ it ∧ a ≠ it ∧ e ≠ a) where
  mem := List.mem_cons_self
  obj := by
    rintro i h ⟨⟨old, he⟩, ⟨o, ho, hc, hd⟩, _⟩ b hb
    rcases List.mem_cons.mp hb with rfl | hb
    · exact ⟨_, he, fun v z => nomatch z⟩
    · rw [List.mem_singleton.mp hb]
      exact ⟨o, ho, fun v z => by rw [hd] at z; cases z⟩
  keep := by
    rintro i h h' ⟨⟨old, he⟩, hi, r⟩ k
    exact ⟨⟨old, k e List.mem_cons_self _ he⟩, hi.at fun o z => k it (List.mem_cons_of_mem _ List.mem_cons_self) o z, r⟩
  item := by
    intro X hP hw hK hc i pins s σ H E I hf st hg
    subst hP hw hK
    obtain ⟨⟨old, he⟩, hit, hne, hai, hea⟩ := st
    obtain ⟨xs, x, hq, hx⟩ := hg
    obtain ⟨its, rv, tp, hz⟩ := I.tuple hq
    obtain ⟨u, hu, ru⟩ := rv.get hx
    have inb : i < its.toArray.size := by
      rw [List.size_toArray]
      rcases Nat.lt_or_ge i its.length with z | z
      · exact z
      · rw [List.getElem?_eq_none z] at hu
        cases hu
    have isT : s.heap.IsTuple a its.toArray := by
      obtain ⟨o, ho, ht, n, hd⟩ := tp
      exact ⟨o, ho, ht, n, hd⟩
    have el : e < s.heap.objs.size := Heap.lt_size he
    have il : it < s.heap.objs.size := by
      obtain ⟨_, z, _⟩ := hit
      exact Heap.lt_size z
    refine wpAny_pyNext_enum_itemD (Draws.tuple (A := X.A.in1) (I.ok.hd hc) it a hai its.toArray) he ⟨hit, isT⟩ inb hne (by simp [hne, hea]) ?_
    rintro y h1 tk hy out ⟨hit1, _⟩ pair _ kept
    have ey : y = u := by
      have z : its[i]? = some y := by simpa using hy
      rw [hu] at z
      exact (Option.some.inj z).symm
    subst ey
    refine ⟨_, rfl, wpAny_letOwnedTupleGo_enum (s := { s with heap := h1, toks := tk + 1 }) out ?_⟩
    intro h2 he2 same
    have pair2 : h2.get? s.heap.objs.size = some { cls := .type "tuple", data := .seq #[.int i tk, y] } := (same.2 _ (Nat.ne_of_gt el)).trans pair
    have new : ObjOk X.prog X.w (upd H s.heap.objs.size (.tup [.int (i : Nat), x])) h2 s.heap.objs.size (.tup [.int (i : Nat), x]) :=
      ⟨by show 2 ≤ sizeLine; decide, [.int i tk, y], .cons ⟨_, rfl⟩ (.cons ru .nil), ⟨_, pair2, rfl, _, rfl⟩⟩
    have J : Inv X pins σ (upd H s.heap.objs.size (.tup [.int (i : Nat), x])) { s with heap := h2, toks := tk + 1 } := by
      refine I.turnedNew (ch := [e, it]) ?_ hf (Nat.le_refl _) new
      intro b ob hb z
      have be : b ≠ e := fun y => hb (by simp [y])
      have bi : b ≠ it := fun y => hb (by simp [y])
      exact (same.2 b be).trans (kept b ob be bi z)
    refine ⟨.ref s.heap.objs.size, _, J, rfl, ⟨_, x, rfl, I.hok.fresh (Nat.le_refl _), rfl, fun ys hys => ?_⟩, ⟨⟨y, ?_⟩, hit1.at fun o z => (same.2 it (Ne.symm hne)).trans z, hne, hai, hea⟩, fun b hb => ?_⟩
    · rw [I.tuple_inj hys hq]
      exact hx
    · have z : ((i + 1 : Nat) : Int) = (i : Int) + 1 := by omega
      rw [z]
      exact he2
    · have bl : b < s.heap.objs.size := by
        rcases List.mem_cons.mp hb with rfl | hb
        · exact el
        · rw [List.mem_singleton.mp hb]
          exact il
      rw [upd_ne (Nat.ne_of_lt bl)]
      exact (hf b hb).1
  done := by
    intro X hP hw hK hc i pins s σ H E I hf st hg
    subst hP hw hK
    obtain ⟨⟨old, he⟩, hit, hne, hai, hea⟩ := st
    obtain ⟨xs, hq, hx⟩ := hg
    obtain ⟨its, rv, tp, hz⟩ := I.tuple hq
    have isT : s.heap.IsTuple a its.toArray := by
      obtain ⟨o, ho, ht, n, hd⟩ := tp
      exact ⟨o, ho, ht, n, hd⟩
    obtain ⟨f0, f1, f2, f3, f4, f5⟩ := hf it (List.mem_cons_of_mem _ List.mem_cons_self)
    have same := rv.length
    have size : its.toArray.size = i := by
      rw [List.size_toArray]
      omega
    have last : s.heap.IsTupleIter it a its.toArray.size ∧ s.heap.IsTuple a its.toArray := ⟨by rw [size]; exact hit, isT⟩
    refine wpAny_pyNext_enum_endD (Draws.tuple (A := X.A.in1) (I.ok.hd hc) it a hai its.toArray) he last ?_
    intro h1 ext
    exact ⟨rfl, I.turned (t' := s.toks) (fun b o hb z => ext b o hb z) f0 f1 f3 f4 f5⟩
  self := fun A i s Q E st h => by
    obtain ⟨⟨_, he⟩, _⟩ := st
    exact wpAny_pyIter_enum he h
def iEnT (K : PySem.W.Frag) (ta : TA) : TI := fun σ H R => ta σ H fun vs H1 => ∃ a xs, vs = [.ref a] ∧ SqT K H1 a xs ∧ R (ItT K a) H1
theorem pi_enumT {X : Cx} {e : Expr} {ta : TA} {p pos tpos : Pos} {elts : List Expr} {kk : Nat} (hg : Gl X "enumerate") (hm : X.mg "enumerate" = none) (ha : PA X [e] ta) (hs : starEach [e] X.env = [(false, eval e X.env)] := by rfl) :
    PI X (.Tuple elts kk tpos) (.Call (.Name "enumerate" p) [e] [] pos) (iEnT X.K ta) := by
  refine ⟨fun pins s σ H R I h => ?_⟩
  refine Call_ (ld_blt I hg hm boot_enumerate (PyProof.Rows.callWith_type1 (thn (ha.run pos pins s σ H _ I h) ?_) hs rfl))
  rintro us s1 ⟨vs, H1, I1, r1, a, xs, rfl, hq, q⟩
  obtain ⟨u, rfl, r⟩ := vals1 r1
  cases (show u = Value.ref a from r)
  obtain ⟨its, rv, tp, hz⟩ := I1.tuple hq
  have isT : s1.heap.IsTuple a its.toArray := by
    obtain ⟨o, ho, ht, n, hd⟩ := tp
    exact ⟨o, ho, ht, n, hd⟩
  have al : a < s1.heap.objs.size := by
    obtain ⟨o, ho, _⟩ := tp
    exact Heap.lt_size ho
  refine enumMade (begins_tuple a its.toArray) isT ?_
  intro h1 isE isI kept
  refine wpAny_pyIter_enum isE ?_
  have I2 : Inv X pins σ H1 { s1 with heap := h1 } := I1.kept (t' := s1.toks) kept
  refine ⟨s1.heap.objs.size + 1, [s1.heap.objs.size + 1, s1.heap.objs.size], _, _, H1, rfl, I2, turnT a (s1.heap.objs.size + 1) s1.heap.objs.size, ⟨⟨.none, isE⟩, ⟨_, isI, rfl, rfl⟩, Nat.succ_ne_self _, Nat.ne_of_lt al, Nat.ne_of_gt (Nat.lt_succ_of_lt al)⟩, fun b hb => ?_, q⟩
  have le : s1.heap.objs.size ≤ b := by
    rcases List.mem_cons.mp hb with rfl | hb
    · exact Nat.le_succ _
    · rw [List.mem_singleton.mp hb]
      exact Nat.le_refl _
  exact I1.fpOk le (I1.hok.fresh le)
end Lf
namespace Lf
open PySem PySem.Spec PyProof.Rows L2
theorem flatNv : ∀ l : List Nat, (nv l).all flatV = true
  | [] => rfl
  | _ :: l => flatNv l
section
variable {X : Cx}
/-- xs[i] read ahead of xs[i] += e, i a place of the list -/
theorem get_listN : PGet X (fun x y H Q => ∃ (p : Addr) (xs : List V) (i : Nat) (v : V), x = .ref p ∧ y = .int (i : Nat) ∧ SqL X.K H p xs ∧ xs[i]? = some v ∧ Q v H) := by
  intro pins s σ H o i ov iv Q I ro ri h
  obtain ⟨p, xs, k, v, rfl, rfl, hq, hv, q⟩ := h
  cases (show ov = Value.ref p from ro)
  obtain ⟨t, rfl⟩ := ri
  obtain ⟨its, rv, plain, small⟩ := I.list hq
  obtain ⟨u, hu, ru⟩ := rv.get hv
  have same := rv.length
  have kl : k < its.length := by
    rcases Nat.lt_or_ge k its.length with z | z
    · exact z
    · rw [List.getElem?_eq_none z] at hu
      cases hu
  rw [sizeLine_eq] at small
  exact wpAny_getItem_list plain.isList (by omega) (by omega) (by simpa using hu) ⟨v, H, I, ru, q⟩
/-- t.index(x), a number's first place -/
theorem mt_tup_indexN : MtR X "tuple.index" (fun x xs H Q => ∃ (p : Addr) (ys : List Nat) (z j : Nat), x = .ref p ∧ xs = [.int (z : Nat)] ∧ SqT X.K H p (nv ys) ∧ ys[j]? = some z ∧ (∀ m, m < j → ys[m]? ≠ some z) ∧ Q (.int (j : Nat)) H) := by
  intro pins s σ H x xs v us Q I rx rs h
  obtain ⟨p, ys, z, j, rfl, rfl, hq, hy, hno, q⟩ := h
  cases (show v = Value.ref p from rx)
  obtain ⟨u, rfl, t, rfl⟩ := vals1 rs
  obtain ⟨its, rv, plain, small⟩ := I.tuple hq
  obtain ⟨⟨cls, dd, dt, sl⟩, ho, hc, n, hd⟩ := plain
  simp only at hc hd
  subst hc hd
  have size : its.toArray.size = ys.length := by rw [List.size_toArray, ← rv.length, nv_length]
  have hj : j < its.toArray.size := by
    rw [size]
    exact (List.getElem?_eq_some_iff.mp hy).1
  have place : ∀ (m : Nat) (hm : m < its.toArray.size), ∃ (y : Nat) (t' : Tok), ys[m]? = some y ∧ its.toArray[m] = Value.int (y : Nat) t' := by
    intro m hm
    have hm' : m < ys.length := by
      rw [← size]
      exact hm
    obtain ⟨w, hw, t', hw'⟩ := rv.get (i := m) (x := .int ((ys.getD m 0 : Nat) : Int)) (nv_get hm')
    refine ⟨ys.getD m 0, t', ?_, ?_⟩
    · rw [List.getD_eq_getElem?_getD, List.getElem?_eq_getElem hm']
      rfl
    · have e := (List.getElem?_eq_some_iff.mp hw).2
      rw [← hw', ← e]
      simp
  refine call_meets PySem.F.slot_tuple_index ⟨_, ho, rfl⟩ PySem.F.entry_tuple_index (PySem.F.args_tuple_index_2 _ _) (TI.tuple_indexAt p its.toArray n dd sl (.int (z : Nat) t) (eqU (.int (z : Nat))) j hj ?_ ?_)
    ⟨ho, fun w hw => mem_eqAt (x := .int (z : Nat)) ⟨t, rfl⟩ rfl rv (flatNv ys) w (by simpa using hw), ⟨.int (j : Nat), H, I.tok _, ⟨_, rfl⟩, q⟩⟩
  · obtain ⟨y, t', h1, h2⟩ := place j hj
    rw [hy] at h1
    cases h1
    rw [h2]
    show (((z : Nat) : Int) == ((z : Nat) : Int)) = true
    exact beq_self_eq_true _
  · intro m hm hmj
    obtain ⟨y, t', h1, h2⟩ := place m hm
    rw [h2]
    show (((y : Nat) : Int) == ((z : Nat) : Int)) = false
    refine beq_eq_false_iff_ne.mpr fun e => hno m hmj ?_
    rw [h1]
    have : y = z := by omega
    rw [this]
/-- tuple(a list), the new tuple known to the object -/
theorem call_tupleF : CallR X (.type "tuple") (fun xs H Q => ∃ (p : Addr) (ys : List V), xs = [.ref p] ∧ SqL X.K H p ys ∧ ∀ (l : Addr) (o : Obj), H l = none → o.cls = .type "tuple" → o.dict = none → Q (.ref l) (upd H l (.frz o (.tup ys)))) := by
  intro pins s σ H xs us Q I r h
  obtain ⟨p, ys, rfl, hq, q⟩ := h
  obtain ⟨u, rfl, rx⟩ := vals1 r
  cases (show u = Value.ref p from rx)
  obtain ⟨its, rv, plain, small⟩ := I.list hq
  have same := rv.length
  refine call_tuple_list plain.isList ?_ (by simp only [List.size_toArray] <;> omega)
  intro h1 kept
  have I1 : Inv X pins σ H { s with heap := h1 } := I.kept (t' := s.toks) kept
  have at1 : (h1.push { cls := .type "tuple", data := .seq its.toArray }).get? h1.objs.size = some { cls := .type "tuple", data := .seq its.toArray } := Heap.get?_push_size _ rfl
  refine ⟨.ref h1.objs.size, _, I1.laid (t' := s.toks) (o := .frz { cls := .type "tuple", data := .seq its.toArray } (.tup ys)) (fun b o z => Heap.get?_push_of_some _ z) (Nat.le_refl _) ?_, rfl, q _ _ (I1.hok.fresh (Nat.le_refl _)) rfl rfl⟩
  exact ⟨at1, small, its, rv, IsTup.new _ _⟩
/-- the call of a method of such a tuple -/
def tTM (r : V → List V → Hp → VK → Prop) (to : TE) (t : TA) : TE := fun σ H Q => to σ H fun x H1 => (∃ (p : Addr) (o : Obj) (xs : List V), x = .ref p ∧ H1 p = some (.frz o (.tup xs)) ∧ o.cls = .type "tuple" ∧ o.dict = none) ∧ t σ H1 fun ys H2 => r x ys H2 Q
theorem pe_tm {o e : Expr} {to : TE} {t : TA} {name : Str} {apos cpos : Pos} {id : String} {r : V → List V → Hp → VK → Prop} (pa : PlainAttrs "tuple") (slot : Slot "tuple" name id) (hty : typeOf (.builtin id) = pure (.type "method_descriptor")) (hm : MtR X id r) (ho : PE X o to) (ha : PA X [e] t)
    (hbase : attributeBase o name X.env (eval o X.env) = eval o X.env := by rfl)
    (hfew : ((backTo cpos (starEach [e] X.env)).all (fun x => !x.1) && (backToKw cpos (keywordEach [] X.env)).all (fun x => x.1.isSome) && decide ([e].length + ([] : List Keyword).length + (if ([] : List Keyword).isEmpty then 0 else 1) < 30)) = true := by rfl)
    (hline : (apos.endLine == cpos.line) = true := by rfl) (hs : starEach [e] X.env = (false, eval e X.env) :: starEach [] X.env := by rfl) :
    PE X (.Call (.Attribute o name apos) [e] [] cpos) (tTM r to t) := by
  refine ⟨fun pins s σ H Q I h => ?_⟩
  refine wpAny_Call_method_late hbase hfew hline rfl (thn (ho.run pins s σ H _ I h) ?_)
  rintro v s1 ⟨x, H1, I1, r1, ⟨p, ob, xs, rfl, hp, hc, hd⟩, q1⟩
  cases (show v = Value.ref p from r1)
  have at1 : s1.heap.get? p = some ob := (I1.hok p _ hp).1
  refine ⟨"tuple", id, pa, slot, hty, ⟨ob, at1, hc⟩, ?_, ?_⟩
  · intro b z
    cases z
    exact ⟨ob, at1, hd⟩
  · have args := ha.run cpos pins s1 σ H1 _ I1 q1
    rw [hs] at args ⊢
    refine Calls.callWith_builtin (by rfl) (Calls.evalArgs_plain (thn args ?_))
    rintro us s2 ⟨vs, H2, I2, r2, q2⟩
    exact hm pins s2 σ H2 (.ref p) vs (.ref p) us Q I2 rfl r2 q2
end
end Lf
namespace Lf
open PySem PySem.Spec PyProof.Rows L2
abbrev sPI : Stmt := topS (4)
abbrev sIV : Stmt := topS (5)
abbrev sCheck : Stmt := topS (6)
abbrev sRoots : Stmt := topS (7)
abbrev sWeights : Stmt := topS (8)
abbrev sPath : Stmt := topS (9)
abbrev sRenamed : Stmt := topS (10)
def spPI : Sp := fun vs H Q _ => ∃ i : Int, vs = [.int i] ∧ Q (.bl true) H
def spIV : Sp := fun vs H Q _ => ∃ n v : Int, vs = [.int n, .int v] ∧ 0 ≤ v ∧ v < n ∧ Q (.bl true) H
def spCheck (K : PySem.W.Frag) : Sp := fun vs H Q _ => ∃ (p : Addr) (fs : List Nat) (v : Nat), vs = [.ref p, .int (v : Nat)] ∧ SqT K H p (nv fs) ∧ v < fs.length ∧ Q .non H
def spPathOf (K : PySem.W.Frag) : Sp := fun vs H Q _ => ∃ (p : Addr) (fs : List Nat) (v : Nat), vs = [.ref p, .int (v : Nat)] ∧ SqT K H p (nv fs) ∧ Forest fs ∧ v < fs.length ∧
  ∀ (ln : List Nat) (q : Addr) (H' : Hp), Same H H' → Pth fs v ln → ln.length ≤ fs.length → H q = none → H' q = some (.tup (nv ln)) → Q (.ref q) H'
def spRoots (K : PySem.W.Frag) : Sp := fun vs H Q _ => ∃ (p : Addr) (fs : List Nat), vs = [.ref p] ∧ SqT K H p (nv fs) ∧ fs.length ≤ 1000 ∧
  ∀ (q : Addr) (H' : Hp), Same H H' → H q = none → H' q = some (.tup (nv (tops fs))) → Q (.ref q) H'
section
variable {P : Program} {w : World} {K : PySem.W.Frag} {mg : Str → Option Value} {base : Heap}
theorem scPI : FnScope ["value"] ["value"] (defScope sPI) := ⟨rfl, rfl, rfl, by decide +kernel, rfl, by decide +kernel, by decide +kernel⟩
theorem ok_pi {f : Addr} {fd : FuncData} (F : Fun K "is_plain_int" "is_plain_int" sPI f fd) (mi : mg "isinstance" = none) (mt : mg "int" = none) (mb : mg "bool" = none) : FnOk P w K mg base CX0 1 f fd ["value"] spPI := by
  refine F.ok scPI (fun vs H Q E h => ?_) (fun cdv A outer s H vs Q E hr h => ?_)
  · obtain ⟨i, rfl, _⟩ := h
    rfl
  · obtain ⟨i, rfl, q⟩ := h
    refine ⟨_, pss_one (ps_ret (pe_and (pe_callB call_isi (by rfl) mi (by decide +kernel) (pa_cons (pv 0) (pa_cons (pe_bltn (v := .ty "int") rfl mt (by decide +kernel) rfl) pa_nil)))
      (pe_one (pe_not (pe_callB call_isi (by rfl) mi (by decide +kernel) (pa_cons (pv 0) (pa_cons (pe_bltn (v := .ty "bool") rfl mb (by decide +kernel) rfl) pa_nil))))))), ?_⟩
    exact ⟨.int i, rfl, .int i, .ty "int", .type "int", .type "int", true, rfl, .ty _, .base (.int i), kit_ty (by decide +kernel), true, rfl, iteT ⟨.int i, rfl, .int i, .ty "bool", .type "int", .type "bool", false, rfl, .ty _, .base (.int i), kit_ty (by decide +kernel), false, rfl, q⟩⟩
theorem scIV : FnScope ["n", "value"] ["n", "value"] (defScope sIV) := ⟨rfl, rfl, rfl, by decide +kernel, rfl, by decide +kernel, by decide +kernel⟩
theorem ok_iv {f fP : Addr} {fd fdP : FuncData} (F : Fun K "is_vertex" "is_vertex" sIV f fd) (FP : Fun K "is_plain_int" "is_plain_int" sPI fP fdP) (GP : FnOk P w K mg base CX0 1 fP fdP ["value"] spPI) (bP : Binds K fdP ["value"] []) (gP : mg "is_plain_int" = some (.ref fP)) :
    FnOk P w K mg base CX0 2 f fd ["n", "value"] spIV := by
  refine F.ok scIV (fun vs H Q E h => ?_) (fun cdv A outer s H vs Q E hr h => ?_)
  · obtain ⟨n, v, rfl, _⟩ := h
    rfl
  · obtain ⟨n, v, rfl, h0, h1, q⟩ := h
    refine ⟨_, pss_one (ps_ret (pe_and (pe_call GP hr (by rfl) gP FP.kp bP .nil pass0 (pa_cons (pv 1) pa_nil)) (pe_one (pe_chain op_le op_lt pe_int (pv 1) (pv 0))))), ?_⟩
    refine ⟨.int v, rfl, v, rfl, true, rfl, iteT ⟨.int v, rfl, _, _, rfl, rfl, _, rfl, ?_⟩⟩
    rw [decide_eq_true h0]
    refine iteT ⟨.int n, rfl, _, _, rfl, rfl, ?_⟩
    show Q (V.bl (decide (v < n))) H
    rw [decide_eq_true h1]
    exact q
theorem scCheck : FnScope ["forest", "value"] ["forest", "value"] (defScope sCheck) := ⟨rfl, rfl, rfl, by decide +kernel, rfl, by decide +kernel, by decide +kernel⟩
theorem ok_check {f fV : Addr} {fd fdV : FuncData} (F : Fun K "check_vertex" "check_vertex" sCheck f fd) (FV : Fun K "is_vertex" "is_vertex" sIV fV fdV) (GV : FnOk P w K mg base CX0 2 fV fdV ["n", "value"] spIV) (bV : Binds K fdV ["n", "value"] []) (gV : mg "is_vertex" = some (.ref fV)) (ml : mg "len" = none) :
    FnOk P w K mg base CX0 3 f fd ["forest", "value"] (spCheck K) := by
  refine F.ok scCheck (fun vs H Q E h => ?_) (fun cdv A outer s H vs Q E hr h => ?_)
  · obtain ⟨p, fs, v, rfl, _⟩ := h
    rfl
  · obtain ⟨p, fs, v, rfl, hp, hv, q⟩ := h
    refine ⟨_, pss_one (ps_if (pt_not (pt_val (pe_call GV hr (by rfl) gV FV.kp bV .nil pass0 (pa_cons (pe_callB call_len_seq (by rfl) ml PySem.boot_len (pa_cons (pv 0) pa_nil)) (pa_cons (pv 1) pa_nil))))) pss_never pss_nil), ?_⟩
    refine ⟨.ref p, rfl, p, _, rfl, .inr hp, .int (v : Nat), rfl, _, _, rfl, by omega, ?_, true, rfl, iteF q⟩
    rw [nv_length]
    omega
theorem scPath : FnScope ["forest", "vertex", "path"] ["forest", "vertex"] (defScope sPath) := ⟨rfl, rfl, rfl, by decide +kernel, rfl, by decide +kernel, by decide +kernel⟩
theorem ok_path {f fC : Addr} {fd fdC : FuncData} (F : Fun K "path_of" "path_of" sPath f fd) (FC : Fun K "check_vertex" "check_vertex" sCheck fC fdC) (GC : FnOk P w K mg base CX0 3 fC fdC ["forest", "value"] (spCheck K)) (bC : Binds K fdC ["forest", "value"] []) (gC : mg "check_vertex" = some (.ref fC)) (mT : mg "tuple" = none) :
    FnOk P w K mg base CX0 4 f fd ["forest", "vertex"] (spPathOf K) := by
  refine F.ok scPath (fun vs H Q E h => ?_) (fun cdv A outer s H vs Q E hr h => ?_)
  · obtain ⟨p, fs, v, rfl, _⟩ := h
    rfl
  · obtain ⟨p, fs, v, rfl, hp, hF, hv, q⟩ := h
    refine ⟨_, pss_cons (ps_expr (pe_call GC hr (by rfl) gC FC.kp bC .nil pass0 (pa_cons (pv 0) (pa_cons (pv 1) pa_nil))))
      (pss_cons (ps_set (i := 2) scPath.nd rfl (.inl rfl) (pe_lst (pa_cons (pv 1) pa_nil)))
      (pss_cons (ps_while PassesOwn.never (pt_cmpR op_ne (pe_ix ix_tup (pv 0) (pe_ix ix_list (pv 2) (pe_un un_neg pe_int) (fun _ _ => rfl)) (fun _ _ => rfl)) (pe_ix ix_list (pv 2) (pe_un un_neg pe_int) (fun _ _ => rfl)) (nomark _))
        (pss_one (ps_expr (pe_bm PySem.F.plainAttrs_list PySem.F.slot_list_append PySem.F.type_list_append mt_append (pv 2) (pa_cons (pe_ix ix_tup (pv 0) (pe_ix ix_list (pv 2) (pe_un un_neg pe_int) (fun _ _ => rfl)) (fun _ _ => rfl)) pa_nil)))))
      (pss_one (ps_ret (pe_callTy call_tuple_of (by rfl) mT (by decide +kernel) (pa_cons (pv 2) pa_nil)))))), ?_⟩
    refine ⟨.ref p, rfl, .int (v : Nat), rfl, p, fs, v, rfl, hp, hv, ?_⟩
    refine ⟨.int (v : Nat), rfl, (by show 1 ≤ sizeLine; decide), fun qa nq => ?_⟩
    obtain ⟨k, rk⟩ := hF.rch v hv
    obtain ⟨full, pf, nd, lf, _, _, _⟩ := hF.path hv
    refine ⟨fun m σ H1 => ∃ (pre : List Nat) (cur : Nat), σ = [some (.ref p), some (.int (v : Nat)), some (.ref qa)] ∧ Same H H1 ∧ H1 qa = some (.lst (nv (pre ++ [cur]))) ∧ cur < fs.length ∧ Rch fs m cur ∧ ∀ l, Pth fs cur l → Pth fs v (pre ++ l),
      ⟨k, [], v, rfl, same_new nq, upd_same, hv, rk, fun l h => h⟩, ?_⟩
    rintro m σ H1 ⟨pre, cur, rfl, sm, hqa, hc, rc, ext⟩
    have hpp := same_seqT sm hp
    have short : pre.length + 1 + m ≤ 24 := by
      obtain ⟨l, pl, el⟩ := Pth.of rc
      have e := (ext l pl).inj pf
      have := congrArg List.length e
      rw [List.length_append, el] at this
      have := hF.few
      omega
    refine ⟨.ref p, rfl, .ref qa, rfl, 1, rfl, qa, _, -1, _, rfl, rfl, SqL.of hqa, nv_last pre cur, p, _, (cur : Int), .int ((par fs cur : Nat) : Int), rfl, rfl, hpp, atI_nat (nv_get hc), .ref qa, rfl, 1, rfl, qa, _, -1, _, rfl, rfl, SqL.of hqa, nv_last pre cur, rfl, _, rfl, ite2 (fun hn => ?_) (fun hn => ?_)⟩
    · have hn : par fs cur ≠ cur := fun z => by
        rw [decide_eq_true (natV_inj.mpr z)] at hn
        cases hn
      cases rc with
      | root z => exact absurd z hn
      | @step m' _ _ r =>
        refine ⟨fun σ' H' => σ' = [some (.ref p), some (.int (v : Nat)), some (.ref qa)] ∧ Same H H' ∧ H' qa = some (.lst (nv ((pre ++ [cur]) ++ [par fs cur]))), ?_, ?_⟩
        · rintro σ' H' ⟨z1, z2, z3⟩
          refine ⟨m', Nat.lt_succ_self _, pre ++ [cur], par fs cur, z1, z2, z3, hF.rng cur hc, r, fun l hl => ?_⟩
          rw [List.append_assoc]
          exact ext _ (.step hn hl)
        · refine ⟨.ref qa, rfl, .inl ⟨rfl, _, SqL.of hqa⟩, .ref p, rfl, .ref qa, rfl, 1, rfl, qa, _, -1, _, rfl, rfl, SqL.of hqa, nv_last pre cur, p, _, (cur : Int), .int ((par fs cur : Nat) : Int), rfl, rfl, hpp, atI_nat (nv_get hc), qa, _, _, rfl, rfl, hqa, ?_, rfl, fun b o z => ?_, ?_⟩
          · rw [nv_length, List.length_append]
            exact small1000 (by show pre.length + 1 ≤ 1000; omega)
          · rw [upd_ne (ne_of_none z nq)]
            exact sm _ _ z
          · rw [upd_same, nv_append (pre ++ [cur])]
            rfl
    · have hn : par fs cur = cur := Classical.byContradiction fun z => hn (by rw [decide_eq_false (fun y => z (natV_inj.mp y))]; rfl)
      have pt := ext _ (.root hn)
      refine ⟨.ref qa, rfl, qa, _, rfl, .inl ⟨SqL.of hqa, fun p9 n9 => ?_⟩⟩
      exact q _ p9 _ (sm.trans (same_new n9)) pt (by rw [pt.inj pf]; exact lf) (sm.free n9) upd_same
theorem scRoots : FnScope ["forest", "vertex", "parent"] ["forest"] (defScope sRoots) := ⟨rfl, rfl, rfl, by decide +kernel, rfl, by decide +kernel, by decide +kernel⟩
theorem ok_roots {f : Addr} {fd : FuncData} (F : Fun K "roots" "roots" sRoots f fd) (me : mg "enumerate" = none) (mT : mg "tuple" = none) : FnOk P w K mg base CX0 1 f fd ["forest"] (spRoots K) := by
  refine F.ok scRoots (fun vs H Q E h => ?_) (fun cdv A outer s H vs Q E hr h => ?_)
  · obtain ⟨p, fs, rfl, _⟩ := h
    rfl
  · obtain ⟨p, fs, rfl, hp, hlen, q⟩ := h
    refine ⟨_, pss_one (ps_ret (pe_callTy call_tuple_of (by rfl) mT (by decide +kernel) (pa_cons (pe_lc (own := [("vertex", 1), ("parent", 2)]) (g := gTup K 2 (gCons (gName 1) (gCons (gName 2) gNil))) (tt := tTest (tOp rEq (tVar 2) (tVar 1))) (te := tVar 1) (by rfl) scRoots.nd
      (pi_enumT (by rfl) me (pa_cons (pv 0) pa_nil)) (blkOk_by (own := [("vertex", 1), ("parent", 2)]) (N := ["forest", "vertex", "parent"]) (sc := defScope sRoots) (by decide +kernel))
      (fun _ _ _ _ _ => pg_tup rfl (pgs_cons (pg_name (i := 1) scRoots.nd rfl (Or.inl rfl)) (pgs_cons (pg_name (i := 2) scRoots.nd rfl (Or.inl rfl)) pgs_nil))) (fun _ _ _ _ _ => pts_one (pt_cmpR op_eq (pv 2) (pv 1) (nomark _))) (fun _ _ _ _ _ => pv 1)) pa_nil))), ?_⟩
    refine ⟨.ref p, rfl, p, _, rfl, hp, fun D nD => lc_it (walkT (K := K) (a := p) (xs := nv fs)) (fun k H2 => Same H H2 ∧ H2 D = some (.lst (nv ((List.range k).filter fun v => decide (par fs v = v))))) ⟨same_new nD, upd_same⟩ (fun k H2 _ z => same_seqT z.1 hp) ?_ ?_⟩
    · rintro k x H2 H2' hk ⟨sm, hD⟩ ⟨t, v1, v2, rfl, nt, rfl, z1, z2⟩
      obtain ⟨hk', rfl⟩ := nv_some z2
      cases z1
      have St := same_new (o := .tup [V.int (k : Nat), V.int ((fs.getD k 0 : Nat) : Int)]) nt
      refine ⟨t, _, rfl, SqT.of upd_same, rfl, _, _, rfl, _, _, rfl, rfl, rfl, ?_⟩
      refine ⟨.int ((fs.getD k 0 : Nat) : Int), rfl, .int (k : Nat), rfl, rfl, _, rfl, ite2 (fun hc => ?_) (fun hc => ?_)⟩
      · have hc : par fs k = k := natV_inj.mp (of_decide_eq_true hc)
        refine ⟨.int (k : Nat), rfl, _, St _ _ hD, ?_, fun b o z => ?_, ?_⟩
        · rw [nv_length]
          exact small1000 (Nat.le_trans (range_filter_le _ _) (by omega))
        · rw [upd_ne (ne_of_none z nD)]
          exact St _ _ (sm _ _ z)
        · rw [upd_same, range_filter_succ, if_pos (decide_eq_true hc), nv_append]
          rfl
      · refine ⟨sm.trans St, ?_⟩
        rw [St _ _ hD, range_filter_succ, if_neg]
        intro z
        exact hc (decide_eq_true (natV_inj.mpr (of_decide_eq_true z)))
    · rintro H2 ⟨sm, hD⟩
      rw [nv_length] at hD
      refine ⟨D, _, rfl, .inl ⟨SqL.of hD, fun p9 n9 => ?_⟩⟩
      exact q p9 _ (sm.trans (same_new n9)) (sm.free n9) upd_same
end
end Lf
namespace Lf
open PySem PySem.Spec PyProof.Rows L2
/-! ### weights, renamed -/
section
open Classical
/-- how many of the first k vertices have v on their way -/
noncomputable def cnt (fs : List Nat) (v k : Nat) : Nat := ((List.range k).filter fun u => decide (Bel fs v u)).length
theorem cnt_zero (fs : List Nat) (v : Nat) : cnt fs v 0 = 0 := rfl
theorem cnt_succ (fs : List Nat) (v k : Nat) : cnt fs v (k + 1) = cnt fs v k + (if Bel fs v k then 1 else 0) := by
  unfold cnt
  rw [range_filter_succ]
  by_cases h : Bel fs v k
  · rw [if_pos (decide_eq_true h), if_pos h, List.length_append]
    rfl
  · rw [if_neg (fun z => h (of_decide_eq_true z)), if_neg h]
    rfl
end
theorem same_len {l m : List Nat} (hl : l.Nodup) (hm : m.Nodup) (h : ∀ u, u ∈ l ↔ u ∈ m) : l.length = m.length := ((List.perm_ext_iff_of_nodup hl hm).mpr h).length_eq
open Classical in
theorem cnt_of {fs : List Nat} {v : Nat} {l : List Nat} (nd : l.Nodup) (h : ∀ u, u ∈ l ↔ u < fs.length ∧ Bel fs v u) : cnt fs v fs.length = l.length := by
  unfold cnt
  refine same_len (List.Pairwise.filter _ List.nodup_range) nd fun u => ?_
  rw [h, List.mem_filter, List.mem_range, decide_eq_true_iff]
def spWeights (K : PySem.W.Frag) : Sp := fun vs H Q _ => ∃ (p : Addr) (fs : List Nat), vs = [.ref p] ∧ SqT K H p (nv fs) ∧ Forest fs ∧
  ∀ (ws : List Nat) (q : Addr) (H' : Hp), Same H H' → ws.length = fs.length → (∀ v, v < fs.length → ws.getD v 0 = cnt fs v fs.length) → H q = none → H' q = some (.tup (nv ws)) → Q (.ref q) H'
def spRenamed (K : PySem.W.Frag) : Sp := fun vs H Q _ => ∃ (p r : Addr) (fs ns : List Nat), vs = [.ref p, .ref r] ∧ SqT K H p (nv fs) ∧ SqT K H r (nv ns) ∧ fs.length ≤ 1000 ∧ (∀ v, v < fs.length → par fs v < fs.length) ∧ ns.Perm (List.range fs.length) ∧
  ∀ (rs : List Nat) (q : Addr) (H' : Hp), Same H H' → rs.length = fs.length → (∀ v, v < fs.length → par rs (par ns v) = par ns (par fs v)) → H q = none → H' q = some (.tup (nv rs)) → Q (.ref q) H'
theorem getD_set {ws : List Nat} {y x v : Nat} (h : y < ws.length) : (ws.set y x).getD v 0 = if v = y then x else ws.getD v 0 := par_set h
section
variable {P : Program} {w : World} {K : PySem.W.Frag} {mg : Str → Option Value} {base : Heap}
theorem scWeights : FnScope ["forest", "counts", "vertex", "above"] ["forest"] (defScope sWeights) := ⟨rfl, rfl, rfl, by decide +kernel, rfl, by decide +kernel, by decide +kernel⟩
theorem ok_weights {f fA : Addr} {fd fdA : FuncData} (F : Fun K "weights" "weights" sWeights f fd) (FA : Fun K "path_of" "path_of" sPath fA fdA) (GA : FnOk P w K mg base CX0 4 fA fdA ["forest", "vertex"] (spPathOf K)) (bA : Binds K fdA ["forest", "vertex"] []) (gA : mg "path_of" = some (.ref fA))
    (ml : mg "len" = none) (mr : mg "range" = none) (mT : mg "tuple" = none) : FnOk P w K mg base CX0 5 f fd ["forest"] (spWeights K) := by
  refine F.ok scWeights (fun vs H Q E h => ?_) (fun cdv A outer s H vs Q E hr h => ?_)
  · obtain ⟨p, fs, rfl, _⟩ := h
    rfl
  · obtain ⟨p, fs, rfl, hp, hF, q⟩ := h
    refine ⟨_, pss_cons (ps_set (i := 1) scWeights.nd rfl (.inl rfl) (pe_op op_rep (pe_lst (pa_cons pe_int pa_nil)) (pe_callB call_len_seq (by rfl) ml PySem.boot_len (pa_cons (pv 0) pa_nil))))
      (pss_cons (ps_for PassesOwn.never rfl (pi_range1 (by rfl) mr (pa_cons (pe_callB call_len_seq (by rfl) ml PySem.boot_len (pa_cons (pv 0) pa_nil)) pa_nil)) (pg_name (i := 2) scWeights.nd rfl (.inl rfl))
        (pss_one (ps_for PassesOwn.never rfl (pi_tup (pe_call GA hr (by rfl) gA FA.kp bA .nil pass0 (pa_cons (pv 0) (pa_cons (pv 2) pa_nil)))) (pg_name (i := 3) scWeights.nd rfl (.inl rfl))
          (pss_one (ps_augS (pv 1) (pv 3) get_listN pe_int ip_add set_list)))))
      (pss_one (ps_ret (pe_callTy call_tuple_of (by rfl) mT (by decide +kernel) (pa_cons (pv 1) pa_nil))))), ?_⟩
    have few := hF.few
    refine ⟨(by show 1 ≤ sizeLine; decide), fun z1 nz1 => ⟨.ref p, rfl, p, _, rfl, .inr (same_seqT (same_new nz1) hp), z1, _, _, rfl, rfl, upd_same, ?_, ?_, ?_, fun cq ncq => ?_⟩⟩
    · rw [nv_length]
      omega
    · rw [nv_length]
      omega
    · show 1 * Int.toNat ((nv fs).length : Int) ≤ sizeLine
      rw [sizeLine_eq, nv_length]
      omega
    rw [show (List.replicate (Int.toNat ((nv fs).length : Int)) [V.int 0]).flatten = nv (List.replicate fs.length 0) from by rw [nv_length, Int.toNat_natCast]; exact rep_nv _]
    have Z1 := same_new (o := .lst [V.int 0]) nz1
    have Z2 := same_new (o := .lst (nv (List.replicate fs.length 0))) ncq
    have cn : H cq = none := Z1.free ncq
    refine ⟨.ref p, rfl, p, _, rfl, .inr (same_seqT (Z1.trans Z2) hp), _, rfl, ?_, ?_, for_range (lo := 0) (n := Int.toNat ((nv fs).length : Int)) (fun k σ H1 => ∃ (ws : List Nat) (c2 c3 : Option V), σ = [some (.ref p), some (.ref cq), c2, c3] ∧ Same H H1 ∧ H1 cq = some (.lst (nv ws)) ∧ ws.length = fs.length ∧ ∀ v, v < fs.length → ws.getD v 0 = cnt fs v k)
      ⟨List.replicate fs.length 0, none, none, rfl, Z1.trans Z2, upd_same, List.length_replicate, fun v hv => ?_⟩ ?_ ?_⟩
    · rw [nv_length]
      omega
    · rw [nv_length]
      omega
    · rw [cnt_zero, List.getD_eq_getElem?_getD, List.getElem?_replicate, if_pos hv]
      rfl
    · rintro k σ H1 hk ⟨ws, c2, c3, rfl, sm, hcq, lw, hws⟩
      rw [nv_length] at hk
      have hk' : k < fs.length := by omega
      refine ⟨.ref p, rfl, .int (0 + (k : Int)), rfl, p, fs, k, by rw [Int.zero_add]; rfl, same_seqT sm hp, hF, hk', fun ln qa H2 s2 pl ll nq hqa => ?_⟩
      have nd : ln.Nodup := pl.nodup hF.rch hF.rng hk'
      have inn : ∀ {x : Nat}, x ∈ ln → x < fs.length := fun hx => ((pl.bel _).mp hx).lt hF.rng hk'
      have qc : qa ≠ cq := fun z => by
        rw [z, hcq] at nq
        cases nq
      refine ⟨qa, rfl, ⟨_, SqT.of hqa⟩, for_tup (K := K) (a := qa) (xs := nv ln) (fun j σ H3 => ∃ (us : List Nat) (c3 : Option V), σ = [some (.ref p), some (.ref cq), some (.int (0 + (k : Int))), c3] ∧ Same H H3 ∧ H3 qa = some (.tup (nv ln)) ∧ H3 cq = some (.lst (nv us)) ∧ us.length = fs.length ∧ ∀ v, v < fs.length → us.getD v 0 = ws.getD v 0 + (if v ∈ ln.take j then 1 else 0))
        ⟨ws, c3, rfl, sm.trans s2, hqa, s2 _ _ hcq, lw, fun v _ => by rw [List.take_zero, if_neg List.not_mem_nil]; rfl⟩ (fun j σ H3 _ ⟨_, _, _, _, z, _⟩ => SqT.of z) ?_ ?_⟩
      · rintro j y σ H3 hj ⟨us, d3, rfl, s3, hq3, hc3, lu, hus⟩
        obtain ⟨hjl, rfl⟩ := nv_some hj
        generalize hy : ln.getD j 0 = y
        have ey : ln[j]? = some y := by rw [← hy, List.getD_eq_getElem?_getD, List.getElem?_eq_getElem hjl]; rfl
        have yl : y < fs.length := inn (List.mem_of_getElem? ey)
        have yu : y < us.length := by omega
        refine ⟨.ref cq, rfl, .int (y : Nat), rfl, cq, _, y, _, rfl, rfl, SqL.of hc3, nv_get yu, _, 1, rfl, rfl, cq, _, (y : Int), y, rfl, rfl, hc3, ?_, us.set y (us.getD y 0 + 1), some (.int (y : Nat)), rfl, fun b o z => ?_, ?_, ?_, ?_, ?_⟩
        · unfold ixN
          rw [nv_length, if_pos (by omega), if_pos (by omega), Int.toNat_natCast]
        · rw [upd_ne (ne_of_none z cn)]
          exact s3 _ _ z
        · rw [upd_ne qc]
          exact hq3
        · rw [upd_same]
          unfold nv
          rw [List.map_set]
          rfl
        · rw [List.length_set]
          exact lu
        · intro v hv
          rw [getD_set yu, List.take_add_one, ey]
          have notin : y ∉ ln.take j := fun z => by
            obtain ⟨i, hi, ei⟩ := List.getElem_of_mem z
            rw [List.length_take] at hi
            rw [List.getElem_take] at ei
            have e2 : ln[i]? = ln[j]? := by rw [ey, List.getElem?_eq_getElem (by omega), ei]
            have := (List.getElem?_inj (by omega) nd).mp e2
            omega
          by_cases z : v = y
          · subst z
            rw [if_pos rfl, hus v hv, if_neg notin, if_pos (by simp)]
          · rw [if_neg z, hus v hv]
            have e3 : (v ∈ ln.take j ++ (some y).toList) ↔ v ∈ ln.take j := by simp [z]
            by_cases z2 : v ∈ ln.take j
            · rw [if_pos z2, if_pos (e3.mpr z2)]
            · rw [if_neg z2, if_neg (fun y => z2 (e3.mp y))]
      · rintro σ H3 ⟨us, d3, rfl, s3, hq3, hc3, lu, hus⟩
        rw [nv_length, List.take_length] at hus
        refine ⟨us, _, _, rfl, s3, hc3, lu, fun v hv => ?_⟩
        rw [hus v hv, hws v hv, cnt_succ]
        by_cases z : v ∈ ln
        · rw [if_pos z, if_pos ((pl.bel v).mp z)]
        · rw [if_neg z, if_neg (fun y => z ((pl.bel v).mpr y))]
    · rintro σ H1 ⟨ws, c2, c3, rfl, sm, hcq, lw, hws⟩
      rw [nv_length, Int.toNat_natCast] at hws
      refine ⟨.ref cq, rfl, cq, _, rfl, .inl ⟨SqL.of hcq, fun p9 n9 => ?_⟩⟩
      exact q ws p9 _ (sm.trans (same_new n9)) lw hws (sm.free n9) upd_same
theorem scRenamed : FnScope ["forest", "names", "parents", "vertex", "parent"] ["forest", "names"] (defScope sRenamed) := ⟨rfl, rfl, rfl, by decide +kernel, rfl, by decide +kernel, by decide +kernel⟩
theorem ok_renamed {f : Addr} {fd : FuncData} (F : Fun K "renamed" "renamed" sRenamed f fd) (ml : mg "len" = none) (me : mg "enumerate" = none) (mT : mg "tuple" = none) : FnOk P w K mg base CX0 1 f fd ["forest", "names"] (spRenamed K) := by
  refine F.ok scRenamed (fun vs H Q E h => ?_) (fun cdv A outer s H vs Q E hr h => ?_)
  · obtain ⟨p, r, fs, ns, rfl, _⟩ := h
    rfl
  · obtain ⟨p, r, fs, ns, rfl, hp, hr', few, rng, pm, q⟩ := h
    refine ⟨_, pss_cons (ps_set (i := 2) scRenamed.nd rfl (.inl rfl) (pe_op op_rep (pe_lst (pa_cons pe_int pa_nil)) (pe_callB call_len_seq (by rfl) ml PySem.boot_len (pa_cons (pv 0) pa_nil))))
      (pss_cons (ps_for PassesOwn.never rfl (pi_enumT (by rfl) me (pa_cons (pv 0) pa_nil)) (pg_tup rfl (pgs_cons (pg_name (i := 3) scRenamed.nd rfl (.inl rfl)) (pgs_cons (pg_name (i := 4) scRenamed.nd rfl (.inl rfl)) pgs_nil)))
        (pss_one (ps_asg (pe_ix ix_tup (pv 1) (pv 4) (fun _ _ => rfl)) (pg_sub (pv 2) (pe_ix ix_tup (pv 1) (pv 3) (fun _ _ => rfl)) set_list))))
      (pss_one (ps_ret (pe_callTy call_tuple_of (by rfl) mT (by decide +kernel) (pa_cons (pv 2) pa_nil))))), ?_⟩
    have ln : ns.length = fs.length := by rw [pm.length_eq, List.length_range]
    have nd : ns.Nodup := pm.symm.nodup List.nodup_range
    have nin : ∀ v, v < fs.length → par ns v < fs.length := fun v hv => by
      have e : ns[v]? = some (par ns v) := by
        unfold par
        rw [List.getD_eq_getElem?_getD, List.getElem?_eq_getElem (by omega)]
        rfl
      exact List.mem_range.mp (pm.mem_iff.mp (List.mem_of_getElem? e))
    refine ⟨(by show 1 ≤ sizeLine; decide), fun z1 nz1 => ⟨.ref p, rfl, p, _, rfl, .inr (same_seqT (same_new nz1) hp), z1, _, _, rfl, rfl, upd_same, ?_, ?_, ?_, fun cq ncq => ?_⟩⟩
    · rw [nv_length]
      omega
    · rw [nv_length]
      omega
    · show 1 * Int.toNat ((nv fs).length : Int) ≤ sizeLine
      rw [sizeLine_eq, nv_length]
      omega
    rw [show (List.replicate (Int.toNat ((nv fs).length : Int)) [V.int 0]).flatten = nv (List.replicate fs.length 0) from by rw [nv_length, Int.toNat_natCast]; exact rep_nv _]
    have Z1 := same_new (o := .lst [V.int 0]) nz1
    have Z2 := same_new (o := .lst (nv (List.replicate fs.length 0))) ncq
    have cn : H cq = none := Z1.free ncq
    refine ⟨.ref p, rfl, p, _, rfl, same_seqT (Z1.trans Z2) hp, for_it (walkT (K := K) (a := p) (xs := nv fs)) (fun k σ H1 => ∃ (rs : List Nat) (c3 c4 : Option V), σ = [some (.ref p), some (.ref r), some (.ref cq), c3, c4] ∧ Same H H1 ∧ H1 cq = some (.lst (nv rs)) ∧ rs.length = fs.length ∧ ∀ v, v < k → par rs (par ns v) = par ns (par fs v))
      ⟨List.replicate fs.length 0, none, none, rfl, Z1.trans Z2, upd_same, List.length_replicate, fun v hv => absurd hv (Nat.not_lt_zero v)⟩ (fun k σ H1 _ ⟨_, _, _, _, z, _⟩ => same_seqT z hp) ?_ ?_⟩
    · rintro k x σ H1 H1' hk ⟨rs, c3, c4, rfl, sm, hcq, lr, hrs⟩ ⟨t, v1, v2, rfl, nt, rfl, z1, z2⟩
      obtain ⟨hk', rfl⟩ := nv_some z2
      cases z1
      have St := same_new (o := .tup [V.int (k : Nat), V.int ((fs.getD k 0 : Nat) : Int)]) nt
      have pk : par fs k < fs.length := rng k hk'
      refine ⟨t, _, rfl, SqT.of upd_same, rfl, _, _, rfl, _, _, rfl, rfl, ?_⟩
      refine ⟨.ref r, rfl, .int ((par fs k : Nat) : Int), rfl, r, _, (par fs k : Nat), _, rfl, rfl, same_seqT (sm.trans St) hr', atI_nat (nv_get (by omega)), .ref cq, rfl, .ref r, rfl, .int (k : Nat), rfl, r, _, (k : Nat), _, rfl, rfl, same_seqT (sm.trans St) hr', atI_nat (nv_get (by omega)), cq, _, _, par ns k, rfl, rfl, St _ _ hcq, ?_, ?_⟩
      · unfold ixN
        have := nin k hk'
        rw [nv_length, if_pos (by omega), if_pos (by show ((ns.getD k 0 : Nat) : Int) < _; have : ns.getD k 0 < fs.length := this; omega), Int.toNat_natCast]
        rfl
      · have pl : par ns k < rs.length := by
          have := nin k hk'
          omega
        refine ⟨rs.set (par ns k) (par ns (par fs k)), _, _, rfl, fun b o z => ?_, ?_, by rw [List.length_set]; exact lr, fun v hv => ?_⟩
        · rw [upd_ne (ne_of_none z cn)]
          exact St _ _ (sm _ _ z)
        · rw [upd_same]
          unfold nv
          rw [List.map_set]
          rfl
        · rw [par_set pl]
          by_cases z : v = k
          · rw [z, if_pos rfl]
          · have ne : ¬ par ns v = par ns k := fun e => by
              have e1 : ns[v]? = some (par ns v) := by
                unfold par
                rw [List.getD_eq_getElem?_getD, List.getElem?_eq_getElem (by omega)]
                rfl
              have e2 : ns[k]? = some (par ns k) := by
                unfold par
                rw [List.getD_eq_getElem?_getD, List.getElem?_eq_getElem (by omega)]
                rfl
              rw [e] at e1
              exact z ((List.getElem?_inj (by omega) nd).mp (e1.trans e2.symm))
            rw [if_neg ne]
            exact hrs v (by omega)
    · rintro σ H1 ⟨rs, c3, c4, rfl, sm, hcq, lr, hrs⟩
      rw [nv_length] at hrs
      refine ⟨.ref cq, rfl, cq, _, rfl, .inl ⟨SqL.of hcq, fun p9 n9 => ?_⟩⟩
      exact q rs p9 _ (sm.trans (same_new n9)) lr hrs (sm.free n9) upd_same
end
end Lf
namespace Lf
/-! ### names: plain mathematics -/
def idx (ns : List Nat) (x : Nat) : Nat := ns.idxOf x
section
variable {ns fs : List Nat} {n : Nat}
theorem get_par {l : List Nat} {v : Nat} (h : v < l.length) : l[v]? = some (par l v) := by
  unfold par
  rw [List.getD_eq_getElem?_getD, List.getElem?_eq_getElem h]
  rfl
structure Nm (ns : List Nat) (n : Nat) : Prop where
  pm : ns.Perm (List.range n)
theorem Nm.len (N : Nm ns n) : ns.length = n := by rw [N.pm.length_eq, List.length_range]
theorem Nm.nd (N : Nm ns n) : ns.Nodup := N.pm.symm.nodup List.nodup_range
theorem Nm.lt (N : Nm ns n) {v : Nat} (h : v < n) : par ns v < n := List.mem_range.mp (N.pm.mem_iff.mp (List.mem_of_getElem? (get_par (by rw [N.len]; exact h))))
theorem Nm.inj (N : Nm ns n) {v u : Nat} (hv : v < n) (hu : u < n) (e : par ns v = par ns u) : v = u := by
  have e1 := get_par (l := ns) (v := v) (by rw [N.len]; exact hv)
  have e2 := get_par (l := ns) (v := u) (by rw [N.len]; exact hu)
  rw [e] at e1
  exact (List.getElem?_inj (by rw [N.len]; exact hv) N.nd).mp (e1.trans e2.symm)
theorem Nm.mem (N : Nm ns n) {x : Nat} (h : x < n) : x ∈ ns := N.pm.mem_iff.mpr (List.mem_range.mpr h)
theorem Nm.idx_lt (N : Nm ns n) {x : Nat} (h : x < n) : idx ns x < n := by
  have := List.idxOf_lt_length_of_mem (N.mem h)
  rw [N.len] at this
  exact this
theorem Nm.get_idx (N : Nm ns n) {x : Nat} (h : x < n) : ns[idx ns x]? = some x := by
  have hl := List.idxOf_lt_length_of_mem (N.mem h)
  have e := List.getElem_idxOf hl
  show ns[ns.idxOf x]? = some x
  rw [List.getElem?_eq_getElem hl, e]
theorem Nm.par_idx (N : Nm ns n) {x : Nat} (h : x < n) : par ns (idx ns x) = x := by
  have := N.get_idx h
  rw [get_par (by rw [N.len]; exact N.idx_lt h)] at this
  exact Option.some.inj this
theorem Nm.idx_par (N : Nm ns n) {v : Nat} (h : v < n) : idx ns (par ns v) = v := N.inj (N.idx_lt (N.lt h)) h (N.par_idx (N.lt h))
theorem Nm.first (N : Nm ns n) {x : Nat} (h : x < n) (m : Nat) (hm : m < idx ns x) : ns[m]? ≠ some x := fun e => by
  have := (List.getElem?_inj (by rw [N.len]; have := N.idx_lt h; omega) N.nd).mp (e.trans (N.get_idx h).symm)
  omega
def due (ns fs : List Nat) : List Nat := (List.range fs.length).map fun x => par ns (par fs (idx ns x))
def back (ns : List Nat) (n : Nat) : List Nat := (List.range n).map (idx ns)
theorem par_map {f : Nat → Nat} {n v : Nat} (h : v < n) : par ((List.range n).map f) v = f v := by
  unfold par
  rw [List.getD_eq_getElem?_getD, List.getElem?_map, List.getElem?_range h]
  rfl
theorem due_len : (due ns fs).length = fs.length := by
  unfold due
  rw [List.length_map, List.length_range]
theorem par_due (N : Nm ns fs.length) {v : Nat} (h : v < fs.length) : par (due ns fs) (par ns v) = par ns (par fs v) := by
  unfold due
  rw [par_map (N.lt h), N.idx_par h]
theorem par_ext {l m : List Nat} (hl : l.length = n) (hm : m.length = n) (h : ∀ v, v < n → par l v = par m v) : l = m := by
  refine List.ext_getElem? fun i => ?_
  by_cases z : i < n
  · rw [get_par (by omega), get_par (by omega), h i z]
  · rw [List.getElem?_eq_none (by omega), List.getElem?_eq_none (by omega)]
/-- the new names' forest is one only -/
theorem due_only (N : Nm ns fs.length) {rs : List Nat} (hl : rs.length = fs.length) (h : ∀ v, v < fs.length → par rs (par ns v) = par ns (par fs v)) : rs = due ns fs := by
  refine par_ext hl due_len fun x hx => ?_
  have e := N.par_idx hx
  rw [← e, h _ (N.idx_lt hx), par_due N (N.idx_lt hx)]
theorem due_rng (N : Nm ns fs.length) (F : Forest fs) {x : Nat} (hx : x < fs.length) : par (due ns fs) x < fs.length := by
  have e := N.par_idx hx
  rw [← e, par_due N (N.idx_lt hx)]
  exact N.lt (F.rng _ (N.idx_lt hx))
theorem back_len : (back ns n).length = n := by
  unfold back
  rw [List.length_map, List.length_range]
theorem par_back {x : Nat} (h : x < n) : par (back ns n) x = idx ns x := par_map h
theorem Nm.back (N : Nm ns n) : Nm (back ns n) n := by
  refine ⟨(List.perm_ext_iff_of_nodup ?_ List.nodup_range).mpr fun x => ?_⟩
  · refine List.Pairwise.map _ ?_ (List.pairwise_lt_range.imp_of_mem fun {a b} ha hb h => ?_) (R := fun a b => idx ns a ≠ idx ns b)
    · exact fun a b h => h
    · intro e
      have e2 := congrArg (par ns) e
      rw [N.par_idx (List.mem_range.mp ha), N.par_idx (List.mem_range.mp hb)] at e2
      omega
  · refine ⟨fun h => ?_, fun h => ?_⟩
    · obtain ⟨y, hy, rfl⟩ := List.mem_map.mp h
      exact List.mem_range.mpr (N.idx_lt (List.mem_range.mp hy))
    · have hx := List.mem_range.mp h
      exact List.mem_map.mpr ⟨par ns x, List.mem_range.mpr (N.lt hx), N.idx_par hx⟩
/-- with the names back it is the old forest -/
theorem back_only (N : Nm ns fs.length) (F : Forest fs) {rs : List Nat} (hl : rs.length = fs.length) (h : ∀ v, v < fs.length → par rs (par (Lf.back ns fs.length) v) = par (Lf.back ns fs.length) (par (due ns fs) v)) : rs = fs := by
  refine par_ext hl rfl fun v hv => ?_
  have h1 := h (par ns v) (N.lt hv)
  rw [par_back (N.lt hv), N.idx_par hv, par_due N hv, par_back (N.lt (F.rng v hv)), N.idx_par (F.rng v hv)] at h1
  exact h1
theorem same_only {rs : List Nat} (F : Forest fs) (hl : rs.length = fs.length) (h : ∀ v, v < fs.length → par rs (par (List.range fs.length) v) = par (List.range fs.length) (par fs v)) : rs = fs := by
  refine par_ext hl rfl fun v hv => ?_
  have h1 := h v hv
  rw [par_range hv, par_range (F.rng v hv)] at h1
  exact h1
theorem due_rch (N : Nm ns fs.length) (F : Forest fs) {k v : Nat} (r : Rch fs k v) (hv : v < fs.length) : Rch (due ns fs) k (par ns v) := by
  induction r with
  | root h => exact .root (by rw [par_due N hv, h])
  | step h _ ih =>
    refine .step ?_ ?_
    · rw [par_due N hv]
      exact fun e => h (N.inj (F.rng _ hv) hv e)
    · rw [par_due N hv]
      exact ih (F.rng _ hv)
theorem Forest.due (N : Nm ns fs.length) (F : Forest fs) : Forest (due ns fs) := by
  refine ⟨by rw [due_len]; exact F.pos, by rw [due_len]; exact F.few, fun x hx => ?_, fun x hx => ?_⟩
  · rw [due_len] at hx ⊢
    exact due_rng N F hx
  · rw [due_len] at hx
    obtain ⟨k, r⟩ := F.rch _ (N.idx_lt hx)
    have := due_rch N F r (N.idx_lt hx)
    rw [N.par_idx hx] at this
    exact ⟨k, this⟩
theorem due_bel (N : Nm ns fs.length) (F : Forest fs) {v u : Nat} (b : Bel fs v u) (hu : u < fs.length) : Bel (Lf.due ns fs) (par ns v) (par ns u) := by
  induction b with
  | refl => exact .refl
  | step h _ ih =>
    refine .step ?_ ?_
    · rw [par_due N hu]
      exact fun e => h (N.inj (F.rng _ hu) hu e)
    · rw [par_due N hu]
      exact ih (F.rng _ hu)
theorem bel_due (N : Nm ns fs.length) (F : Forest fs) {v : Nat} (hv : v < fs.length) {y : Nat} (b : Bel (Lf.due ns fs) (par ns v) y) (hy : y < fs.length) : Bel fs v (idx ns y) := by
  induction b with
  | refl =>
    rw [N.idx_par hv]
    exact .refl
  | step h _ ih =>
    rename_i y _
    have e := N.par_idx hy
    have e2 : par (Lf.due ns fs) y = par ns (par fs (idx ns y)) := by
      have := par_due N (N.idx_lt hy)
      rw [e] at this
      exact this
    rw [e2] at ih h
    have i2 := ih (N.lt (F.rng _ (N.idx_lt hy)))
    rw [N.idx_par (F.rng _ (N.idx_lt hy))] at i2
    refine .step (fun z => h ?_) i2
    rw [z, e]
open Classical in
theorem cnt_due (N : Nm ns fs.length) (F : Forest fs) {v : Nat} (hv : v < fs.length) : cnt (Lf.due ns fs) (par ns v) fs.length = cnt fs v fs.length := by
  let l := (List.range fs.length).filter fun u => decide (Bel fs v u)
  have nd : l.Nodup := List.Pairwise.filter _ List.nodup_range
  have hl : ∀ u, u ∈ l ↔ u < fs.length ∧ Bel fs v u := fun u => by rw [List.mem_filter, List.mem_range, decide_eq_true_iff]
  have nd2 : (l.map (par ns)).Nodup := by
    refine List.Pairwise.map _ (fun a b h => h) (List.Pairwise.imp_of_mem (S := fun a b => par ns a ≠ par ns b) (fun {a b} ha hb h e => ?_) nd)
    exact h (N.inj ((hl a).mp ha).1 ((hl b).mp hb).1 e)
  have h2 : cnt (Lf.due ns fs) (par ns v) (Lf.due ns fs).length = (l.map (par ns)).length := by
    refine cnt_of nd2 fun y => ?_
    rw [List.mem_map, due_len]
    refine ⟨fun ⟨u, hu, e⟩ => ?_, fun ⟨hy, b⟩ => ?_⟩
    · have z := (hl u).mp hu
      rw [← e]
      exact ⟨N.lt z.1, due_bel N F z.2 z.1⟩
    · exact ⟨idx ns y, (hl _).mpr ⟨N.idx_lt hy, bel_due N F hv b hy⟩, N.par_idx hy⟩
  rw [due_len, List.length_map] at h2
  rw [h2]
  exact (cnt_of nd hl).symm
theorem tops_due (N : Nm ns fs.length) (F : Forest fs) : (tops (Lf.due ns fs)).Perm ((tops fs).map (par ns)) := by
  refine (List.perm_ext_iff_of_nodup (tops_nodup _) ?_).mpr fun x => ?_
  · refine List.Pairwise.map _ (fun a b h => h) (List.Pairwise.imp_of_mem (S := fun a b => par ns a ≠ par ns b) (fun {a b} ha hb h e => ?_) (tops_nodup fs))
    exact h (N.inj (mem_tops.mp ha).1 (mem_tops.mp hb).1 e)
  · rw [mem_tops, due_len, List.mem_map]
    refine ⟨fun ⟨h1, h2⟩ => ⟨idx ns x, mem_tops.mpr ⟨N.idx_lt h1, ?_⟩, N.par_idx h1⟩, fun ⟨v, hv, e⟩ => ?_⟩
    · have e2 := par_due N (N.idx_lt h1)
      rw [N.par_idx h1, h2] at e2
      have e3 := N.par_idx h1
      exact N.inj (F.rng _ (N.idx_lt h1)) (N.idx_lt h1) (by rw [← e2, e3])
    · have z := mem_tops.mp hv
      rw [← e]
      refine ⟨N.lt z.1, ?_⟩
      rw [par_due N z.1, z.2]
end
end Lf
namespace Lf
open PySem PySem.Spec PyProof.Rows L2
abbrev sLaw : Stmt := topS (22)
def spLaw (K : PySem.W.Frag) : Sp := fun vs H Q _ => ∃ (a : Addr) (ns : List Int), vs = [.ref a] ∧ SqL K H a (ns.map V.int) ∧ ns.length ≤ 63 ∧ ∀ H', Q (.bl true) H'
theorem sqF {K : PySem.W.Frag} {H : Hp} {p : Addr} {o : Obj} {xs : List V} (h : H p = some (.frz o (.tup xs))) : SqT K H p xs := .inl (.inr ⟨o, h⟩)
/-! what repr shows of small numbers -/
def nD (l : List Nat) : List PyData := l.map fun x => PyData.int (x : Nat)
theorem rpN {H : Hp} : ∀ l : List Nat, RpAll H (nv l) (nD l)
  | [] => .nil
  | x :: l => .cons (.int _) (rpN l)
structure Sml (l : List Nat) : Prop where
  few : l.length ≤ 24
  low : ∀ x ∈ l, x < 25
theorem show25 : ∀ x, x < 25 → ((PyData.int ((x : Nat) : Int)).showable && decide ((PyData.int ((x : Nat) : Int)).shown.length ≤ 2)) = true := by decide +kernel
theorem nD_ok : ∀ (l : List Nat), (∀ x ∈ l, x < 25) → PyData.showableAll (nD l) = true ∧ PyData.depthAll (nD l) = 0 ∧ ((PyData.shownAll (nD l)).map (·.length)).sum ≤ 2 * l.length ∧ (PyData.shownAll (nD l)).length = l.length
  | [], _ => ⟨rfl, rfl, Nat.le_refl _, rfl⟩
  | x :: l, h => by
    obtain ⟨h1, h2, h3, h4⟩ := nD_ok l fun y hy => h y (List.mem_cons_of_mem _ hy)
    obtain ⟨g1, g2⟩ := Bool.and_eq_true_iff.mp (show25 x (h x List.mem_cons_self))
    have g2 := of_decide_eq_true g2
    refine ⟨?_, ?_, ?_, ?_⟩
    · show (PyData.showable (.int (x : Nat)) && PyData.showableAll (nD l)) = true
      rw [g1, h1]
      rfl
    · show max (PyData.depth (.int (x : Nat))) (PyData.depthAll (nD l)) = 0
      rw [h2]
      rfl
    · show (PyData.shown (.int (x : Nat))).length + ((PyData.shownAll (nD l)).map (·.length)).sum ≤ 2 * (l.length + 1)
      omega
    · show (PyData.shownAll (nD l)).length + 1 = l.length + 1
      rw [h4]
theorem tupOk {l : List Nat} (S : Sml l) : (PyData.tuple (nD l)).showable = true ∧ (PyData.tuple (nD l)).depth = 1 ∧ (PyData.tuple (nD l)).shown.length ≤ 200 := by
  obtain ⟨h1, h2, h3, h4⟩ := nD_ok l S.low
  refine ⟨h1, ?_, ?_⟩
  · show PyData.depthAll (nD l) + 1 = 1
    rw [h2]
  · show (tupleText (PyData.shownAll (nD l))).length ≤ 200
    have := tupleText_len_le (PyData.shownAll (nD l))
    rw [h4] at this
    have := S.few
    omega
theorem pairOk {l m : List Nat} (S : Sml l) (T : Sml m) : (PyData.list [.tuple (nD l), .tuple (nD m)]).showable = true ∧ (PyData.list [.tuple (nD l), .tuple (nD m)]).depth ≤ 100 ∧ (PyData.list [.tuple (nD l), .tuple (nD m)]).shown.length ≤ sizeLine := by
  obtain ⟨a1, a2, a3⟩ := tupOk S
  obtain ⟨b1, b2, b3⟩ := tupOk T
  refine ⟨?_, ?_, ?_⟩
  · show (PyData.showable (.tuple (nD l)) && (PyData.showable (.tuple (nD m)) && true)) = true
    rw [a1, b1]
    rfl
  · show max (PyData.depth (.tuple (nD l))) (max (PyData.depth (.tuple (nD m))) 0) + 1 ≤ 100
    rw [a2, b2]
    decide
  · show (listText [(PyData.tuple (nD l)).shown, (PyData.tuple (nD m)).shown]).length ≤ sizeLine
    have := listText_len_le [(PyData.tuple (nD l)).shown, (PyData.tuple (nD m)).shown]
    have e : ([(PyData.tuple (nD l)).shown, (PyData.tuple (nD m)).shown].map (·.length)).sum = (PyData.tuple (nD l)).shown.length + ((PyData.tuple (nD m)).shown.length + 0) := rfl
    rw [e] at this
    have e2 : [(PyData.tuple (nD l)).shown, (PyData.tuple (nD m)).shown].length = 2 := rfl
    rw [e2] at this
    rw [sizeLine_eq]
    omega
theorem big200 {n : Nat} (h : n ≤ 200) : n ≤ sizeLine := by
  rw [sizeLine_eq]
  omega
theorem Forest.sml {fs : List Nat} (F : Forest fs) : Sml fs := by
  refine ⟨F.few, fun x hx => ?_⟩
  obtain ⟨i, hi, e⟩ := List.getElem_of_mem hx
  have := F.rng i hi
  unfold par at this
  rw [List.getD_eq_getElem?_getD, List.getElem?_eq_getElem hi, e] at this
  have : x < fs.length := this
  have := F.few
  omega
theorem Nm.sml {ns : List Nat} {n : Nat} (N : Nm ns n) (h : n ≤ 24) : Sml ns := by
  refine ⟨by rw [N.len]; exact h, fun x hx => ?_⟩
  have := List.mem_range.mp (N.pm.mem_iff.mp hx)
  omega
theorem nvI (l : List Nat) : nv l = (l.map fun x => ((x : Nat) : Int)).map V.int := by
  unfold nv
  rw [List.map_map]
  rfl
theorem tops_le (fs : List Nat) : ((tops fs).map fun x => ((x : Nat) : Int)).Pairwise (· ≤ ·) := by
  refine List.Pairwise.map _ (fun a b h => ?_) (List.Pairwise.filter _ (List.pairwise_lt_range (n := fs.length)))
  omega
theorem eqvN (l : List Nat) : PyData.eqv (.list ((l.map fun x => ((x : Nat) : Int)).map .int)) (.list ((l.map fun x => ((x : Nat) : Int)).map .int)) = true := PySem.SeqAt.eqv_refl _ (layInts _)
section
variable {P : Program} {w : World} {K : PySem.W.Frag} {mg : Str → Option Value} {base : Heap}
abbrev NL : List Str := ["_law_script", "_law_well_here", "_law_turn", "_law_parents", "_law_n", "_law_names", "_law_shown", "_law_due", "_law_back", "_law_name", "_law_v", "_law_root"]
theorem scLaw : FnScope NL ["_law_script"] (defScope sLaw) := ⟨rfl, rfl, rfl, by decide +kernel, rfl, by decide +kernel, by decide +kernel⟩
theorem ok_law {f fW fF fM fR fG fT : Addr} {fd fdW fdF fdM fdR fdG fdT : FuncData} (Fn : Fun K "law" "law" sLaw f fd) (sys : ∃ o, base.get? sysModules = some o)
    (FW : Fun K "_law_well" "_law_well" sWell fW fdW) (bW : Binds K fdW ["_law_script"] []) (gW : mg "_law_well" = some (.ref fW)) (GW : FnOk P w K mg base CX0 1 fW fdW ["_law_script"] (spWell K))
    (FF : Fun K "_law_forest" "_law_forest" sForest fF fdF) (bF : Binds K fdF ["_law_well_here", "_law_most"] []) (gF : mg "_law_forest" = some (.ref fF)) (GF : FnOk P w K mg base CX0 4 fF fdF ["_law_well_here", "_law_most"] spGrown)
    (FM : Fun K "_law_mixed" "_law_mixed" sMixed fM fdM) (bM : Binds K fdM ["_law_well_here", "_law_items"] []) (gM : mg "_law_mixed" = some (.ref fM)) (GM : FnOk P w K mg base CX0 2 fM fdM ["_law_well_here", "_law_items"] spMixed)
    (FR : Fun K "renamed" "renamed" sRenamed fR fdR) (bR : Binds K fdR ["forest", "names"] []) (gR : mg "renamed" = some (.ref fR)) (GR : FnOk P w K mg base CX0 1 fR fdR ["forest", "names"] (spRenamed K))
    (FG : Fun K "weights" "weights" sWeights fG fdG) (bG : Binds K fdG ["forest"] []) (gG : mg "weights" = some (.ref fG)) (GG : FnOk P w K mg base CX0 5 fG fdG ["forest"] (spWeights K))
    (FT : Fun K "roots" "roots" sRoots fT fdT) (bT : Binds K fdT ["forest"] []) (gT : mg "roots" = some (.ref fT)) (GT : FnOk P w K mg base CX0 1 fT fdT ["forest"] (spRoots K))
    (ml : mg "len" = none) (mr : mg "range" = none) (mL : mg "list" = none) (mT : mg "tuple" = none) (mS : mg "sorted" = none) (mp : mg "repr" = none) :
    RunG P w K mg base 6 f fd ["_law_script"] (spLaw K) := by
  refine runG_of Fn scLaw (fun vs H Q E h => ?_) (fun cdv A outer s H vs Q E hgu hr h => ?_)
  · obtain ⟨b, ns, rfl, _⟩ := h
    rfl
  · obtain ⟨b, ks, rfl, hS, hlen, q⟩ := h
    have hr1 : Room 1 _ := hr.mono (by decide)
    have hr2 : Room 2 _ := hr.mono (by decide)
    have hr4 : Room 4 _ := hr.mono (by decide)
    have hun : (A.deeper (envOfC "law" (defScope sLaw) s.heap.objs.size f cdv)).units + 200 < cLine := by have := hr.un; omega
    refine ⟨_, pss_cons (ps_set (i := 1) scLaw.nd rfl (.inl rfl) (pe_call GW hr1 (by rfl) gW FW.kp bW .nil pass0 (pa_cons (pv 0) pa_nil)))
      (pss_cons (ps_for PassesOwn.never rfl (pi_range1 (by rfl) mr (pa_cons pe_int pa_nil)) (pg_name (i := 2) scLaw.nd rfl (.inl rfl))
        (pss_cons (ps_set (i := 3) scLaw.nd rfl (.inr rfl) (pe_call GF hr4 (by rfl) gF FF.kp bF .nil pass0 (pa_cons (pv 1) (pa_cons pe_int pa_nil))))
        (pss_cons (ps_set (i := 4) scLaw.nd rfl (.inl rfl) (pe_callB call_len_seq (by rfl) ml PySem.boot_len (pa_cons (pv 3) pa_nil)))
        (pss_cons (ps_set (i := 5) scLaw.nd rfl (.inr rfl) (pe_callTy call_tupleF (by rfl) mT (by decide +kernel) (pa_cons (pe_call GM hr2 (by rfl) gM FM.kp bM .nil pass0 (pa_cons (pv 1) (pa_cons (pe_listRg rfl (by rfl) mL (prg_1 (by rfl) mr (pv 4))) pa_nil))) pa_nil)))
        (pss_cons (ps_set (i := 6) scLaw.nd rfl (.inl rfl) (pe_callB (call_repr sys hgu hun) (by rfl) mp (by decide +kernel) (pa_cons (pe_lst (pa_cons (pv 3) (pa_cons (pv 5) pa_nil))) pa_nil)))
        (pss_cons (ps_set (i := 7) scLaw.nd rfl (.inr rfl) (pe_callTy call_tuple_of (by rfl) mT (by decide +kernel) (pa_cons (pe_lc (own := [("_law_name", 9)]) (g := gName 9) (tt := tYes)
            (te := tOp (rIxT K) (tVar 5) (tOp (rIxT K) (tVar 3) (tTM (fun x xs H Q => ∃ (p : Addr) (ys : List Nat) (z j : Nat), x = .ref p ∧ xs = [.int (z : Nat)] ∧ SqT K H p (nv ys) ∧ ys[j]? = some z ∧ (∀ m, m < j → ys[m]? ≠ some z) ∧ Q (.int (j : Nat)) H) (tVar 5) (tCons (tVar 9) tNil)))) (by rfl) scLaw.nd
            (pi_range1 (by rfl) mr (pa_cons (pv 4) pa_nil)) (blkOk_by (own := [("_law_name", 9)]) (N := NL) (sc := defScope sLaw) (by decide +kernel)) (fun _ _ _ _ _ => pg_name (i := 9) scLaw.nd rfl (Or.inl rfl)) (fun _ _ _ _ _ => pts_nil)
            (fun _ _ _ _ _ => pe_ix ix_tup (pv 5) (pe_ix ix_tup (pv 3) (pe_tm PySem.F.plainAttrs_tuple PySem.F.slot_tuple_index PySem.F.type_tuple_index mt_tup_indexN (pv 5) (pa_cons (pv 9) pa_nil)) (fun _ _ => rfl)) (fun _ _ => rfl))) pa_nil)))
        (pss_cons (ps_if (PW.pt (pw_or (pt_cmpR op_ne (pe_callB (call_repr sys hgu hun) (by rfl) mp (by decide +kernel) (pa_cons (pe_call GR hr1 (by rfl) gR FR.kp bR .nil pass0 (pa_cons (pv 3) (pa_cons (pv 5) pa_nil))) pa_nil)) (pe_callB (call_repr sys hgu hun) (by rfl) mp (by decide +kernel) (pa_cons (pv 7) pa_nil)) (nomark _))
            (pw_or1 (pt_cmpR op_ne (pe_callB (call_repr sys hgu hun) (by rfl) mp (by decide +kernel) (pa_cons (pe_lst (pa_cons (pv 3) (pa_cons (pv 5) pa_nil))) pa_nil)) (pv 6) (nomark _))))) (pss_one (ps_ret pe_bl)) pss_nil)
        (pss_cons (ps_set (i := 8) scLaw.nd rfl (.inl rfl) (pe_callTy call_tuple_of (by rfl) mT (by decide +kernel) (pa_cons (pe_lc (own := [("_law_name", 9)]) (g := gName 9) (tt := tYes)
            (te := tTM (fun x xs H Q => ∃ (p : Addr) (ys : List Nat) (z j : Nat), x = .ref p ∧ xs = [.int (z : Nat)] ∧ SqT K H p (nv ys) ∧ ys[j]? = some z ∧ (∀ m, m < j → ys[m]? ≠ some z) ∧ Q (.int (j : Nat)) H) (tVar 5) (tCons (tVar 9) tNil)) (by rfl) scLaw.nd
            (pi_range1 (by rfl) mr (pa_cons (pv 4) pa_nil)) (blkOk_by (own := [("_law_name", 9)]) (N := NL) (sc := defScope sLaw) (by decide +kernel)) (fun _ _ _ _ _ => pg_name (i := 9) scLaw.nd rfl (Or.inl rfl)) (fun _ _ _ _ _ => pts_nil)
            (fun _ _ _ _ _ => pe_tm PySem.F.plainAttrs_tuple PySem.F.slot_tuple_index PySem.F.type_tuple_index mt_tup_indexN (pv 5) (pa_cons (pv 9) pa_nil))) pa_nil)))
        (pss_cons (ps_if (PW.pt (pw_or (pt_cmpR op_ne (pe_callB (call_repr sys hgu hun) (by rfl) mp (by decide +kernel) (pa_cons (pe_call GR hr1 (by rfl) gR FR.kp bR .nil pass0 (pa_cons (pv 7) (pa_cons (pv 8) pa_nil))) pa_nil)) (pe_callB (call_repr sys hgu hun) (by rfl) mp (by decide +kernel) (pa_cons (pv 3) pa_nil)) (nomark _))
            (pw_or1 (pt_cmpR op_ne (pe_callB (call_repr sys hgu hun) (by rfl) mp (by decide +kernel) (pa_cons (pe_call GR hr1 (by rfl) gR FR.kp bR .nil pass0 (pa_cons (pv 3) (pa_cons (pe_tupRg rfl (by rfl) mT (prg_1 (by rfl) mr (pv 4))) pa_nil))) pa_nil)) (pe_callB (call_repr sys hgu hun) (by rfl) mp (by decide +kernel) (pa_cons (pv 3) pa_nil)) (nomark _))))) (pss_one (ps_ret pe_bl)) pss_nil)
        (pss_cons (ps_if (pt_cmpR (op_neD hr.units) (pe_lc (own := [("_law_v", 10)]) (g := gName 10) (tt := tYes) (te := tOp (rIxT K) (tCall (spWeights K) [] E0 (tCons (tVar 7) tNil)) (tOp (rIxT K) (tVar 5) (tVar 10))) (by rfl) scLaw.nd (pi_range1 (by rfl) mr (pa_cons (pv 4) pa_nil))
            (blkOk_by (own := [("_law_v", 10)]) (N := NL) (sc := defScope sLaw) (by decide +kernel)) (fun _ _ _ _ _ => pg_name (i := 10) scLaw.nd rfl (Or.inl rfl)) (fun _ _ _ _ _ => pts_nil)
            (fun _ _ _ _ _ => pe_ix ix_tup (pe_call GG hr (by rfl) gG FG.kp bG .nil pass0 (pa_cons (pv 7) pa_nil)) (pe_ix ix_tup (pv 5) (pv 10) (fun _ _ => rfl)) (fun _ _ => rfl)))
            (pe_callTy call_list_of (by rfl) mL (by decide +kernel) (pa_cons (pe_call GG hr (by rfl) gG FG.kp bG .nil pass0 (pa_cons (pv 3) pa_nil)) pa_nil)) (nomark _)) (pss_one (ps_ret pe_bl)) pss_nil)
        (pss_one (ps_if (pt_cmpR (op_neD hr.units) (pe_callTy call_list_of (by rfl) mL (by decide +kernel) (pa_cons (pe_call GT hr1 (by rfl) gT FT.kp bT .nil pass0 (pa_cons (pv 7) pa_nil)) pa_nil))
            (pe_callB cr_sorted (by rfl) mS (by decide +kernel) (pa_cons (pe_lc (own := [("_law_root", 11)]) (g := gName 11) (tt := tYes) (te := tOp (rIxT K) (tVar 5) (tVar 11)) (by rfl) scLaw.nd (pi_tup (pe_call GT hr1 (by rfl) gT FT.kp bT .nil pass0 (pa_cons (pv 3) pa_nil)))
            (blkOk_by (own := [("_law_root", 11)]) (N := NL) (sc := defScope sLaw) (by decide +kernel)) (fun _ _ _ _ _ => pg_name (i := 11) scLaw.nd rfl (Or.inl rfl)) (fun _ _ _ _ _ => pts_nil)
            (fun _ _ _ _ _ => pe_ix ix_tup (pv 5) (pv 11) (fun _ _ => rfl))) pa_nil)) (nomark _)) (pss_one (ps_ret pe_bl)) pss_nil))))))))))))
      (pss_one (ps_ret pe_bl))), ?_⟩
    refine ⟨.ref b, rfl, b, ks, rfl, hS, hlen, fun H0 wl l sm0 hW0 nw nl => ?_⟩
    refine ⟨8, rfl, by decide, by decide, for_range (lo := 0) (n := 8) (fun i σ H1 => ∃ c2 c3 c4 c5 c6 c7 c8 : Option V, σ = [some (.ref b), some (.ref wl), c2, c3, c4, c5, c6, c7, c8, none, none, none] ∧ Well wl l H1) ⟨none, none, none, none, none, none, none, rfl, hW0⟩ ?_ (fun σ H1 _ => q H1)⟩
    rintro i σ H1 hi ⟨c2, c3, c4, c5, c6, c7, c8, rfl, hW1⟩
    refine ⟨.ref wl, rfl, wl, l, 24, rfl, hW1, by decide, by decide, fun fs pa H2 hF hW2 kp2 npa hpa2 => ?_⟩
    have few := hF.few
    have pos := hF.pos
    obtain ⟨_, _, _, hw1, hl1, _⟩ := id hW1
    have paw : pa ≠ wl := (ne_of_none hw1 npa).symm
    have pal : pa ≠ l := (ne_of_none hl1 npa).symm
    refine ⟨.ref pa, rfl, pa, _, rfl, .inr (SqT.of hpa2), ?_⟩
    rw [nv_length fs]
    refine ⟨.ref wl, rfl, .int (fs.length : Int), rfl, fs.length, rfl, RgOk.of_le (by omega) (by omega) (by omega) (by omega), fun p1 n1 => ?_⟩
    rw [rgV_nv]
    have S1 := same_new (o := .lst (nv (List.range fs.length))) n1
    refine ⟨wl, l, p1, List.range fs.length, rfl, hW2.same S1, upd_same, by rw [List.length_range]; omega, fun ns q2 H3 pm hW3 kp3 nq2 hq2 => ?_⟩
    have N : Nm ns fs.length := ⟨pm⟩
    have lns := N.len
    have hpa3 : H3 pa = some (.tup (nv fs)) := kp3 _ _ paw pal (S1 _ _ hpa2)
    refine ⟨q2, _, rfl, SqL.of hq2, fun pn ob npn obc obd => ?_⟩
    have S4 := same_new (o := .frz ob (.tup (nv ns))) npn
    have hpn4 : (upd H3 pn (.frz ob (.tup (nv ns)))) pn = some (.frz ob (.tup (nv ns))) := upd_same
    have hpa4 := S4 _ _ hpa3
    have hW4 := hW3.same S4
    generalize hH4 : upd H3 pn (.frz ob (.tup (nv ns))) = H4 at *
    clear hH4
    have sF := hF.sml
    have sN := N.sml few
    obtain ⟨k1, k2, k3⟩ := pairOk sF sN
    refine ⟨.ref pa, rfl, .ref pn, rfl, (by show 2 ≤ sizeLine; decide), fun p5 n5 => ⟨p5, .list [.tuple (nD fs), .tuple (nD ns)], rfl, ?_, k1, k2, k3, ?_⟩⟩
    · have S5 := same_new (o := .lst [V.ref pa, V.ref pn]) n5
      exact .lst upd_same (.cons (.tup (S5 _ _ hpa4) (rpN fs)) (.cons (.ftp (S5 _ _ hpn4) (rpN ns)) .nil))
    have S5 := same_new (o := .lst [V.ref pa, V.ref pn]) n5
    have hpa5 := S5 _ _ hpa4
    have hpn5 := S5 _ _ hpn4
    have hW5 := hW4.same S5
    generalize hH5 : upd H4 p5 (.lst [V.ref pa, V.ref pn]) = H5 at *
    clear hH5
    generalize hT : (PyData.list [.tuple (nD fs), .tuple (nD ns)]).shown = T
    -- the due forest
    refine ⟨.int (fs.length : Int), rfl, fs.length, rfl, by omega, by omega, fun D fD => lc_range (lo := 0) (n := (fs.length : Int).toNat) (fun k G => Same H5 G ∧ G D = some (.lst (nv ((List.range k).map fun x => par ns (par fs (idx ns x)))))) ⟨same_new fD, upd_same⟩ ?_ ?_⟩
    · rintro k G hk ⟨s6, hD⟩
      have hk' : k < fs.length := by omega
      have il := N.idx_lt hk'
      have pl := hF.rng _ il
      refine ⟨rfl, ?_⟩
      dsimp only [tYes]
      rw [if_pos rfl]
      refine ⟨.ref pn, rfl, .ref pa, rfl, .ref pn, rfl, ⟨pn, ob, _, rfl, s6 _ _ hpn5, obc, obd⟩, .int (0 + (k : Int)), rfl, pn, ns, k, idx ns k, rfl, by rw [Int.zero_add], sqF (s6 _ _ hpn5), N.get_idx hk', N.first hk', pa, _, (idx ns k : Nat), _, rfl, rfl, SqT.of (s6 _ _ hpa5), atI_nat (nv_get il), pn, _, (par fs (idx ns k) : Nat), _, rfl, rfl, sqF (s6 _ _ hpn5), atI_nat (nv_get (by rw [lns]; exact pl)), _, hD, ?_, fun x o z => ?_, ?_⟩
      · rw [nv_length, List.length_map, List.length_range]
        exact small1000 (by omega)
      · rw [upd_ne (ne_of_none z fD)]
        exact s6 _ _ z
      · rw [upd_same, List.range_succ, List.map_append, nv_append]
        rfl
    rintro H6 ⟨S6, hD6⟩
    rw [Int.toNat_natCast] at hD6
    have hD6 : H6 D = some (.lst (nv (due ns fs))) := hD6
    refine ⟨D, _, rfl, .inl ⟨SqL.of hD6, fun pd npd => ?_⟩⟩
    have S7 := same_new (o := .tup (nv (due ns fs))) npd
    have hpd7 : (upd H6 pd (.tup (nv (due ns fs)))) pd = some (.tup (nv (due ns fs))) := upd_same
    have hpa7 := S7 _ _ (S6 _ _ hpa5)
    have hpn7 := S7 _ _ (S6 _ _ hpn5)
    have hW7 := (hW5.same S6).same S7
    generalize hH7 : upd H6 pd (.tup (nv (due ns fs))) = H7 at *
    clear hH7
    have hFd := Forest.due N hF
    obtain ⟨t1, t2, t3⟩ := tupOk sF
    obtain ⟨u1, u2, u3⟩ := tupOk hFd.sml
    -- the first test
    refine ⟨.ref pa, rfl, .ref pn, rfl, pa, pn, fs, ns, rfl, SqT.of hpa7, sqF hpn7, by omega, hF.rng, pm, fun rs qr H8 S8 lr hrs nqr hqr => ?_⟩
    have er := due_only N lr hrs
    subst er
    refine ⟨qr, .tuple (nD (due ns fs)), rfl, .tup hqr (rpN _), u1, by rw [u2]; decide, big200 u3, .ref pd, rfl, pd, .tuple (nD (due ns fs)), rfl, .tup (S8 _ _ hpd7) (rpN _), u1, by rw [u2]; decide, big200 u3, rfl, _, rfl, iteNS rfl ?_⟩
    have hpa8 := S8 _ _ hpa7
    have hpn8 := S8 _ _ hpn7
    have hpd8 := S8 _ _ hpd7
    have hW8 := hW7.same S8
    refine ⟨.ref pa, rfl, .ref pn, rfl, (by show 2 ≤ sizeLine; decide), fun p9 n9 => ⟨p9, .list [.tuple (nD fs), .tuple (nD ns)], rfl, ?_, k1, k2, k3, .str T, rfl, rfl, _, rfl, iteNS (by rw [hT]) ?_⟩⟩
    · have S9 := same_new (o := .lst [V.ref pa, V.ref pn]) n9
      exact .lst upd_same (.cons (.tup (S9 _ _ hpa8) (rpN fs)) (.cons (.ftp (S9 _ _ hpn8) (rpN ns)) .nil))
    have S9 := same_new (o := .lst [V.ref pa, V.ref pn]) n9
    have hpa9 := S9 _ _ hpa8
    have hpn9 := S9 _ _ hpn8
    have hpd9 := S9 _ _ hpd8
    have hW9 := hW8.same S9
    generalize hH9 : upd H8 p9 (.lst [V.ref pa, V.ref pn]) = H9 at *
    clear hH9
    -- the names back
    refine ⟨.int (fs.length : Int), rfl, fs.length, rfl, by omega, by omega, fun E nE => lc_range (lo := 0) (n := (fs.length : Int).toNat) (fun k G => Same H9 G ∧ G E = some (.lst (nv ((List.range k).map (idx ns))))) ⟨same_new nE, upd_same⟩ ?_ ?_⟩
    · rintro k G hk ⟨s6, hE⟩
      have hk' : k < fs.length := by omega
      refine ⟨rfl, ?_⟩
      dsimp only [tYes]
      rw [if_pos rfl]
      refine ⟨.ref pn, rfl, ⟨pn, ob, _, rfl, s6 _ _ hpn9, obc, obd⟩, .int (0 + (k : Int)), rfl, pn, ns, k, idx ns k, rfl, by rw [Int.zero_add], sqF (s6 _ _ hpn9), N.get_idx hk', N.first hk', _, hE, ?_, fun x o z => ?_, ?_⟩
      · rw [nv_length, List.length_map, List.length_range]
        exact small1000 (by omega)
      · rw [upd_ne (ne_of_none z nE)]
        exact s6 _ _ z
      · rw [upd_same, List.range_succ, List.map_append, nv_append]
        rfl
    rintro H10 ⟨S10, hE10⟩
    rw [Int.toNat_natCast] at hE10
    have hE10 : H10 E = some (.lst (nv (back ns fs.length))) := hE10
    refine ⟨E, _, rfl, .inl ⟨SqL.of hE10, fun pb npb => ?_⟩⟩
    have S11 := same_new (o := .tup (nv (back ns fs.length))) npb
    have hpb11 : (upd H10 pb (.tup (nv (back ns fs.length)))) pb = some (.tup (nv (back ns fs.length))) := upd_same
    have hpa11 := S11 _ _ (S10 _ _ hpa9)
    have hpn11 := S11 _ _ (S10 _ _ hpn9)
    have hpd11 := S11 _ _ (S10 _ _ hpd9)
    have hW11 := (hW9.same S10).same S11
    generalize hH11 : upd H10 pb (.tup (nv (back ns fs.length))) = H11 at *
    clear hH11
    -- the second test
    refine ⟨.ref pd, rfl, .ref pb, rfl, pd, pb, due ns fs, back ns fs.length, rfl, SqT.of hpd11, SqT.of hpb11, by rw [due_len]; omega, hFd.rng, by rw [due_len]; exact N.back.pm, fun rs qs H12 S12 lr2 hrs2 nqs hqs => ?_⟩
    rw [due_len] at lr2 hrs2
    have er2 := back_only N hF lr2 hrs2
    subst er2
    refine ⟨qs, .tuple (nD rs), rfl, .tup hqs (rpN _), t1, by rw [t2]; decide, big200 t3, .ref pa, rfl, pa, .tuple (nD rs), rfl, .tup (S12 _ _ hpa11) (rpN _), t1, by rw [t2]; decide, big200 t3, rfl, _, rfl, iteNS rfl ?_⟩
    have hpa12 := S12 _ _ hpa11
    have hpn12 := S12 _ _ hpn11
    have hpd12 := S12 _ _ hpd11
    have hW12 := hW11.same S12
    refine ⟨.ref pa, rfl, .int (rs.length : Int), rfl, rs.length, rfl, RgOk.of_le (by omega) (by omega) (by omega) (by omega), fun pt npt => ?_⟩
    rw [rgV_nv]
    have S13 := same_new (o := .tup (nv (List.range rs.length))) npt
    refine ⟨pa, pt, rs, List.range rs.length, rfl, SqT.of (S13 _ _ hpa12), SqT.of upd_same, by omega, hF.rng, .refl _, fun vs qv H14 S14 lv hvs nqv hqv => ?_⟩
    have ev := same_only hF lv hvs
    subst ev
    have S14' := S13.trans S14
    refine ⟨qv, .tuple (nD vs), rfl, .tup hqv (rpN _), t1, by rw [t2]; decide, big200 t3, .ref pa, rfl, pa, .tuple (nD vs), rfl, .tup (S14' _ _ hpa12) (rpN _), t1, by rw [t2]; decide, big200 t3, rfl, _, rfl, iteNS rfl ?_⟩
    have hpa14 := S14' _ _ hpa12
    have hpn14 := S14' _ _ hpn12
    have hpd14 := S14' _ _ hpd12
    have hW14 := hW12.same S14'
    -- the third test
    refine ⟨.int (vs.length : Int), rfl, vs.length, rfl, by omega, by omega, fun D2 nD2 => lc_range (lo := 0) (n := (vs.length : Int).toNat) (fun k G => Same H14 G ∧ G D2 = some (.lst (nv ((List.range k).map fun v => cnt vs v vs.length)))) ⟨same_new nD2, upd_same⟩ ?_ ?_⟩
    · rintro k G hk ⟨s6, hD2⟩
      have hk' : k < vs.length := by omega
      refine ⟨rfl, ?_⟩
      dsimp only [tYes]
      rw [if_pos rfl]
      refine ⟨.ref pd, rfl, pd, due ns vs, rfl, SqT.of (s6 _ _ hpd14), hFd, fun ws qw G2 s7 lw hws nqw hqw => ?_⟩
      have nk := N.lt hk'
      refine ⟨.ref pn, rfl, .int (0 + (k : Int)), rfl, pn, _, (k : Int), .int ((par ns k : Nat) : Int), rfl, by rw [Int.zero_add], sqF (s7 _ _ (s6 _ _ hpn14)), atI_nat (nv_get (by rw [lns]; exact hk')), qw, _, ((par ns k : Nat) : Int), _, rfl, rfl, SqT.of hqw, atI_nat (nv_get (by rw [lw, due_len]; exact nk)), _, s7 _ _ hD2, ?_, fun x o z => ?_, ?_⟩
      · rw [nv_length, List.length_map, List.length_range]
        exact small1000 (by omega)
      · rw [upd_ne (ne_of_none z nD2)]
        exact s7 _ _ (s6 _ _ z)
      · have ew := hws (par ns k) (by rw [due_len]; exact nk)
        rw [due_len, cnt_due N hF hk'] at ew
        rw [upd_same, List.range_succ, List.map_append, nv_append, ew]
        rfl
    rintro H15 ⟨S15, hD15⟩
    rw [Int.toNat_natCast] at hD15
    refine ⟨.ref pa, rfl, pa, vs, rfl, SqT.of (S15 _ _ hpa14), hF, fun ws qw H16 S16 lw hws nqw hqw => ⟨qw, _, rfl, .inr (SqT.of hqw), fun l2 nl2 => ?_⟩⟩
    have ew : ws = (List.range vs.length).map fun v => cnt vs v vs.length := by
      refine par_ext lw (by rw [List.length_map, List.length_range]) fun v hv => ?_
      rw [par_map hv]
      exact hws v hv
    have S17 := same_new (o := .lst (nv ws)) nl2
    refine ⟨_, _, .lst (SqL.of (S17 _ _ (S16 _ _ hD15))) (dpNv _), .lst (SqL.of upd_same) (dpNv ws), shInts _, shInts _, _, rfl, ?_⟩
    rw [← ew, eqvN]
    refine iteF ?_
    have S18 := S15.trans (S16.trans S17)
    have hpa18 := S18 _ _ hpa14
    have hpn18 := S18 _ _ hpn14
    have hpd18 := S18 _ _ hpd14
    have hW18 := hW14.same S18
    generalize hH18 : upd H16 l2 (.lst (nv ws)) = H18 at *
    clear hH18
    -- the fourth test
    refine ⟨.ref pd, rfl, pd, due ns vs, rfl, SqT.of hpd18, by rw [due_len]; omega, fun q3 H19 S19 nq3 hq3 => ⟨q3, _, rfl, .inr (SqT.of hq3), fun l3 nl3 => ?_⟩⟩
    have S20 := same_new (o := .lst (nv (tops (due ns vs)))) nl3
    have hl3 : (upd H19 l3 (.lst (nv (tops (due ns vs))))) l3 = some (.lst (nv (tops (due ns vs)))) := upd_same
    have hpa20 := S20 _ _ (S19 _ _ hpa18)
    have hpn20 := S20 _ _ (S19 _ _ hpn18)
    have hW20 := (hW18.same S19).same S20
    generalize hH20 : upd H19 l3 (.lst (nv (tops (due ns vs)))) = H20 at *
    clear hH20
    refine ⟨.ref pa, rfl, pa, vs, rfl, SqT.of hpa20, by omega, fun q4 H21 S21 nq4 hq4 => ⟨q4, rfl, ⟨_, SqT.of hq4⟩, fun D3 nD3 => lc_tup (K := K) (a := q4) (xs := nv (tops vs)) (fun k G => Same H21 G ∧ G D3 = some (.lst (nv (((tops vs).take k).map (par ns))))) ⟨same_new nD3, upd_same⟩ (fun k G _ z => SqT.of (z.1 _ _ hq4)) ?_ ?_⟩⟩
    · rintro k y G hk ⟨s6, hD3⟩
      obtain ⟨hkl, rfl⟩ := nv_some hk
      have ek : (tops vs)[k]? = some ((tops vs).getD k 0) := get_par hkl
      have vl : (tops vs).getD k 0 < vs.length := (mem_tops.mp (List.mem_of_getElem? ek)).1
      refine ⟨rfl, ?_⟩
      dsimp only [tYes]
      rw [if_pos rfl]
      refine ⟨.ref pn, rfl, _, rfl, pn, _, _, _, rfl, rfl, sqF (s6 _ _ (S21 _ _ hpn20)), atI_nat (nv_get (by rw [lns]; exact vl)), _, hD3, ?_, fun x o z => ?_, ?_⟩
      · rw [nv_length, List.length_map, List.length_take]
        exact small1000 (Nat.le_trans (Nat.min_le_right _ _) (Nat.le_trans (range_filter_le _ _) (by omega)))
      · rw [upd_ne (ne_of_none z nD3)]
        exact s6 _ _ z
      · rw [upd_same, List.take_add_one, ek, List.map_append, nv_append]
        rfl
    rintro H22 ⟨S22, hD22⟩
    rw [nv_length, List.take_length] at hD22
    refine ⟨D3, _, rfl, SqL.of (by rw [← nvI]; exact hD22), ?_, fun ss p10 perm rising n10 => ?_⟩
    · rw [List.length_map, List.length_map]
      exact Nat.lt_of_le_of_lt (range_filter_le _ _) (by omega)
    have es : ss = (tops (due ns vs)).map fun x => ((x : Nat) : Int) := by
      refine PySem.W.ksm_same (perm.trans ?_) rising (tops_le _)
      exact ((tops_due N hF).map fun x => ((x : Nat) : Int)).symm
    subst es
    have S23 := same_new (o := .lst (((tops (due ns vs)).map fun x => ((x : Nat) : Int)).map V.int)) n10
    refine ⟨_, _, .lst (SqL.of (S23 _ _ (S22 _ _ (S21 _ _ hl3)))) (dpNv _), .lst (SqL.of upd_same) (dpInts _), shInts _, shInts _, _, rfl, ?_⟩
    rw [eqvN]
    exact iteF ⟨_, _, _, _, _, _, _, rfl, ((hW20.same S21).same S22).same S23⟩
end
end Lf
namespace Lf
open PySem PySem.Spec PyProof.Rows L2
theorem all_mk {l : PySem.W.OpenLaw} {w : World} {K : PySem.W.Frag} {h : Heap} {mg : Str → Option Value} {fa : Addr} (X : K.In h) (G : h.Ns mainGlobals mg) (hfa : mg "law" = some (.ref fa))
    {f0 : Addr} {odF0 anF0 : Option Addr} {slF0 : Array (Option Value)} {ocF0 kVF0 dcF0 pmF0 cdF0 ctF0 : Value} (aF0 : PySem.W.nsIn K mainGlobals "is_plain_int" = some (some (.ref f0))) (lF0 : K.lookup f0 = some ⟨ocF0, odF0, .func (PySem.W.fnOf "is_plain_int" "is_plain_int" (defArgs sPI) (defBody sPI) (defScope sPI) .none kVF0 dcF0 pmF0 anF0 cdF0 ctF0), slF0⟩) (cF0 : PySem.W.codeIn K cdF0 "is_plain_int" = true) (kF0 : PySem.W.keepIn K (.ref f0) = true)
    {f1 : Addr} {odF1 anF1 : Option Addr} {slF1 : Array (Option Value)} {ocF1 kVF1 dcF1 pmF1 cdF1 ctF1 : Value} (aF1 : PySem.W.nsIn K mainGlobals "is_vertex" = some (some (.ref f1))) (lF1 : K.lookup f1 = some ⟨ocF1, odF1, .func (PySem.W.fnOf "is_vertex" "is_vertex" (defArgs sIV) (defBody sIV) (defScope sIV) .none kVF1 dcF1 pmF1 anF1 cdF1 ctF1), slF1⟩) (cF1 : PySem.W.codeIn K cdF1 "is_vertex" = true) (kF1 : PySem.W.keepIn K (.ref f1) = true)
    {f2 : Addr} {odF2 anF2 : Option Addr} {slF2 : Array (Option Value)} {ocF2 kVF2 dcF2 pmF2 cdF2 ctF2 : Value} (aF2 : PySem.W.nsIn K mainGlobals "check_vertex" = some (some (.ref f2))) (lF2 : K.lookup f2 = some ⟨ocF2, odF2, .func (PySem.W.fnOf "check_vertex" "check_vertex" (defArgs sCheck) (defBody sCheck) (defScope sCheck) .none kVF2 dcF2 pmF2 anF2 cdF2 ctF2), slF2⟩) (cF2 : PySem.W.codeIn K cdF2 "check_vertex" = true) (kF2 : PySem.W.keepIn K (.ref f2) = true)
    {f3 : Addr} {odF3 anF3 : Option Addr} {slF3 : Array (Option Value)} {ocF3 kVF3 dcF3 pmF3 cdF3 ctF3 : Value} (aF3 : PySem.W.nsIn K mainGlobals "roots" = some (some (.ref f3))) (lF3 : K.lookup f3 = some ⟨ocF3, odF3, .func (PySem.W.fnOf "roots" "roots" (defArgs sRoots) (defBody sRoots) (defScope sRoots) .none kVF3 dcF3 pmF3 anF3 cdF3 ctF3), slF3⟩) (cF3 : PySem.W.codeIn K cdF3 "roots" = true) (kF3 : PySem.W.keepIn K (.ref f3) = true)
    {f4 : Addr} {odF4 anF4 : Option Addr} {slF4 : Array (Option Value)} {ocF4 kVF4 dcF4 pmF4 cdF4 ctF4 : Value} (aF4 : PySem.W.nsIn K mainGlobals "weights" = some (some (.ref f4))) (lF4 : K.lookup f4 = some ⟨ocF4, odF4, .func (PySem.W.fnOf "weights" "weights" (defArgs sWeights) (defBody sWeights) (defScope sWeights) .none kVF4 dcF4 pmF4 anF4 cdF4 ctF4), slF4⟩) (cF4 : PySem.W.codeIn K cdF4 "weights" = true) (kF4 : PySem.W.keepIn K (.ref f4) = true)
    {f5 : Addr} {odF5 anF5 : Option Addr} {slF5 : Array (Option Value)} {ocF5 kVF5 dcF5 pmF5 cdF5 ctF5 : Value} (aF5 : PySem.W.nsIn K mainGlobals "path_of" = some (some (.ref f5))) (lF5 : K.lookup f5 = some ⟨ocF5, odF5, .func (PySem.W.fnOf "path_of" "path_of" (defArgs sPath) (defBody sPath) (defScope sPath) .none kVF5 dcF5 pmF5 anF5 cdF5 ctF5), slF5⟩) (cF5 : PySem.W.codeIn K cdF5 "path_of" = true) (kF5 : PySem.W.keepIn K (.ref f5) = true)
    {f6 : Addr} {odF6 anF6 : Option Addr} {slF6 : Array (Option Value)} {ocF6 kVF6 dcF6 pmF6 cdF6 ctF6 : Value} (aF6 : PySem.W.nsIn K mainGlobals "renamed" = some (some (.ref f6))) (lF6 : K.lookup f6 = some ⟨ocF6, odF6, .func (PySem.W.fnOf "renamed" "renamed" (defArgs sRenamed) (defBody sRenamed) (defScope sRenamed) .none kVF6 dcF6 pmF6 anF6 cdF6 ctF6), slF6⟩) (cF6 : PySem.W.codeIn K cdF6 "renamed" = true) (kF6 : PySem.W.keepIn K (.ref f6) = true)
    {f7 : Addr} {odF7 anF7 : Option Addr} {slF7 : Array (Option Value)} {ocF7 kVF7 dcF7 pmF7 cdF7 ctF7 : Value} (aF7 : PySem.W.nsIn K mainGlobals "_law_well" = some (some (.ref f7))) (lF7 : K.lookup f7 = some ⟨ocF7, odF7, .func (PySem.W.fnOf "_law_well" "_law_well" (defArgs sWell) (defBody sWell) (defScope sWell) .none kVF7 dcF7 pmF7 anF7 cdF7 ctF7), slF7⟩) (cF7 : PySem.W.codeIn K cdF7 "_law_well" = true) (kF7 : PySem.W.keepIn K (.ref f7) = true)
    {f8 : Addr} {odF8 anF8 : Option Addr} {slF8 : Array (Option Value)} {ocF8 kVF8 dcF8 pmF8 cdF8 ctF8 : Value} (aF8 : PySem.W.nsIn K mainGlobals "_law_pull" = some (some (.ref f8))) (lF8 : K.lookup f8 = some ⟨ocF8, odF8, .func (PySem.W.fnOf "_law_pull" "_law_pull" (defArgs sPull) (defBody sPull) (defScope sPull) .none kVF8 dcF8 pmF8 anF8 cdF8 ctF8), slF8⟩) (cF8 : PySem.W.codeIn K cdF8 "_law_pull" = true) (kF8 : PySem.W.keepIn K (.ref f8) = true)
    {f9 : Addr} {odF9 anF9 : Option Addr} {slF9 : Array (Option Value)} {ocF9 kVF9 dcF9 pmF9 cdF9 ctF9 : Value} (aF9 : PySem.W.nsIn K mainGlobals "_law_item" = some (some (.ref f9))) (lF9 : K.lookup f9 = some ⟨ocF9, odF9, .func (PySem.W.fnOf "_law_item" "_law_item" (defArgs sItem) (defBody sItem) (defScope sItem) .none kVF9 dcF9 pmF9 anF9 cdF9 ctF9), slF9⟩) (cF9 : PySem.W.codeIn K cdF9 "_law_item" = true) (kF9 : PySem.W.keepIn K (.ref f9) = true)
    {f10 : Addr} {odF10 anF10 : Option Addr} {slF10 : Array (Option Value)} {ocF10 kVF10 dcF10 pmF10 cdF10 ctF10 : Value} (aF10 : PySem.W.nsIn K mainGlobals "_law_mixed" = some (some (.ref f10))) (lF10 : K.lookup f10 = some ⟨ocF10, odF10, .func (PySem.W.fnOf "_law_mixed" "_law_mixed" (defArgs sMixed) (defBody sMixed) (defScope sMixed) .none kVF10 dcF10 pmF10 anF10 cdF10 ctF10), slF10⟩) (cF10 : PySem.W.codeIn K cdF10 "_law_mixed" = true) (kF10 : PySem.W.keepIn K (.ref f10) = true)
    {f11 : Addr} {odF11 anF11 : Option Addr} {slF11 : Array (Option Value)} {ocF11 kVF11 dcF11 pmF11 cdF11 ctF11 : Value} (aF11 : PySem.W.nsIn K mainGlobals "_law_tops" = some (some (.ref f11))) (lF11 : K.lookup f11 = some ⟨ocF11, odF11, .func (PySem.W.fnOf "_law_tops" "_law_tops" (defArgs sTops) (defBody sTops) (defScope sTops) .none kVF11 dcF11 pmF11 anF11 cdF11 ctF11), slF11⟩) (cF11 : PySem.W.codeIn K cdF11 "_law_tops" = true) (kF11 : PySem.W.keepIn K (.ref f11) = true)
    {f12 : Addr} {odF12 anF12 : Option Addr} {slF12 : Array (Option Value)} {ocF12 kVF12 dcF12 pmF12 cdF12 ctF12 : Value} (aF12 : PySem.W.nsIn K mainGlobals "_law_heft" = some (some (.ref f12))) (lF12 : K.lookup f12 = some ⟨ocF12, odF12, .func (PySem.W.fnOf "_law_heft" "_law_heft" (defArgs sHeft) (defBody sHeft) (defScope sHeft) .none kVF12 dcF12 pmF12 anF12 cdF12 ctF12), slF12⟩) (cF12 : PySem.W.codeIn K cdF12 "_law_heft" = true) (kF12 : PySem.W.keepIn K (.ref f12) = true)
    {f13 : Addr} {odF13 anF13 : Option Addr} {slF13 : Array (Option Value)} {ocF13 kVF13 dcF13 pmF13 cdF13 ctF13 : Value} (aF13 : PySem.W.nsIn K mainGlobals "_law_grown" = some (some (.ref f13))) (lF13 : K.lookup f13 = some ⟨ocF13, odF13, .func (PySem.W.fnOf "_law_grown" "_law_grown" (defArgs sGrown) (defBody sGrown) (defScope sGrown) .none kVF13 dcF13 pmF13 anF13 cdF13 ctF13), slF13⟩) (cF13 : PySem.W.codeIn K cdF13 "_law_grown" = true) (kF13 : PySem.W.keepIn K (.ref f13) = true)
    {f14 : Addr} {odF14 anF14 : Option Addr} {slF14 : Array (Option Value)} {ocF14 kVF14 dcF14 pmF14 cdF14 ctF14 : Value} (aF14 : PySem.W.nsIn K mainGlobals "_law_wild" = some (some (.ref f14))) (lF14 : K.lookup f14 = some ⟨ocF14, odF14, .func (PySem.W.fnOf "_law_wild" "_law_wild" (defArgs sWild) (defBody sWild) (defScope sWild) .none kVF14 dcF14 pmF14 anF14 cdF14 ctF14), slF14⟩) (cF14 : PySem.W.codeIn K cdF14 "_law_wild" = true) (kF14 : PySem.W.keepIn K (.ref f14) = true)
    {f15 : Addr} {odF15 anF15 : Option Addr} {slF15 : Array (Option Value)} {ocF15 kVF15 dcF15 pmF15 cdF15 ctF15 : Value} (aF15 : PySem.W.nsIn K mainGlobals "_law_line" = some (some (.ref f15))) (lF15 : K.lookup f15 = some ⟨ocF15, odF15, .func (PySem.W.fnOf "_law_line" "_law_line" (defArgs sLine) (defBody sLine) (defScope sLine) .none kVF15 dcF15 pmF15 anF15 cdF15 ctF15), slF15⟩) (cF15 : PySem.W.codeIn K cdF15 "_law_line" = true) (kF15 : PySem.W.keepIn K (.ref f15) = true)
    {f16 : Addr} {odF16 anF16 : Option Addr} {slF16 : Array (Option Value)} {ocF16 kVF16 dcF16 pmF16 cdF16 ctF16 : Value} (aF16 : PySem.W.nsIn K mainGlobals "_law_forest" = some (some (.ref f16))) (lF16 : K.lookup f16 = some ⟨ocF16, odF16, .func (PySem.W.fnOf "_law_forest" "_law_forest" (defArgs sForest) (defBody sForest) (defScope sForest) .none kVF16 dcF16 pmF16 anF16 cdF16 ctF16), slF16⟩) (cF16 : PySem.W.codeIn K cdF16 "_law_forest" = true) (kF16 : PySem.W.keepIn K (.ref f16) = true)
    {f17 : Addr} {odF17 anF17 : Option Addr} {slF17 : Array (Option Value)} {ocF17 kVF17 dcF17 pmF17 cdF17 ctF17 : Value} (aF17 : PySem.W.nsIn K mainGlobals "law" = some (some (.ref f17))) (lF17 : K.lookup f17 = some ⟨ocF17, odF17, .func (PySem.W.fnOf "law" "law" (defArgs sLaw) (defBody sLaw) (defScope sLaw) .none kVF17 dcF17 pmF17 anF17 cdF17 ctF17), slF17⟩) (cF17 : PySem.W.codeIn K cdF17 "law" = true) (kF17 : PySem.W.keepIn K (.ref f17) = true)
    (z_len : PySem.W.nsIn K mainGlobals "len" = some none)
    (z_abs : PySem.W.nsIn K mainGlobals "abs" = some none)
    (z_int : PySem.W.nsIn K mainGlobals "int" = some none)
    (z_isinstance : PySem.W.nsIn K mainGlobals "isinstance" = some none)
    (z_bool : PySem.W.nsIn K mainGlobals "bool" = some none)
    (z_range : PySem.W.nsIn K mainGlobals "range" = some none)
    (z_list : PySem.W.nsIn K mainGlobals "list" = some none)
    (z_tuple : PySem.W.nsIn K mainGlobals "tuple" = some none)
    (z_sorted : PySem.W.nsIn K mainGlobals "sorted" = some none)
    (z_enumerate : PySem.W.nsIn K mainGlobals "enumerate" = some none)
    (z_repr : PySem.W.nsIn K mainGlobals "repr" = some none)
    : ∃ fd : FuncData, (∀ (s : Shared) (u : Value), BindsTo s fd ⟨[u], []⟩ [("_law_script", u)]) ∧ ∀ base : Heap, K.In base → base.Ns mainGlobals mg → (∃ o, base.get? sysModules = some o) → RunG l.prog w K mg base 6 fa fd ["_law_script"] (spLaw K) := by
  have e := hfa.symm.trans (PySem.W.mg_of X G aF17)
  cases e
  have F0 := fun_mk (st := sPI) lF0 cF0 kF0
  have F1 := fun_mk (st := sIV) lF1 cF1 kF1
  have F2 := fun_mk (st := sCheck) lF2 cF2 kF2
  have F3 := fun_mk (st := sRoots) lF3 cF3 kF3
  have F4 := fun_mk (st := sWeights) lF4 cF4 kF4
  have F5 := fun_mk (st := sPath) lF5 cF5 kF5
  have F6 := fun_mk (st := sRenamed) lF6 cF6 kF6
  have F7 := fun_mk (st := sWell) lF7 cF7 kF7
  have F8 := fun_mk (st := sPull) lF8 cF8 kF8
  have F9 := fun_mk (st := sItem) lF9 cF9 kF9
  have F10 := fun_mk (st := sMixed) lF10 cF10 kF10
  have F11 := fun_mk (st := sTops) lF11 cF11 kF11
  have F12 := fun_mk (st := sHeft) lF12 cF12 kF12
  have F13 := fun_mk (st := sGrown) lF13 cF13 kF13
  have F14 := fun_mk (st := sWild) lF14 cF14 kF14
  have F15 := fun_mk (st := sLine) lF15 cF15 kF15
  have F16 := fun_mk (st := sForest) lF16 cF16 kF16
  have F17 := fun_mk (st := sLaw) lF17 cF17 kF17
  have B0 := F0.binds (ps := ["value"]) fun _ _ _ _ _ _ us hl => match us, hl with | [_], _ => rfl
  have B1 := F1.binds (ps := ["n", "value"]) fun _ _ _ _ _ _ us hl => match us, hl with | [_, _], _ => rfl
  have B2 := F2.binds (ps := ["forest", "value"]) fun _ _ _ _ _ _ us hl => match us, hl with | [_, _], _ => rfl
  have B3 := F3.binds (ps := ["forest"]) fun _ _ _ _ _ _ us hl => match us, hl with | [_], _ => rfl
  have B4 := F4.binds (ps := ["forest"]) fun _ _ _ _ _ _ us hl => match us, hl with | [_], _ => rfl
  have B5 := F5.binds (ps := ["forest", "vertex"]) fun _ _ _ _ _ _ us hl => match us, hl with | [_, _], _ => rfl
  have B6 := F6.binds (ps := ["forest", "names"]) fun _ _ _ _ _ _ us hl => match us, hl with | [_, _], _ => rfl
  have B7 := F7.binds (ps := ["_law_script"]) fun _ _ _ _ _ _ us hl => match us, hl with | [_], _ => rfl
  have B8 := F8.binds (ps := ["_law_well_here", "_law_many"]) fun _ _ _ _ _ _ us hl => match us, hl with | [_, _], _ => rfl
  have B9 := F9.binds (ps := ["_law_well_here", "_law_items"]) fun _ _ _ _ _ _ us hl => match us, hl with | [_, _], _ => rfl
  have B10 := F10.binds (ps := ["_law_well_here", "_law_items"]) fun _ _ _ _ _ _ us hl => match us, hl with | [_, _], _ => rfl
  have B11 := F11.binds (ps := ["_law_parents"]) fun _ _ _ _ _ _ us hl => match us, hl with | [_], _ => rfl
  have B12 := F12.binds (ps := ["_law_parents", "_law_vertex"]) fun _ _ _ _ _ _ us hl => match us, hl with | [_, _], _ => rfl
  have B13 := F13.binds (ps := ["_law_well_here", "_law_most"]) fun _ _ _ _ _ _ us hl => match us, hl with | [_, _], _ => rfl
  have B14 := F14.binds (ps := ["_law_well_here", "_law_most"]) fun _ _ _ _ _ _ us hl => match us, hl with | [_, _], _ => rfl
  have B15 := F15.binds (ps := ["_law_parents", "_law_vertex"]) fun _ _ _ _ _ _ us hl => match us, hl with | [_, _], _ => rfl
  have B16 := F16.binds (ps := ["_law_well_here", "_law_most"]) fun _ _ _ _ _ _ us hl => match us, hl with | [_, _], _ => rfl
  have m_len := PySem.W.mg_none_of X G z_len
  have m_abs := PySem.W.mg_none_of X G z_abs
  have m_int := PySem.W.mg_none_of X G z_int
  have m_isinstance := PySem.W.mg_none_of X G z_isinstance
  have m_bool := PySem.W.mg_none_of X G z_bool
  have m_range := PySem.W.mg_none_of X G z_range
  have m_list := PySem.W.mg_none_of X G z_list
  have m_tuple := PySem.W.mg_none_of X G z_tuple
  have m_sorted := PySem.W.mg_none_of X G z_sorted
  have m_enumerate := PySem.W.mg_none_of X G z_enumerate
  have m_repr := PySem.W.mg_none_of X G z_repr
  have g0 := PySem.W.mg_of X G aF0
  have g1 := PySem.W.mg_of X G aF1
  have g2 := PySem.W.mg_of X G aF2
  have g3 := PySem.W.mg_of X G aF3
  have g4 := PySem.W.mg_of X G aF4
  have g5 := PySem.W.mg_of X G aF5
  have g6 := PySem.W.mg_of X G aF6
  have g7 := PySem.W.mg_of X G aF7
  have g8 := PySem.W.mg_of X G aF8
  have g9 := PySem.W.mg_of X G aF9
  have g10 := PySem.W.mg_of X G aF10
  have g11 := PySem.W.mg_of X G aF11
  have g12 := PySem.W.mg_of X G aF12
  have g13 := PySem.W.mg_of X G aF13
  have g14 := PySem.W.mg_of X G aF14
  have g15 := PySem.W.mg_of X G aF15
  have g16 := PySem.W.mg_of X G aF16
  have g17 := PySem.W.mg_of X G aF17
  refine ⟨PySem.W.fnOf "law" "law" (defArgs sLaw) (defBody sLaw) (defScope sLaw) .none kVF17 dcF17 pmF17 anF17 cdF17 ctF17, fun s v => .of_eq rfl, fun base _ _ sys => ?_⟩
  have GW := ok_well (P := l.prog) (w := w) (base := base) F7 m_len m_abs m_int
  have GM := ok_mixed (P := l.prog) (w := w) (base := base) F10 F8 B8 g8 m_len m_list
  have GG := ok_grown (P := l.prog) (w := w) (base := base) F13 F8 B8 g8 F9 B9 g9 F10 B10 g10 F11 B11 g11 F12 B12 g12 m_len m_range m_list m_tuple m_sorted
  have GX := ok_wild (P := l.prog) (w := w) (base := base) F14 F8 B8 g8 F9 B9 g9 F10 B10 g10 m_len m_range m_list m_tuple m_enumerate
  have GF := ok_forest (P := l.prog) (w := w) (base := base) F16 F8 B8 g8 F13 B13 g13 GG F14 B14 g14 GX F15 B15 g15 m_len
  have G_is_plain_int := ok_pi (P := l.prog) (w := w) (base := base) F0 m_isinstance m_int m_bool
  have G_is_vertex := ok_iv (P := l.prog) (w := w) (base := base) F1 F0 G_is_plain_int B0 g0
  have G_check_vertex := ok_check (P := l.prog) (w := w) (base := base) F2 F1 G_is_vertex B1 g1 m_len
  have G_path_of := ok_path (P := l.prog) (w := w) (base := base) F5 F2 G_check_vertex B2 g2 m_tuple
  have G_weights := ok_weights (P := l.prog) (w := w) (base := base) F4 F5 G_path_of B5 g5 m_len m_range m_tuple
  have G_roots := ok_roots (P := l.prog) (w := w) (base := base) F3 m_enumerate m_tuple
  have G_renamed := ok_renamed (P := l.prog) (w := w) (base := base) F6 m_len m_enumerate m_tuple
  exact ok_law F17 sys F7 B7 g7 GW F16 B16 g16 GF F10 B10 g10 GM F6 B6 g6 G_renamed F4 B4 g4 G_weights F3 B3 g3 G_roots m_len m_range m_list m_tuple m_sorted m_repr
end Lf
open PySem PySem.W PyProof.Rows
set_option maxRecDepth 100000 in
set_option maxHeartbeats 0 in
theorem PySem.Challenge.cw_linkforests_k04_forests_renamed_holds : PySem.Challenge.rw_linkforests_k04_forests_renamed.Holds := by
  w_on; o_law; k_head; (case hw => w_witness2)
  k_fill
  refine Lf.walk_g (l := PySem.Challenge.rw_linkforests_k04_forests_renamed) (n := 63) (k := 6) (x := "_law_script") (sp := Lf.spLaw) rfl (by decide) rfl ⟨rfl, by decide, by decide⟩ (by decide +kernel) (fun w h Y => PySem.W.kIn_of Y) ?F (fun _ _ a ns hl _ hS => ⟨a, ns, rfl, hS, hl, fun _ => rfl⟩)
  case F =>
    intro w mg fa h KX G xl hmg
    refine' Lf.all_mk KX G hmg ?u_aF0 ?u_lF0 ?u_cF0 ?u_kF0 ?u_aF1 ?u_lF1 ?u_cF1 ?u_kF1 ?u_aF2 ?u_lF2 ?u_cF2 ?u_kF2 ?u_aF3 ?u_lF3 ?u_cF3 ?u_kF3 ?u_aF4 ?u_lF4 ?u_cF4 ?u_kF4 ?u_aF5 ?u_lF5 ?u_cF5 ?u_kF5 ?u_aF6 ?u_lF6 ?u_cF6 ?u_kF6 ?u_aF7 ?u_lF7 ?u_cF7 ?u_kF7 ?u_aF8 ?u_lF8 ?u_cF8 ?u_kF8 ?u_aF9 ?u_lF9 ?u_cF9 ?u_kF9 ?u_aF10 ?u_lF10 ?u_cF10 ?u_kF10 ?u_aF11 ?u_lF11 ?u_cF11 ?u_kF11 ?u_aF12 ?u_lF12 ?u_cF12 ?u_kF12 ?u_aF13 ?u_lF13 ?u_cF13 ?u_kF13 ?u_aF14 ?u_lF14 ?u_cF14 ?u_kF14 ?u_aF15 ?u_lF15 ?u_cF15 ?u_kF15 ?u_aF16 ?u_lF16 ?u_cF16 ?u_kF16 ?u_aF17 ?u_lF17 ?u_cF17 ?u_kF17 ?u_z_len ?u_z_abs ?u_z_int ?u_z_isinstance ?u_z_bool ?u_z_range ?u_z_list ?u_z_tuple ?u_z_sorted ?u_z_enumerate ?u_z_repr
    (case u_aF0 => k_is)
    (case u_lF0 => k_is)
    (case u_cF0 => k_is)
    (case u_kF0 => k_is)
    (case u_aF1 => k_is)
    (case u_lF1 => k_is)
    (case u_cF1 => k_is)
    (case u_kF1 => k_is)
    (case u_aF2 => k_is)
    (case u_lF2 => k_is)
    (case u_cF2 => k_is)
    (case u_kF2 => k_is)
    (case u_aF3 => k_is)
    (case u_lF3 => k_is)
    (case u_cF3 => k_is)
    (case u_kF3 => k_is)
    (case u_aF4 => k_is)
    (case u_lF4 => k_is)
    (case u_cF4 => k_is)
    (case u_kF4 => k_is)
    (case u_aF5 => k_is)
    (case u_lF5 => k_is)
    (case u_cF5 => k_is)
    (case u_kF5 => k_is)
    (case u_aF6 => k_is)
    (case u_lF6 => k_is)
    (case u_cF6 => k_is)
    (case u_kF6 => k_is)
    (case u_aF7 => k_is)
    (case u_lF7 => k_is)
    (case u_cF7 => k_is)
    (case u_kF7 => k_is)
    (case u_aF8 => k_is)
    (case u_lF8 => k_is)
    (case u_cF8 => k_is)
    (case u_kF8 => k_is)
    (case u_aF9 => k_is)
    (case u_lF9 => k_is)
    (case u_cF9 => k_is)
    (case u_kF9 => k_is)
    (case u_aF10 => k_is)
    (case u_lF10 => k_is)
    (case u_cF10 => k_is)
    (case u_kF10 => k_is)
    (case u_aF11 => k_is)
    (case u_lF11 => k_is)
    (case u_cF11 => k_is)
    (case u_kF11 => k_is)
    (case u_aF12 => k_is)
    (case u_lF12 => k_is)
    (case u_cF12 => k_is)
    (case u_kF12 => k_is)
    (case u_aF13 => k_is)
    (case u_lF13 => k_is)
    (case u_cF13 => k_is)
    (case u_kF13 => k_is)
    (case u_aF14 => k_is)
    (case u_lF14 => k_is)
    (case u_cF14 => k_is)
    (case u_kF14 => k_is)
    (case u_aF15 => k_is)
    (case u_lF15 => k_is)
    (case u_cF15 => k_is)
    (case u_kF15 => k_is)
    (case u_aF16 => k_is)
    (case u_lF16 => k_is)
    (case u_cF16 => k_is)
    (case u_kF16 => k_is)
    (case u_aF17 => k_is)
    (case u_lF17 => k_is)
    (case u_cF17 => k_is)
    (case u_kF17 => k_is)
    (case u_z_len => k_is)
    (case u_z_abs => k_is)
    (case u_z_int => k_is)
    (case u_z_isinstance => k_is)
    (case u_z_bool => k_is)
    (case u_z_range => k_is)
    (case u_z_list => k_is)
    (case u_z_tuple => k_is)
    (case u_z_sorted => k_is)
    (case u_z_enumerate => k_is)
    (case u_z_repr => k_is)
