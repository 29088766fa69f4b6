import PyProof.Rows.All
import Wide.All
import OpenK.AllK
import Wide.FinOn
import HandS.ForMost
import HandS.Style
import HandS.Wide
import HandS.NoneIn
import HandS.Walk
import HandS.ExcInit
import HandS.ExcValue
import HandS.ExcOwn
import HandS.IsInst
import KE.KExcIs
import HandS.TupAny
import HandS.Conv
import HandS.Sort
import HandS.Flow
import HandS.Codes
import KE.GoesEnum
import KE.KRevSl
import HandS.ExcField
import HandS.WordsExc
import PyProof.ReprLen
import HandS.Strs
import HandS.CallLocal
import HandS.Defaults
import HandS.Deep
import PySem.Challenge.RW_linkforests_k11_whole_joins_stay_possibl
set_option Elab.async false
set_option linter.all false
set_option maxRecDepth 100000
set_option maxHeartbeats 2000000
namespace Lf
open PySem PySem.Spec PyProof.Rows L2

/-! ### data that repr shows -/
def keyD : Key → PyData
  | .inl i => .int i
  | .inr x => .str x
mutual
inductive Rp (H : Hp) : V → PyData → Prop
  | non : Rp H .non .none
  | bl (b : Bool) : Rp H (.bl b) (.bool b)
  | int (i : Int) : Rp H (.int i) (.int i)
  | str (x : Str) : Rp H (.str x) (.str x)
  | lst {a : Addr} {xs : List V} {ds : List PyData} : H a = some (.lst xs) → RpAll H xs ds → Rp H (.ref a) (.list ds)
  | tup {a : Addr} {xs : List V} {ds : List PyData} : H a = some (.tup xs) → RpAll H xs ds → Rp H (.ref a) (.tuple ds)
  | ftp {a : Addr} {o : Obj} {xs : List V} {ds : List PyData} : H a = some (.frz o (.tup xs)) → RpAll H xs ds → Rp H (.ref a) (.tuple ds)
  | dct {a : Addr} {kvs : List (Key × V)} {es : List (PyData × PyData)} : H a = some (.dK kvs) → RpKv H kvs es → Rp H (.ref a) (.dict es)
inductive RpAll (H : Hp) : List V → List PyData → Prop
  | nil : RpAll H [] []
  | cons {v : V} {vs : List V} {d : PyData} {ds : List PyData} : Rp H v d → RpAll H vs ds → RpAll H (v :: vs) (d :: ds)
inductive RpKv (H : Hp) : List (Key × V) → List (PyData × PyData) → Prop
  | nil : RpKv H [] []
  | cons {k : Key} {v : V} {r : List (Key × V)} {d : PyData} {es : List (PyData × PyData)} : Rp H v d → RpKv H r es → RpKv H ((k, v) :: r) ((keyD k, d) :: es)
end

theorem reads_key {h : Heap} {k : Key} {v : Value} (e : keyIs k v = true) : Reads h v (keyD k) [] := by
  rcases keyIs_shape e with ⟨i, t, rfl, rfl⟩ | ⟨x, t, rfl, rfl⟩
  · exact Reads.int i t
  · exact Reads.str x t

section
variable {X : Cx} {pins : List (Addr × Obj)} {σ : L2.St} {H : Hp} {s : Shared}
theorem not_sys (I : Inv X pins σ H s) (hs : ∃ o, X.base.get? sysModules = some o) {a : Addr} {o : HO} (e : H a = some o) : sysModules ≠ a := by
  obtain ⟨o', h1⟩ := hs
  intro z
  have q := (I.bs _ _ h1).2
  rw [z, e] at q
  cases q
mutual
theorem Rp.reads (I : Inv X pins σ H s) (hs : ∃ o, X.base.get? sysModules = some o) : ∀ {v : V} {d : PyData}, Rp H v d → ∀ u, RelV v u → ∃ as, Reads s.heap u d as ∧ sysModules ∉ as
  | _, _, .non, u, r => by
    cases r
    exact ⟨[], Reads.none, List.not_mem_nil⟩
  | _, _, .bl b, u, r => by
    cases r
    exact ⟨[], Reads.bool b, List.not_mem_nil⟩
  | _, _, .int i, u, r => by
    obtain ⟨t, rfl⟩ := r
    exact ⟨[], Reads.int i t, List.not_mem_nil⟩
  | _, _, .str x, u, r => by
    obtain ⟨t, rfl⟩ := r
    exact ⟨[], Reads.str x t, List.not_mem_nil⟩
  | _, _, .lst (a := a) (xs := xs) e q, u, r => by
    cases r
    obtain ⟨_, its, n, rv, ho⟩ := (show ObjOk X.prog X.w H s.heap a (.lst xs) from I.hok a _ e)
    obtain ⟨as, h1, h2⟩ := RpAll.reads I hs q its rv
    refine ⟨a :: as, Reads.list ho rfl rfl h1, fun z => ?_⟩
    rcases List.mem_cons.mp z with z | z
    · exact not_sys I hs e z
    · exact h2 z
  | _, _, .tup (a := a) (xs := xs) e q, u, r => by
    cases r
    obtain ⟨_, its, rv, o, ho, hc, n, hd⟩ := (show ObjOk X.prog X.w H s.heap a (.tup xs) from I.hok a _ e)
    obtain ⟨as, h1, h2⟩ := RpAll.reads I hs q its rv
    exact ⟨as, Reads.tuple ho hc hd h1, h2⟩
  | _, _, .ftp (a := a) (o := ob) (xs := xs) e q, u, r => by
    cases r
    obtain ⟨_, _, its, rv, o, ho, hc, n, hd⟩ := (show ObjOk X.prog X.w H s.heap a (.frz ob (.tup xs)) from I.hok a _ e)
    obtain ⟨as, h1, h2⟩ := RpAll.reads I hs q its rv
    exact ⟨as, Reads.tuple ho hc hd h1, h2⟩
  | _, _, .dct (a := a) (kvs := kvs) e q, u, r => by
    cases r
    obtain ⟨_, _, vs, kv, o, es, ep, ho, hx, hd, hko, hp, _⟩ := (show ObjOk X.prog X.w H s.heap a (.dK kvs) from I.hok a _ e)
    obtain ⟨as, h1, h2, h3⟩ := RpKv.reads I hs q vs kv es.toList hp
    refine ⟨a :: [] ++ as, Reads.dict ho hx.1 hd h1 h2, fun z => ?_⟩
    rcases List.mem_cons.mp z with z | z
    · exact not_sys I hs e z
    · exact h3 z
theorem RpAll.reads (I : Inv X pins σ H s) (hs : ∃ o, X.base.get? sysModules = some o) : ∀ {vs : List V} {ds : List PyData}, RpAll H vs ds → ∀ us, Vals vs us → ∃ as, ReadsAll s.heap us ds as ∧ sysModules ∉ as
  | _, _, .nil, us, r => by
    cases r
    exact ⟨[], ReadsAll.nil, List.not_mem_nil⟩
  | _, _, .cons q1 q2, us, r => by
    cases r with
    | cons r1 r2 =>
      obtain ⟨as, h1, h2⟩ := Rp.reads I hs q1 _ r1
      obtain ⟨bs, h3, h4⟩ := RpAll.reads I hs q2 _ r2
      exact ⟨as ++ bs, ReadsAll.cons h1 h3, fun z => (List.mem_append.mp z).elim h2 h4⟩
theorem RpKv.reads (I : Inv X pins σ H s) (hs : ∃ o, X.base.get? sysModules = some o) : ∀ {kvs : List (Key × V)} {es : List (PyData × PyData)}, RpKv H kvs es → ∀ vs, KV kvs vs → ∀ ens, Pairs (mixKind X.prog X.w) ens vs →
    ∃ as, ReadsAll s.heap (ens.map (·.key)) (es.map (·.1)) [] ∧ ReadsAll s.heap (ens.map (·.val)) (es.map (·.2)) as ∧ sysModules ∉ as
  | _, _, .nil, vs, kv, ens, p => by
    cases kv
    cases p
    exact ⟨[], ReadsAll.nil, ReadsAll.nil, List.not_mem_nil⟩
  | _, _, .cons q1 q2, vs, kv, ens, p => by
    cases kv with
    | cons k1 k2 =>
      cases p with
      | cons p1 p2 p3 =>
        obtain ⟨e1, e2⟩ := k1
        rw [← p2] at e2
        obtain ⟨as, h1, h2⟩ := Rp.reads I hs q1 _ e2
        obtain ⟨bs, h3, h4, h5⟩ := RpKv.reads I hs q2 _ k2 _ p3
        refine ⟨as ++ bs, ReadsAll.cons (as := []) ?_ h3, ReadsAll.cons h1 h4, fun z => (List.mem_append.mp z).elim h2 h5⟩
        rw [← e1] at p1
        exact reads_key p1
end
end

/-! what stood stands: the same data reads the same -/
mutual
theorem Rp.mono {H H' : Hp} (k : ∀ b o, H b = some o → H' b = some o) : ∀ {v : V} {d : PyData}, Rp H v d → Rp H' v d
  | _, _, .non => .non
  | _, _, .bl b => .bl b
  | _, _, .int i => .int i
  | _, _, .str x => .str x
  | _, _, .lst e q => .lst (k _ _ e) (RpAll.mono k q)
  | _, _, .tup e q => .tup (k _ _ e) (RpAll.mono k q)
  | _, _, .ftp e q => .ftp (k _ _ e) (RpAll.mono k q)
  | _, _, .dct e q => .dct (k _ _ e) (RpKv.mono k q)
theorem RpAll.mono {H H' : Hp} (k : ∀ b o, H b = some o → H' b = some o) : ∀ {vs : List V} {ds : List PyData}, RpAll H vs ds → RpAll H' vs ds
  | _, _, .nil => .nil
  | _, _, .cons q1 q2 => .cons (Rp.mono k q1) (RpAll.mono k q2)
theorem RpKv.mono {H H' : Hp} (k : ∀ b o, H b = some o → H' b = some o) : ∀ {kvs : List (Key × V)} {es : List (PyData × PyData)}, RpKv H kvs es → RpKv H' kvs es
  | _, _, .nil => .nil
  | _, _, .cons q1 q2 => .cons (Rp.mono k q1) (RpKv.mono k q2)
end

section
variable {X : Cx}
/-- repr of a list or a tuple -/
theorem call_repr (hs : ∃ o, X.base.get? sysModules = some o) (hg : X.A.guards = some []) (hu : X.A.units + 200 < cLine) :
    CallR X (.builtin "repr") (fun xs H Q => ∃ (a : Addr) (d : PyData), xs = [.ref a] ∧ Rp H (.ref a) d ∧ d.showable = true ∧ d.depth ≤ 100 ∧ d.shown.length ≤ sizeLine ∧ Q (.str d.shown) H) := by
  intro pins s σ H xs us Q I r h
  obtain ⟨a, d, rfl, hr, h1, h2, h3, q⟩ := h
  obtain ⟨u, rfl, r1⟩ := vals1 r
  cases (show u = Value.ref a from r1)
  obtain ⟨as, rd, na⟩ := Rp.reads I hs hr _ rfl
  exact repr_of_reads' rd h1 (fun _ => na) hg (by omega) (fun _ _ e => e) (fun h' t tk k => ⟨.str d.shown, H, I.kept k, ⟨t, rfl⟩, q⟩) h3
end
end Lf
namespace Lf
open PySem PySem.Spec PyProof.Rows L2

/-! ### the law's own call: nothing is being shown around it (repr's guard is empty), the modules' table stands below all -/
/-- a promise of the def at f for a caller whose repr guard is empty -/
def RunG (P : Program) (w : World) (K : PySem.W.Frag) (mg : Str → Option Value) (base : Heap) (k : Nat) (f : Addr) (fd : FuncData) (ps : List Str) (sp : Sp) : Prop :=
  ∀ (A : Around) (outer : List Env) (s : Shared) (H : Hp) (args : Args) (us : List Value) (vs : List V) (Q : VK) (E : XK), A.guards = some [] →
    Room k A → Env0 P w K mg base A outer s H → BindsTo s fd args (ps.zip us) → Vals vs us → sp vs H Q E → codeAny (model P w) A (.call (.ref f) args) (CR CX0 outer P w H s Q E) s

theorem runG_of {P : Program} {w : World} {K : PySem.W.Frag} {mg : Str → Option Value} {base : Heap} {name qual : Str} {st : Stmt} {f : Addr} {fd : FuncData} {N ps : List Str} {k : Nat} {sp : Sp}
    (Fn : Fun K name qual st f fd) (Sc : FnScope N ps (defScope st)) (lens : ∀ vs H Q E, sp vs H Q E → vs.length = ps.length)
    (bd : ∀ (cdv : Value) (A : Around) (outer : List Env) (s : Shared) (H : Hp) (vs : List V) (Q : VK) (E : XK), A.guards = some [] → Room k (A.deeper (envOfC qual (defScope st) s.heap.objs.size f cdv)) → sp vs H Q E →
      ∃ t, PSs (cxOf CX0 P w K mg base N qual (defScope st) f cdv A outer s H E).nox (defBody st) t ∧ t { nx := fun _ H' => Q .non H', rt := Q } (start N vs) H) :
    RunG P w K mg base (k + 1) f fd ps sp := by
  obtain ⟨oc, od, kV, doc, pm, an, cdv, ct, osl, rfl, look, code⟩ := Fn.ex
  intro A outer s H args us vs Q E gu room env bind vals want
  have within : K.In s.heap := env.mod.kin.keeps fun b o z => (env.bs b o z).1
  have free : s.heap.NoLimit := env.mod.nolimit.keeps fun b o z => (env.bs b o z).1
  have kinds : ∀ y ∈ ps.zip us, (defScope st).names.lookup y.1 = some .local ∨ ((defScope st).names.lookup y.1 = some .cell ∧ ((cellsFrom (s.heap.objs.size + 1) (defScope st).names []).lookup y.1).isSome = true) := by
    rintro ⟨n, v⟩ mem
    exact (Sc.par n (List.of_mem_zip mem).1).imp id fun z => ⟨z, PySem.W.cellsFrom_some _ _ _ (.inl z)⟩
  apply codeAny_call_function room.depth (within _ _ look) rfl Sc.co Sc.gen rfl (PySem.W.codeRec_of within code)
  apply bind
  apply wpAny_newFunctionEnv_cells Sc.kind kinds
  rintro env' rfl s1 called
  refine ⟨free.keeps called.toInCall.keep, codeAny_func ?_⟩
  obtain ⟨t, walk, read⟩ := bd cdv A outer s H vs Q E gu (room.deeper _) want
  have inv : Inv (cxOf CX0 P w K mg base N qual (defScope st) f cdv A outer s H E) [] (start N vs) H s1 := inv_start Sc room.hd env (lens _ _ _ _ want) vals called
  refine wpAny_mono (walk.nox.run [] s1 (start N vs) H _ inv read) ?_ (fun _ _ z => z)
  rintro (_ | u | _ | _) s' got
  · obtain ⟨σ', H', J, q⟩ := got
    exact ⟨.non, H', J.os, J.bare, J.base, J.hok, rfl, q⟩
  all_goals first
    | (obtain ⟨v, σ', H', J, rv, q⟩ := got; exact ⟨v, H', J.os, J.bare, J.base, J.hok, rv, q⟩)
    | (obtain ⟨_, _, _, q⟩ := got; exact q.elim)

/-- from the law's promise to the goal that k_head leaves; F may use the loose names' values and the modules' table -/
theorem walk_g {l : PySem.W.OpenLaw} {n k : Nat} {q : Program} {loose : List Str} {XP : (Str → Option Value) → Heap → Prop} {YP : World → Heap → Prop} {d : DefRec} {K : Params → PySem.W.Frag} {sp : PySem.W.Frag → Sp} {x : Str}
    (most : l.most = some n) (fits : n ≤ sizeLine) (plain : d.params.defaults = []) (room : Room k callerA) (noimp : importsNone q = true)
    (hY : ∀ (w : World) (h : Heap), YP w h → (K w.params).In h)
    (F : ∀ (w : World) (mg : Str → Option Value) (fa : Addr) (h : Heap), (K w.params).In h → h.Ns mainGlobals mg → XP mg h → mg d.name = some (.ref fa) →
      ∃ fd : FuncData, (∀ (s : Shared) (u : Value), BindsTo s fd ⟨[u], []⟩ [(x, u)]) ∧
        ∀ base : Heap, (K w.params).In base → base.Ns mainGlobals mg → (∃ o, base.get? sysModules = some o) → RunG l.prog w (K w.params) mg base k fa fd [x] (sp (K w.params)))
    (hsp : ∀ (K : PySem.W.Frag) (H : Hp) (a : Addr) (ns : List Int), ns.length ≤ n → Only H → SqL K H a (ns.map V.int) → sp K [.ref a] H (fun v _ => v = .bl true) fun _ _ _ => False) :
    PySem.W.WalkO q loose XP YP l.row.toRowW d [] (fun f vs => PySem.call f vs) := by
  refine Att.attach_call most plain ?_
  intro w s₀ s₁ mg mb fa o pm cd doc a vs ns Gr Y _ _ _ named script areInts short gens
  have KX := hY w _ Y
  obtain ⟨fd, binds, FB⟩ := F w mg fa _ KX Gr.T.g Gr.X named
  obtain ⟨mm, hmm, _⟩ := (Gr.T.seer noimp).mods
  have pairs := vals_ints areInts
  have size := areInts.length
  have long : ns.length ≤ sizeLine := Nat.le_trans short fits
  -- whatever of the script is tracked
  have go : ∀ H : Hp, Only H → SqL (K w.params) H a (ns.map V.int) → HOk l.prog w H s₁.heap → (∀ b, H b ≠ none → b = a) → (H a ≠ none → (K w.params).lookup a = none) →
      codeAny (model l.prog w) callerA (.call (.ref fa) ⟨[.ref a], []⟩) (fun r s' => r = .ok (.ret (.bool true)) ∧ OldK s₁.heap s'.heap ∧ s'.os = s₁.os ∧ AllBare s'.gens) s₁ := by
    intro H only listed held lone off
    have low : ∀ {b : Addr} {m : Str → Option Value}, s₁.heap.Ns b m → (hidT s₁.heap H).Ns b m := by
      rintro b m ⟨ob, es, ep, z, dz, rz⟩
      refine ⟨ob, es, ep, hidT_get z ?_, dz, rz⟩
      cases hb : H b with
      | none => rfl
      | some u =>
        obtain rfl := lone b (by rw [hb]; exact fun z => nomatch z)
        rw [script] at z
        cases z
        cases dz
    have inb : (K w.params).In (hidT s₁.heap H) := by
      intro b ob z
      refine hidT_get (KX b ob z) ?_
      cases hb : H b with
      | none => rfl
      | some u =>
        obtain rfl := lone b (by rw [hb]; exact fun z => nomatch z)
        rw [off (by rw [hb]; exact fun z => nomatch z)] at z
        cases z
    have modu : Mod (K w.params) mg (hidT s₁.heap H) := by
      obtain ⟨mc, c1, c2⟩ := Gr.T.nolimit
      exact ⟨inb, low Gr.T.g, ⟨mb, low Gr.T.b, Gr.T.builtins⟩, ⟨mc, low c1, c2⟩⟩
    have e0 : Env0 l.prog w (K w.params) mg (hidT s₁.heap H) callerA [] s₁ H :=
      ⟨rfl, modu, fun b ob z => of_hidT z, Nat.le_of_eq (hidT_size _ _), trivial, (fun b z => nomatch z), held, AllBare.of_eq gens⟩
    have sys : ∃ ob, (hidT s₁.heap H).get? sysModules = some ob := by
      obtain ⟨ob, _, _, z, _⟩ := low hmm
      exact ⟨ob, z⟩
    have done := FB _ inb (low Gr.T.g) sys callerA [] s₁ H ⟨[.ref a], []⟩ [.ref a] [.ref a] _ _ rfl room e0 (binds s₁ (.ref a)) (.cons rfl .nil) (hsp _ H a ns short only listed)
    refine codeAny_mono done ?_
    intro r s' got
    cases r with
    | error er => exact False.elim got
    | ok fl =>
      cases fl with
      | next => exact False.elim got
      | brk => exact False.elim got
      | cont => exact False.elim got
      | ret u =>
        obtain ⟨v, H', hos, bare, un, held', rv, hv⟩ := got
        cases (show v = .bl true from hv)
        cases (show u = Value.bool true from rv)
        refine ⟨rfl, OldK.of_keep ?_, hos, bare⟩
        intro b ob z
        rcases only b with hb | ⟨o2, xs, hb⟩
        · exact un.keep b ob z hb (fun y => nomatch y) (fun y => nomatch y)
        · have z1 := (held b _ hb).1
          have z2 := (held' b _ (un.frzs b o2 _ hb)).1
          rw [z] at z1
          cases z1
          exact z2
  cases lk : (K w.params).lookup a with
  | none =>
    refine go (fun b => if b = a then some (.frz { cls := .type "list", data := .seq vs.toArray } (.lst (ns.map V.int))) else none) ?_ (.inl (.inr ⟨_, if_pos rfl⟩)) ?_ ?_ (fun _ => lk)
    · intro b
      by_cases hb : b = a
      · exact .inr ⟨_, _, if_pos hb⟩
      · exact .inl (if_neg hb)
    · intro b u z
      by_cases hb : b = a
      · subst hb
        have z := (if_pos rfl).symm.trans z
        cases z
        exact ⟨script, by rw [List.length_map]; exact long, vs, _, pairs, script⟩
      · have z := (if_neg hb).symm.trans z
        cases z
    · intro b z
      by_cases hb : b = a
      · exact hb
      · exact absurd (if_neg hb) z
  | some ob =>
    have z := KX a ob lk
    rw [script] at z
    cases z
    exact go (fun _ => none) (fun _ => .inl rfl) (.inr ⟨_, vs.toArray, _, lk, rfl, rfl, rfl, by rw [List.size_toArray, size]; exact long, by simpa using pairs⟩) (fun b u z => nomatch z) (fun b z => absurd rfl z) (fun z => absurd rfl z)
end Lf
/-! ### forests: plain mathematics -/
namespace Lf
/-- the parent of v -/
def par (fs : List Nat) (v : Nat) : Nat := fs.getD v 0
/-- k steps lead from v to a root, no fewer -/
inductive Rch (fs : List Nat) : Nat → Nat → Prop
  | root {v : Nat} : par fs v = v → Rch fs 0 v
  | step {k v : Nat} : par fs v ≠ v → Rch fs k (par fs v) → Rch fs (k + 1) v
/-- the way from v to its root -/
inductive Pth (fs : List Nat) : Nat → List Nat → Prop
  | root {v : Nat} : par fs v = v → Pth fs v [v]
  | step {v : Nat} {l : List Nat} : par fs v ≠ v → Pth fs (par fs v) l → Pth fs v (v :: l)
/-- v lies on the way of u -/
inductive Bel (fs : List Nat) (v : Nat) : Nat → Prop
  | refl : Bel fs v v
  | step {u : Nat} : par fs u ≠ u → Bel fs v (par fs u) → Bel fs v u
structure Forest (fs : List Nat) : Prop where
  pos : 0 < fs.length
  few : fs.length ≤ 24
  rng : ∀ v, v < fs.length → par fs v < fs.length
  rch : ∀ v, v < fs.length → ∃ k, Rch fs k v
theorem Rch.inj {fs : List Nat} {j k v : Nat} (a : Rch fs j v) (b : Rch fs k v) : j = k := by
  induction a generalizing k with
  | root h =>
    cases b with
    | root _ => rfl
    | step h' _ => exact absurd h h'
  | step h _ ih =>
    cases b with
    | root h' => exact absurd h' h
    | step _ r => rw [ih r]
theorem Bel.le {fs : List Nat} {v u j k : Nat} (b : Bel fs v u) (a : Rch fs j u) (c : Rch fs k v) : k ≤ j := by
  induction b generalizing j with
  | refl => rw [a.inj c]; exact Nat.le_refl _
  | step h _ ih =>
    cases a with
    | root h' => exact absurd h' h
    | step _ r => exact Nat.le_succ_of_le (ih r)
/-- nobody lies below himself -/
theorem Bel.no {fs : List Nat} {v : Nat} (f : ∃ k, Rch fs k v) (h : par fs v ≠ v) : ¬ Bel fs v (par fs v) := fun b => by
  obtain ⟨k, r⟩ := f
  cases r with
  | root h' => exact h h'
  | step _ r' =>
    have := b.le r' (.step h r')
    omega
theorem Pth.of {fs : List Nat} {k v : Nat} (a : Rch fs k v) : ∃ l, Pth fs v l ∧ l.length = k + 1 := by
  induction a with
  | root h => exact ⟨_, .root h, rfl⟩
  | step h _ ih =>
    obtain ⟨l, h1, h2⟩ := ih
    exact ⟨_, .step h h1, by rw [List.length_cons, h2]⟩
theorem Pth.inj {fs : List Nat} {v : Nat} {l m : List Nat} (a : Pth fs v l) (b : Pth fs v m) : l = m := by
  induction a generalizing m with
  | root h =>
    cases b with
    | root _ => rfl
    | step h' _ => exact absurd h h'
  | step h _ ih =>
    cases b with
    | root h' => exact absurd h' h
    | step _ r => rw [ih r]
theorem Pth.bel {fs : List Nat} {u : Nat} {l : List Nat} (a : Pth fs u l) (v : Nat) : v ∈ l ↔ Bel fs v u := by
  induction a with
  | root h =>
    refine ⟨fun z => ?_, fun z => ?_⟩
    · rw [List.mem_singleton.mp z]
      exact .refl
    · cases z with
      | refl => exact List.mem_singleton.mpr rfl
      | step h' _ => exact absurd h h'
  | step h _ ih =>
    refine ⟨fun z => ?_, fun z => ?_⟩
    · rcases List.mem_cons.mp z with z | z
      · rw [z]
        exact .refl
      · exact .step h (ih.mp z)
    · cases z with
      | refl => exact List.mem_cons_self
      | step _ b => exact List.mem_cons_of_mem _ (ih.mpr b)
theorem Bel.lt {fs : List Nat} (rng : ∀ v, v < fs.length → par fs v < fs.length) {v u : Nat} (b : Bel fs v u) (h : u < fs.length) : v < fs.length := by
  induction b with
  | refl => exact h
  | step _ _ ih => exact ih (rng _ h)
theorem Pth.nodup {fs : List Nat} (rch : ∀ v, v < fs.length → ∃ k, Rch fs k v) (rng : ∀ v, v < fs.length → par fs v < fs.length) {u : Nat} {l : List Nat} (a : Pth fs u l) (h : u < fs.length) : l.Nodup := by
  induction a with
  | root _ => exact List.nodup_cons.mpr ⟨List.not_mem_nil, List.nodup_nil⟩
  | step hn p ih => exact List.nodup_cons.mpr ⟨fun z => Bel.no (rch _ h) hn ((p.bel _).mp z), ih (rng _ h)⟩
/-- a list without repetition of numbers below n has at most n items -/
theorem nodup_le : ∀ {n : Nat} {l : List Nat}, l.Nodup → (∀ x ∈ l, x < n) → l.length ≤ n
  | 0, [], _, _ => Nat.le_refl _
  | 0, x :: _, _, hb => absurd (hb x List.mem_cons_self) (Nat.not_lt_zero _)
  | n + 1, l, h, hb => by
    by_cases hn : n ∈ l
    · have h2 := List.length_erase_of_mem hn
      have h3 : (l.erase n).length ≤ n := nodup_le (h.erase n) fun x hx => by
        have h4 := (List.Nodup.mem_erase_iff h).mp hx
        have := hb x h4.2
        have := h4.1
        omega
      have h5 : 0 < l.length := List.length_pos_of_mem hn
      omega
    · refine Nat.le_succ_of_le (nodup_le h fun x hx => ?_)
      have := hb x hx
      have : x ≠ n := fun e => hn (e ▸ hx)
      omega
theorem Forest.path {fs : List Nat} (F : Forest fs) {v : Nat} (h : v < fs.length) : ∃ l, Pth fs v l ∧ l.Nodup ∧ l.length ≤ fs.length ∧ (∀ x ∈ l, x < fs.length) ∧ Rch fs (l.length - 1) v ∧ 0 < l.length := by
  obtain ⟨k, r⟩ := F.rch v h
  obtain ⟨l, p, e⟩ := Pth.of r
  have nd := p.nodup F.rch F.rng h
  have lt : ∀ x ∈ l, x < fs.length := fun x hx => ((p.bel x).mp hx).lt F.rng h
  refine ⟨l, p, nd, nodup_le nd lt, lt, ?_, by omega⟩
  rw [e]
  exact r
/-! new forests of old ones -/
theorem par_set {fs : List Nat} {a b v : Nat} (h : a < fs.length) : par (fs.set a b) v = if v = a then b else par fs v := by
  unfold par
  rw [List.getD_eq_getElem?_getD, List.getD_eq_getElem?_getD, List.getElem?_set]
  by_cases e : a = v
  · subst e
    rw [if_pos rfl, if_pos rfl, if_pos h]
    rfl
  · rw [if_neg e, if_neg (fun z => e z.symm)]
/-- reaching a root, without a count -/
def Up (fs : List Nat) (v : Nat) : Prop := ∃ k, Rch fs k v
theorem Up.root {fs : List Nat} {v : Nat} (h : par fs v = v) : Up fs v := ⟨0, .root h⟩
theorem Up.step {fs : List Nat} {v : Nat} (h : Up fs (par fs v)) : Up fs v := by
  obtain ⟨k, r⟩ := h
  by_cases e : par fs v = v
  · exact .root e
  · exact ⟨k + 1, .step e r⟩
/-- v is put below w, on whose way it does not lie -/
theorem Forest.moved {fs : List Nat} (F : Forest fs) {v w : Nat} (hv : v < fs.length) (hw : w < fs.length) (nb : ¬ Bel fs v w) : Forest (fs.set v w) := by
  have key : ∀ {k u : Nat}, Rch fs k u → ¬ Bel fs v u → Up (fs.set v w) u := by
    intro k u r
    induction r with
    | root h =>
      rename_i u
      intro z
      have ne : ¬ u = v := fun e => z (e ▸ .refl)
      exact .root (by rw [par_set hv, if_neg ne]; exact h)
    | step h r ih =>
      rename_i k u
      intro z
      have ne : ¬ u = v := fun e => z (e ▸ .refl)
      refine .step ?_
      rw [par_set hv, if_neg ne]
      exact ih fun b => z (.step h b)
  obtain ⟨kw, rw'⟩ := F.rch w hw
  have upw := key rw' nb
  refine ⟨by rw [List.length_set]; exact F.pos, by rw [List.length_set]; exact F.few, fun u hu => ?_, fun u hu => ?_⟩
  · rw [List.length_set] at hu ⊢
    rw [par_set hv]
    by_cases e : u = v
    · rw [if_pos e]
      exact hw
    · rw [if_neg e]
      exact F.rng u hu
  · rw [List.length_set] at hu
    obtain ⟨k, r⟩ := F.rch u hu
    clear hu
    show Up _ _
    induction r with
    | root h =>
      rename_i u
      by_cases e : u = v
      · refine .step ?_
        rw [par_set hv, if_pos e]
        exact upw
      · exact .root (by rw [par_set hv, if_neg e]; exact h)
    | step h _ ih =>
      rename_i k u _
      by_cases e : u = v
      · refine .step ?_
        rw [par_set hv, if_pos e]
        exact upw
      · refine .step ?_
        rw [par_set hv, if_neg e]
        exact ih
theorem par_range {n v : Nat} (h : v < n) : par (List.range n) v = v := by
  unfold par
  rw [List.getD_eq_getElem?_getD, List.getElem?_range h]
  rfl
theorem Forest.range {n : Nat} (h0 : 0 < n) (h1 : n ≤ 24) : Forest (List.range n) := by
  refine ⟨by rw [List.length_range]; exact h0, by rw [List.length_range]; exact h1, fun v hv => ?_, fun v hv => ?_⟩
  · rw [List.length_range] at hv
    rw [par_range hv, List.length_range]
    exact hv
  · rw [List.length_range] at hv
    exact Up.root (par_range hv)
def tops (fs : List Nat) : List Nat := (List.range fs.length).filter fun v => decide (par fs v = v)
theorem mem_tops {fs : List Nat} {v : Nat} : v ∈ tops fs ↔ v < fs.length ∧ par fs v = v := by
  unfold tops
  rw [List.mem_filter, List.mem_range, decide_eq_true_iff]
theorem tops_nodup (fs : List Nat) : (tops fs).Nodup := List.Pairwise.filter _ List.nodup_range
/-- one root below another: one root fewer -/
theorem tops_moved {fs : List Nat} {a b : Nat} (ha : a ∈ tops fs) (hb : b ∈ tops fs) (ne : a ≠ b) : (tops (fs.set a b)).length + 1 = (tops fs).length := by
  have h1 := mem_tops.mp ha
  have e : tops (fs.set a b) = (tops fs).filter fun v => decide (v ≠ a) := by
    unfold tops
    rw [List.length_set, List.filter_filter]
    refine List.filter_congr fun v hv => ?_
    rw [par_set h1.1]
    by_cases z : v = a
    · subst z
      rw [if_pos rfl]
      simp [Ne.symm ne]
    · rw [if_neg z]
      simp [z]
  have e2 : (tops fs).filter (fun v => decide (v ≠ a)) = (tops fs).erase a := by
    rw [List.Nodup.erase_eq_filter (tops_nodup fs)]
    refine List.filter_congr fun v _ => ?_
    by_cases z : v = a <;> simp [z]
  rw [e, e2, List.length_erase_of_mem ha]
  have := List.length_pos_of_mem ha
  omega
end Lf
namespace Lf
/-! ### all that lies below v, found from children to children -/
def kids (fs : List Nat) (y : Nat) : List Nat := (List.range fs.length).filter fun u => decide (par fs u = y) && decide (u ≠ par fs u)
theorem mem_kids {fs : List Nat} {y u : Nat} : u ∈ kids fs y ↔ u < fs.length ∧ par fs u = y ∧ u ≠ par fs u := by
  unfold kids
  rw [List.mem_filter, List.mem_range, Bool.and_eq_true_iff, decide_eq_true_iff, decide_eq_true_iff]
structure Bfs (fs : List Nat) (v : Nat) (ins : List Nat) (c : Nat) : Prop where
  nd : ins.Nodup
  bel : ∀ u ∈ ins, u < fs.length ∧ Bel fs v u
  top : v ∈ ins
  cnt : c ≤ ins.length
  cls : ∀ j u, j < c → ins[j]? = some (par fs u) → u < fs.length → par fs u ≠ u → u ∈ ins
  org : ∀ u ∈ ins, u = v ∨ (par fs u ≠ u ∧ ∃ j, j < c ∧ ins[j]? = some (par fs u))
theorem Bfs.start {fs : List Nat} {v : Nat} (h : v < fs.length) : Bfs fs v [v] 0 :=
  ⟨List.nodup_cons.mpr ⟨List.not_mem_nil, List.nodup_nil⟩, fun u hu => by rw [List.mem_singleton.mp hu]; exact ⟨h, .refl⟩, List.mem_singleton.mpr rfl, Nat.zero_le _, fun j u hj => absurd hj (Nat.not_lt_zero _), fun u hu => .inl (List.mem_singleton.mp hu)⟩
theorem Bfs.le {fs : List Nat} {v c : Nat} {ins : List Nat} (B : Bfs fs v ins c) : ins.length ≤ fs.length := nodup_le B.nd fun u hu => (B.bel u hu).1
theorem Bfs.next {fs : List Nat} (rch : ∀ v, v < fs.length → ∃ k, Rch fs k v) {v c y : Nat} {ins : List Nat} (B : Bfs fs v ins c) (hy : ins[c]? = some y) : Bfs fs v (ins ++ kids fs y) (c + 1) := by
  have hc : c < ins.length := by
    rcases Nat.lt_or_ge c ins.length with z | z
    · exact z
    · rw [List.getElem?_eq_none z] at hy
      cases hy
  have ym : y ∈ ins := List.mem_of_getElem? hy
  have yb := B.bel y ym
  refine ⟨?_, ?_, ?_, ?_, ?_, ?_⟩
  · refine List.nodup_append.mpr ⟨B.nd, List.Pairwise.filter _ List.nodup_range, ?_⟩
    intro u hu w hw e
    subst e
    obtain ⟨k1, k2, k3⟩ := mem_kids.mp hw
    rcases B.org u hu with z | ⟨_, j, hj, ej⟩
    · subst z
      exact Bel.no (rch _ k1) (Ne.symm k3) (k2 ▸ yb.2)
    · rw [k2] at ej
      have e2 : j = c := (List.getElem?_inj (Nat.lt_trans hj hc) B.nd).mp (ej.trans hy.symm)
      omega
  · intro u hu
    rcases List.mem_append.mp hu with z | z
    · exact B.bel u z
    · obtain ⟨k1, k2, k3⟩ := mem_kids.mp z
      exact ⟨k1, .step (Ne.symm k3) (k2 ▸ yb.2)⟩
  · exact List.mem_append_left _ B.top
  · rw [List.length_append]
    omega
  · intro j u hj ej hu hn
    by_cases z : j < c
    · rw [List.getElem?_append_left (by omega)] at ej
      exact List.mem_append_left _ (B.cls j u z ej hu hn)
    · have z2 : j = c := by omega
      subst z2
      rw [List.getElem?_append_left hc, hy] at ej
      exact List.mem_append_right _ (mem_kids.mpr ⟨hu, (Option.some.inj ej).symm, Ne.symm hn⟩)
  · intro u hu
    rcases List.mem_append.mp hu with z | z
    · rcases B.org u z with z | ⟨h1, j, hj, ej⟩
      · exact .inl z
      · exact .inr ⟨h1, j, by omega, by rw [List.getElem?_append_left (by omega)]; exact ej⟩
    · obtain ⟨k1, k2, k3⟩ := mem_kids.mp z
      exact .inr ⟨Ne.symm k3, c, Nat.lt_succ_self _, by rw [List.getElem?_append_left hc, hy, k2]⟩
theorem Bfs.done {fs : List Nat} (rng : ∀ v, v < fs.length → par fs v < fs.length) {v : Nat} {ins : List Nat} (B : Bfs fs v ins ins.length) (u : Nat) : u ∈ ins ↔ u < fs.length ∧ Bel fs v u := by
  refine ⟨B.bel u, fun hh => ?_⟩
  obtain ⟨h, b⟩ := hh
  induction b with
  | refl => exact B.top
  | step hn _ ih =>
    obtain ⟨j, hj, ej⟩ := List.getElem_of_mem (ih (rng _ h))
    exact B.cls j _ hj (by rw [List.getElem?_eq_getElem hj, ej]) h hn
end Lf
namespace Lf
open PySem PySem.Spec PyProof.Rows L2
/-! ### rules -/
/-- a list or a tuple -/
def SqQ (K : PySem.W.Frag) (H : Hp) (p : Addr) (xs : List V) : Prop := SqL K H p xs ∨ SqT K H p xs
theorem same_seqT {K : PySem.W.Frag} {H H' : Hp} {a : Addr} {xs : List V} (e : Same H H') (h : SqT K H a xs) : SqT K H' a xs := by
  rcases h with (h | ⟨o, h⟩) | h
  · exact .inl (.inl (e _ _ h))
  · exact .inl (.inr ⟨o, e _ _ h⟩)
  · exact .inr h
theorem SqQ.same {K : PySem.W.Frag} {H H' : Hp} {p : Addr} {xs : List V} (s : Same H H') : SqQ K H p xs → SqQ K H' p xs
  | .inl h => .inl (s.seq h)
  | .inr h => .inr (same_seqT s h)
def rIxQ (K : PySem.W.Frag) : R2 := fun x y H Q => ∃ (p : Addr) (xs : List V) (i : Int) (v : V), x = .ref p ∧ y = .int i ∧ SqQ K H p xs ∧ atI xs i = some v ∧ Q v H
section
variable {X : Cx}
theorem ix_q : IxR X (rIxQ X.K) := by
  intro value slice pins s σ H x y v u Q I rx ry q hs
  obtain ⟨p, xs, i, z, h1, h2, h3, h4, h5⟩ := q
  rcases h3 with h3 | h3
  · exact ix_list value slice pins s σ H x y v u Q I rx ry ⟨p, xs, i, z, h1, h2, h3, h4, h5⟩ hs
  · exact ix_tup value slice pins s σ H x y v u Q I rx ry ⟨p, xs, i, z, h1, h2, h3, h4, h5⟩ hs
end
/-! ### xs[::k], k one or minus one -/
def tStepL (K : PySem.W.Frag) (te ts : TE) : TE := fun σ H Q => te σ H fun x H1 => ts σ H1 fun y H2 => ∃ (a : Addr) (xs : List V) (k : Int), x = .ref a ∧ y = .int k ∧ SqL K H2 a xs ∧ (k = 1 ∨ k = -1) ∧ ∀ p, H2 p = none → ∀ zs, (zs = xs ∨ zs = xs.reverse) → Q (.ref p) (upd H2 p (.lst zs))
theorem pick_one (its : Array Value) : slicePick its none none (some 1) = its := slicePick_all its
section
variable {X : Cx} {e st : Expr} {te ts : TE} {p3 pos : Pos}
theorem pe_stepL (he : PE X e te) (hst : PE X st ts) (tl : ∀ (a b : Addr), subscripted (.Slice none none (some st) p3) false (.ref a) (.ref b) = operate [.ref a, .ref b] (getItem (.ref a) (.ref b)) := by intros; with_unfolding_all rfl) :
    PE X (.Subscript e (.Slice none none (some st) p3) pos) (tStepL X.K te ts) := by
  refine ⟨fun pins s σ H Q I h => ?_⟩
  refine Subscript_ (thn (he.run pins s σ H _ I h) ?_)
  rintro v s1 ⟨x, H1, I1, r1, q1⟩
  refine wpAny_Slice (thn (po_none.run pins s1 σ H1 (fun o G => o = none ∧ G = H1) I1 ⟨rfl, rfl⟩) ?_)
  rintro vl s2 ⟨ol, G2, I2, pl, rfl, rfl⟩
  refine thn (po_none.run pins s2 σ G2 (fun o G => o = none ∧ G = G2) I2 ⟨rfl, rfl⟩) ?_
  rintro vu s3 ⟨ou, G3, I3, pu, rfl, rfl⟩
  rw [evalPart_some]
  refine thn (hst.run pins s3 σ G3 _ I3 q1) ?_
  rintro vs s4 ⟨y, H4, I4, ry, a, xs, k, rfl, rfl, hx, hk, q⟩
  cases (show v = Value.ref a from r1)
  obtain ⟨tk, rfl⟩ := ry
  have I5 : Inv X pins σ H4 { s4 with heap := s4.heap.push { cls := .type "slice", data := .fields #[vl, vu, .int k tk] } } := I4.kept (t' := s4.toks) fun b ob z => Heap.get?_push_of_some _ z
  obtain ⟨its, rv, plain, small⟩ := I5.list hx
  have same := rv.length
  show wpAny (model X.prog X.w) X.A (subscriptTail e (.Slice none none (some st) p3) (.ref a) (.ref s4.heap.objs.size)) (EP X pins σ Q) X.xe { s4 with heap := s4.heap.push { cls := .type "slice", data := .fields #[vl, vu, .int k tk] } }
  refine tail_any (ops := [.ref a, .ref s4.heap.objs.size]) plain.isList.typeIs (PySem.slot_list_getitem.lookup) ?_ (tl a _)
  rcases hk with rfl | rfl
  · refine wpAny_getItem_list_slice plain.isList (Heap.IsSliceOf.new _ vl vu _) pl pu (IsPart.int 1 tk) (by decide) ?_ (by rw [List.size_toArray]; omega)
    rw [pick_one]
    refine ⟨.ref _, _, I5.laid (t' := s4.toks) (o := .lst xs) (fun b ob z => Heap.get?_push_of_some _ z) (Nat.le_refl _) ?_, rfl, q _ (I5.hok.fresh (Nat.le_refl _)) xs (.inl rfl)⟩
    exact ⟨small, its, 0, rv, Heap.get?_push_size _ rfl⟩
  · refine wpAny_getItem_list_slice plain.isList (Heap.IsSliceOf.new _ vl vu _) pl pu (IsPart.int (-1) tk) (by decide) ?_ (by rw [List.size_toArray]; omega)
    rw [PySem.W.krv_pick]
    refine ⟨.ref _, _, I5.laid (t' := s4.toks) (o := .lst xs.reverse) (fun b ob z => Heap.get?_push_of_some _ z) (Nat.le_refl _) ?_, rfl, q _ (I5.hok.fresh (Nat.le_refl _)) xs.reverse (.inr rfl)⟩
    exact ⟨by rw [List.length_reverse]; exact small, _, 0, rv.reverse, Heap.get?_push_size _ rfl⟩
end
/-- numbers as values -/
def nv (l : List Nat) : List V := l.map fun x => V.int (x : Nat)
theorem nv_length (l : List Nat) : (nv l).length = l.length := List.length_map ..
theorem nv_get {l : List Nat} {i : Nat} (h : i < l.length) : (nv l)[i]? = some (.int ((l.getD i 0 : Nat) : Int)) := by
  unfold nv
  rw [List.getElem?_map, List.getD_eq_getElem?_getD, List.getElem?_eq_getElem h]
  rfl
theorem nv_some {l : List Nat} {i : Nat} {v : V} (h : (nv l)[i]? = some v) : i < l.length ∧ v = .int ((l.getD i 0 : Nat) : Int) := by
  have hi : i < l.length := by
    rcases Nat.lt_or_ge i l.length with z | z
    · exact z
    · rw [List.getElem?_eq_none (by rw [nv_length]; exact z)] at h
      cases h
  rw [nv_get hi] at h
  exact ⟨hi, (Option.some.inj h).symm⟩
theorem nv_append (l m : List Nat) : nv (l ++ m) = nv l ++ nv m := List.map_append ..
theorem dpNv {K : PySem.W.Frag} {H : Hp} : ∀ l : List Nat, DpAll K H (nv l) ((l.map fun x => ((x : Nat) : Int)).map PyData.int)
  | [] => .nil
  | x :: l => .cons (.int _) (dpNv l)
end Lf
namespace Lf
open PySem PySem.Spec PyProof.Rows L2
/-! ### the drawing well: a list of great numbers at l and a state below 2 ^ 64, both in the list at w -/
def Well (w l : Addr) (H : Hp) : Prop := w ≠ l ∧ ∃ (xs : List Int) (st : Int), H w = some (.lst [.ref l, .int st]) ∧ H l = some (.lst (xs.map V.int)) ∧ xs.length ≤ 63 ∧ 0 ≤ st ∧ st < 18446744073709551616
def Keep (w l : Addr) (H H' : Hp) : Prop := ∀ b o, b ≠ w → b ≠ l → H b = some o → H' b = some o
theorem Keep.refl {w l : Addr} {H : Hp} : Keep w l H H := fun _ _ _ _ h => h
theorem Keep.trans {w l : Addr} {H H1 H2 : Hp} (a : Keep w l H H1) (b : Keep w l H1 H2) : Keep w l H H2 := fun c o h1 h2 h => b c o h1 h2 (a c o h1 h2 h)
theorem Keep.of {w l : Addr} {H H1 : Hp} (a : Same H H1) : Keep w l H H1 := fun c o _ _ h => a c o h
theorem same_new {H : Hp} {p : Addr} {o : HO} (h : H p = none) : Same H (upd H p o) := fun b u e => by
  rw [upd_ne (ne_of_none e h)]
  exact e
theorem Well.same {w l : Addr} {H H' : Hp} (a : Well w l H) (s : Same H H') : Well w l H' := by
  obtain ⟨n, xs, st, h1, h2, h3⟩ := a
  exact ⟨n, xs, st, s _ _ h1, s _ _ h2, h3⟩

theorem dpInts {K : PySem.W.Frag} {H : Hp} : ∀ xs : List Int, DpAll K H (xs.map V.int) (xs.map PyData.int)
  | [] => .nil
  | x :: xs => .cons (.int x) (dpInts xs)
theorem layInts : ∀ xs : List Int, PyData.canLayAll0 (xs.map PyData.int) = true
  | [] => rfl
  | x :: xs => by
    show (PyData.canLay0 (.int x) && PyData.canLayAll0 (xs.map PyData.int)) = true
    rw [layInts xs]
    rfl
theorem deepInts : ∀ xs : List Int, PyData.depthAll (xs.map PyData.int) = 0
  | [] => rfl
  | x :: xs => by
    show max (PyData.depth (.int x)) (PyData.depthAll (xs.map PyData.int)) = 0
    rw [deepInts xs]
    rfl
theorem shInts (xs : List Int) : SeqAt.shaped (.list (xs.map PyData.int)) = true := by
  show (PyData.canLayAll0 (xs.map PyData.int) && decide (PyData.depthAll (xs.map PyData.int) + 1 ≤ 64)) = true
  rw [layInts, deepInts]
  rfl
theorem get_last {α : Type} (ys : List α) (y : α) : (ys ++ [y])[(ys ++ [y]).length - 1]? = some y := by
  rw [List.length_append]
  show (ys ++ [y])[ys.length]? = some y
  simp

theorem nil_or_snoc {α : Type} (xs : List α) : xs = [] ∨ ∃ ys y, xs = ys ++ [y] := by
  rcases List.eq_nil_or_concat xs with h | ⟨ys, y, h⟩
  · exact .inl h
  · exact .inr ⟨ys, y, by rw [h, List.concat_eq_append]⟩

def spWell (K : PySem.W.Frag) : Sp := fun vs H Q _ => ∃ (a : Addr) (ns : List Int), vs = [.ref a] ∧ SqL K H a (ns.map V.int) ∧ ns.length ≤ 63 ∧
  ∀ H' w l, Same H H' → Well w l H' → H w = none → H l = none → Q (.ref w) H'
def spPull : Sp := fun vs H Q _ => ∃ (w l : Addr) (many : Int), vs = [.ref w, .int many] ∧ Well w l H ∧ 0 < many ∧ many < 1073741824 ∧
  ∀ r H', 0 ≤ r → r < many → Well w l H' → Keep w l H H' → Q (.int r) H'
def spItem : Sp := fun vs H Q _ => ∃ (w l p : Addr) (xs : List V), vs = [.ref w, .ref p] ∧ Well w l H ∧ H p = some (.lst xs) ∧ p ≠ w ∧ p ≠ l ∧ xs ≠ [] ∧ xs.length < 1073741824 ∧
  ∀ v H', v ∈ xs → Well w l H' → Keep w l H H' → Q v H'

end Lf
namespace Lf
open PySem PySem.Spec PyProof.Rows L2
def topS (i : Nat) : Stmt := PySem.Challenge.pw_linkforests_k11_whole_joins_stay_possibl.main.body.getD i (.Pass ⟨0, 0, 0, 0⟩)
abbrev sWell : Stmt := topS (32)
abbrev sPull : Stmt := topS (33)
abbrev sItem : Stmt := topS (34)
abbrev sMixed : Stmt := topS (35)
abbrev sTops : Stmt := topS (36)
abbrev sHeft : Stmt := topS (37)
abbrev sGrown : Stmt := topS (38)
section
variable {P : Program} {w : World} {K : PySem.W.Frag} {mg : Str → Option Value} {base : Heap}
theorem scWell : FnScope ["_law_script", "_law_state", "_law_cell"] ["_law_script"] (defScope sWell) := ⟨rfl, rfl, rfl, by decide +kernel, rfl, by decide +kernel, by decide +kernel⟩
theorem ok_well {f : Addr} {fd : FuncData} (F : Fun K "_law_well" "_law_well" sWell f fd) (ml : mg "len" = none) (ma : mg "abs" = none) (mi : mg "int" = none) : FnOk P w K mg base CX0 1 f fd ["_law_script"] (spWell K) := by
  refine F.ok scWell (fun vs H Q E h => ?_) (fun cdv A outer s H vs Q E hr h => ?_)
  · obtain ⟨a, ns, rfl, _⟩ := h
    rfl
  · obtain ⟨a, ns, rfl, hS, hlen, q⟩ := h
    refine ⟨_, pss_cons (ps_set (i := 1) scWell.nd rfl (.inl rfl) (pe_op op_add pe_int (pe_op op_mul pe_int (pe_callB call_len_seq (by rfl) ml PySem.boot_len (pa_cons (pv 0) pa_nil)))))
      (pss_cons (ps_for PassesOwn.never rfl (pi_list (pv 0)) (pg_name (i := 2) scWell.nd rfl (.inl rfl)) (pss_one (ps_set (i := 1) scWell.nd rfl (.inl rfl)
        (pe_op op_mod (pe_op op_add (pe_op op_add (pe_op op_add (pe_op op_mul (pv 1) pe_int) (pe_op op_mul pe_int (pe_callB call_abs (by rfl) ma (by decide +kernel) (pa_cons (pv 2) pa_nil))))
          (pe_callTy call_int1 (by rfl) mi (by decide +kernel) (pa_cons (pe_cmpR op_lt (pv 2) pe_int (nomark _)) pa_nil))) pe_int) (pe_op op_pow pe_int pe_int)))))
      (pss_one (ps_ret (pe_lst (pa_cons (pe_revL (pe_lc (own := [("_law_cell", 2)]) (g := gName 2) (by rfl) scWell.nd (pi_list (pv 0)) (blkOk_by (own := [("_law_cell", 2)]) (N := ["_law_script", "_law_state", "_law_cell"]) (sc := defScope sWell) (by decide +kernel))
        (fun _ _ _ _ _ => pg_name (i := 2) scWell.nd rfl (Or.inl rfl)) (fun _ _ _ _ _ => pts_one (pt_cmpR op_ge (pe_callB call_abs (by rfl) ma (by decide +kernel) (pa_cons (pv 2) pa_nil)) (pe_op op_pow pe_int pe_int) (nomark _)))
        (fun _ _ _ _ _ => pe_callB call_abs (by rfl) ma (by decide +kernel) (pa_cons (pv 2) pa_nil)))) (pa_cons (pv 1) pa_nil)))))), ?_⟩
    refine ⟨.ref a, rfl, a, _, rfl, .inl hS, 977, _, rfl, rfl, .inl ⟨by decide, by decide⟩, _, _, rfl, rfl, ?_⟩
    refine ⟨.ref a, rfl, a, rfl, ⟨_, hS⟩, for_list (K := K) (a := a) (xs := ns.map V.int) (fun i σ H' => H' = H ∧ ∃ (st : Int) (c : Option V), σ = [some (.ref a), some (.int st), c] ∧ 0 ≤ st ∧ st < 18446744073709551616)
      ⟨rfl, _, none, rfl, by omega, by rw [List.length_map]; omega⟩ (fun i σ H' _ p => p.1 ▸ hS) ?_ ?_⟩
    · rintro i y σ H' hi ⟨rfl, st, c, rfl, h0, h1⟩
      obtain ⟨z, hz, rfl⟩ : ∃ z, ns[i]? = some z ∧ y = V.int z := by
        rw [List.getElem?_map] at hi
        cases e : ns[i]? with
        | none =>
          rw [e] at hi
          cases hi
        | some z =>
          rw [e] at hi
          exact ⟨z, rfl, (Option.some.inj hi).symm⟩
      refine ⟨.int st, rfl, st, _, rfl, rfl, .inl ⟨by omega, by omega⟩, .int z, rfl, z, rfl, 2, _, rfl, rfl, .inl ⟨by decide, by decide⟩, _, _, rfl, rfl, .int z, rfl, z, 0, rfl, rfl, .inr ⟨_, rfl, _, _, rfl, rfl, _, _, rfl, rfl, 2, 64, rfl, rfl, ⟨by decide, by decide, by decide⟩, _, _, rfl, rfl, (by show (0 : Int) < 2 ^ 64; decide), ?_⟩⟩
      refine ⟨rfl, _, _, rfl, Int.emod_nonneg _ (by decide), Int.emod_lt_of_pos _ (by decide)⟩
    · rintro σ H' ⟨rfl, st, c, rfl, h0, h1⟩
      refine ⟨.ref a, rfl, a, rfl, ⟨_, hS⟩, fun D nD => lc_list (K := K) (a := a) (xs := ns.map V.int) (fun i H2 => Same H' H2 ∧ ∃ ms : List Int, H2 D = some (.lst (ms.map V.int)) ∧ ms.length ≤ i) ⟨same_new nD, [], upd_same, Nat.le_refl _⟩ (fun i H2 _ p => p.1.seq hS) ?_ ?_⟩
      · rintro i y H2 hi ⟨sm, ms, hD, hm⟩
        have hin : i < (ns.map V.int).length := by
          rcases Nat.lt_or_ge i (ns.map V.int).length with z | z
          · exact z
          · rw [List.getElem?_eq_none z] at hi
            cases hi
        rw [List.length_map] at hin
        obtain ⟨z, hz, rfl⟩ : ∃ z, ns[i]? = some z ∧ y = V.int z := by
          rw [List.getElem?_map] at hi
          cases e : ns[i]? with
          | none =>
            rw [e] at hi
            cases hi
          | some z =>
            rw [e] at hi
            exact ⟨z, rfl, (Option.some.inj hi).symm⟩
        refine ⟨rfl, .int z, rfl, z, rfl, 10, 18, rfl, rfl, ⟨by decide, by decide, by decide⟩, _, _, rfl, rfl, _, rfl, ite2 (fun _ => ?_) (fun _ => ?_)⟩
        · refine ⟨.int z, rfl, z, rfl, _, hD, ?_, fun b o e => ?_, ms ++ [if z < 0 then -z else z], ?_, ?_⟩
          · rw [List.length_map]
            exact small1000 (by omega)
          · rw [upd_ne (ne_of_none e nD)]
            exact sm _ _ e
          · rw [upd_same, List.map_append]
            rfl
          · rw [List.length_append]
            show ms.length + 1 ≤ i + 1
            omega
        · exact ⟨sm, ms, hD, by omega⟩
      · rintro H2 ⟨sm, ms, hD, hm⟩
        rw [List.length_map] at hm
        refine ⟨D, _, rfl, SqL.of hD, fun l nl => ⟨.int st, rfl, by show 2 ≤ sizeLine; decide, fun w nw => ?_⟩⟩
        have nlw : w ≠ l := fun z => by
          rw [z, upd_same] at nw
          cases nw
        have nw2 : H2 w = none := by
          rw [upd_ne nlw] at nw
          exact nw
        refine q _ w l (sm.trans ((same_new nl).trans (same_new nw))) ⟨nlw, ms.reverse, st, upd_same, ?_, ?_, h0, h1⟩ (sm.free nw2) (sm.free nl)
        · rw [upd_ne (Ne.symm nlw), upd_same, List.map_reverse]
        · rw [List.length_reverse]
          omega
theorem scPull : FnScope ["_law_well_here", "_law_many", "_law_rest"] ["_law_well_here", "_law_many"] (defScope sPull) := ⟨rfl, rfl, rfl, by decide +kernel, rfl, by decide +kernel, by decide +kernel⟩
theorem ok_pull {f : Addr} {fd : FuncData} (F : Fun K "_law_pull" "_law_pull" sPull f fd) : FnOk P w K mg base CX0 1 f fd ["_law_well_here", "_law_many"] spPull := by
  refine F.ok scPull (fun vs H Q E h => ?_) (fun cdv A outer s H vs Q E hr h => ?_)
  · obtain ⟨a, l, m, rfl, _⟩ := h
    rfl
  · obtain ⟨w, l, many, rfl, hW, m0, m1, q⟩ := h
    refine ⟨_, pss_cons (ps_while PassesOwn.never (pt_cmpR (op_neD hr.units) (pe_ix ix_list (pv 0) pe_int (fun _ _ => rfl)) (pe_lst pa_nil) (nomark _))
        (pss_cons (ps_set (i := 2) scPull.nd rfl (.inl rfl) (pe_bm0 PySem.F.plainAttrs_list PySem.F.slot_list_pop PySem.F.type_list_pop mt_pop (pe_ix ix_list (pv 0) pe_int (fun _ _ => rfl))))
        (pss_one (ps_if (pt_cmpR op_gt (pv 2) pe_int (nomark _))
          (pss_cons (ps_expr (pe_bm PySem.F.plainAttrs_list PySem.F.slot_list_append PySem.F.type_list_append mt_append (pe_ix ix_list (pv 0) pe_int (fun _ _ => rfl)) (pa_cons (pe_op op_fdiv (pv 2) (pv 1)) pa_nil)))
          (pss_one (ps_ret (pe_op op_mod (pv 2) (pv 1))))) pss_nil))))
      (pss_cons (ps_asg (pe_op op_mod (pe_op op_add (pe_op op_mul (pe_ix ix_list (pv 0) pe_int (fun _ _ => rfl)) pe_int) pe_int) (pe_op op_pow pe_int pe_int)) (pg_sub (pv 0) pe_int set_list))
      (pss_one (ps_ret (pe_op op_mod (pe_op op_fdivW (pe_ix ix_list (pv 0) pe_int (fun _ _ => rfl)) (pe_op op_pow pe_int pe_int)) (pv 1))))), ?_⟩
    obtain ⟨nwl, xs0, st0, hw0, hl0, hx0, s00, s01⟩ := hW
    refine ⟨fun m σ H1 => ∃ (xs : List Int) (st : Int) (c : Option V), m = xs.length ∧ σ = [some (.ref w), some (.int many), c] ∧ H1 w = some (.lst [.ref l, .int st]) ∧ H1 l = some (.lst (xs.map V.int)) ∧ xs.length ≤ 63 ∧ 0 ≤ st ∧ st < 18446744073709551616 ∧ Keep w l H H1,
      ⟨_, xs0, st0, none, rfl, rfl, hw0, hl0, hx0, s00, s01, Keep.refl⟩, ?_⟩
    rintro m σ H1 ⟨xs, st, c, rfl, rfl, hw, hl, hx, s0, s1, kp⟩
    refine ⟨.ref w, rfl, w, _, 0, .ref l, rfl, rfl, SqL.of hw, atI_nat (j := 0) rfl, by show 0 ≤ sizeLine; omega, fun p np => ?_⟩
    have sm := same_new (o := .lst []) np
    have hw2 := sm _ _ hw
    have hl2 := sm _ _ hl
    refine ⟨.list (xs.map .int), .list [], .lst (SqL.of hl2) (dpInts xs), .lst (SqL.of upd_same) .nil, shInts xs, rfl, _, rfl, ?_⟩
    rcases nil_or_snoc xs with rfl | ⟨ys, y, rfl⟩
    · -- the state's own draw
      refine iteF ?_
      refine ⟨.ref w, rfl, w, _, 1, .int st, rfl, rfl, SqL.of hw2, atI_nat (j := 1) rfl, st, _, rfl, rfl, .inl ⟨by omega, by omega⟩, _, _, rfl, rfl, 2, 64, rfl, rfl, ⟨by decide, by decide, by decide⟩, _, _, rfl, rfl, (by show (0 : Int) < 2 ^ 64; decide), ?_⟩
      refine ⟨.ref w, rfl, w, _, 1, 1, rfl, rfl, hw2, rfl, ?_⟩
      have b0 : 0 ≤ (st * 6364136223846793005 + 1442695040888963407) % 18446744073709551616 := Int.emod_nonneg _ (by decide)
      have b1 : (st * 6364136223846793005 + 1442695040888963407) % 18446744073709551616 < 18446744073709551616 := Int.emod_lt_of_pos _ (by decide)
      refine ⟨.ref w, rfl, w, _, 1, _, rfl, rfl, SqL.of upd_same, atI_nat (j := 1) rfl, 2, 33, rfl, rfl, ⟨by decide, by decide, by decide⟩, _, _, rfl, rfl, ?_, .int many, rfl, _, many, rfl, rfl, m0, ?_⟩
      · exact wide_div (by show (0 : Int) < 2 ^ 33; decide) (b := 34) (by decide) (by decide) (by decide)
      · refine q _ _ (Int.emod_nonneg _ (by omega)) (Int.emod_lt_of_pos _ m0) ⟨nwl, [], _, upd_same, ?_, hx, b0, b1⟩ (kp.trans ((Keep.of sm).trans fun b o h1 h2 h => ?_))
        · rw [upd_ne (Ne.symm nwl)]
          exact hl2
        · rw [upd_ne h1]
          exact h
    · have hv : PyData.eqv (.list ((ys ++ [y]).map .int)) (.list []) = false := by
        cases ys <;> rfl
      rw [hv]
      refine iteT ⟨fun σ' H' => ∃ (st : Int) (c : Option V), σ' = [some (.ref w), some (.int many), c] ∧ H' w = some (.lst [.ref l, .int st]) ∧ H' l = some (.lst (ys.map V.int)) ∧ 0 ≤ st ∧ st < 18446744073709551616 ∧ Keep w l H H', ?_, ?_⟩
      · rintro σ' H' ⟨st', c', rfl, z1, z2, z3, z4, z5⟩
        rw [List.length_append] at hx ⊢
        exact ⟨ys.length, by simp, ys, st', c', rfl, rfl, z1, z2, by omega, z3, z4, z5⟩
      · have lst2 : (upd (upd H1 p (.lst [])) l (.lst ((ys ++ [y]).map V.int).dropLast)) l = some (.lst (ys.map V.int)) := by
          rw [upd_same, List.map_append]
          simp
        refine ⟨.ref w, rfl, w, _, 0, .ref l, rfl, rfl, SqL.of hw2, atI_nat (j := 0) rfl, .inl ⟨rfl, _, SqL.of hl2⟩, l, _, .int y, rfl, rfl, hl2, ?_, .int y, rfl, y, 0, rfl, rfl, _, rfl, ite2 (fun hy => ?_) (fun hy => ?_)⟩
        · rw [List.map_append]
          exact get_last (ys.map V.int) (.int y)
        · have hw3 : (upd (upd H1 p (.lst [])) l (.lst ((ys ++ [y]).map V.int).dropLast)) w = some (.lst [.ref l, .int st]) := by
            rw [upd_ne nwl]
            exact hw2
          refine ⟨.ref w, rfl, w, _, 0, .ref l, rfl, rfl, SqL.of hw3, atI_nat (j := 0) rfl, .inl ⟨rfl, _, SqL.of lst2⟩, .int y, rfl, .int many, rfl, y, many, rfl, rfl, ⟨m0, m1⟩, l, _, _, rfl, rfl, lst2, ?_, ?_⟩
          · rw [List.length_map]
            rw [List.length_append] at hx
            exact small1000 (by omega)
          · refine ⟨.int y, rfl, .int many, rfl, y, many, rfl, rfl, m0, ?_⟩
            refine q _ _ (Int.emod_nonneg _ (by omega)) (Int.emod_lt_of_pos _ m0) ⟨nwl, ys ++ [y / many], st, ?_, ?_, ?_, s0, s1⟩ (kp.trans ((Keep.of sm).trans fun b o h1 h2 h => ?_))
            · rw [upd_ne nwl]
              exact hw3
            · rw [upd_same, List.map_append]
              rfl
            · rw [List.length_append] at hx ⊢
              exact hx
            · rw [upd_ne h2, upd_ne h2]
              exact h
        · refine ⟨st, some (.int y), rfl, ?_, lst2, s0, s1, kp.trans ((Keep.of sm).trans fun b o h1 h2 h => ?_)⟩
          · rw [upd_ne nwl]
            exact hw2
          · rw [upd_ne h2]
            exact h
theorem scItem : FnScope ["_law_well_here", "_law_items"] ["_law_well_here", "_law_items"] (defScope sItem) := ⟨rfl, rfl, rfl, by decide +kernel, rfl, by decide +kernel, by decide +kernel⟩
theorem ok_item {f fP : Addr} {fd fdP : FuncData} (F : Fun K "_law_item" "_law_item" sItem f fd) (FP : Fun K "_law_pull" "_law_pull" sPull fP fdP) (bP : Binds K fdP ["_law_well_here", "_law_many"] []) (gP : mg "_law_pull" = some (.ref fP)) (ml : mg "len" = none) :
    FnOk P w K mg base CX0 2 f fd ["_law_well_here", "_law_items"] spItem := by
  have GP : FnOk P w K mg base CX0 1 fP fdP ["_law_well_here", "_law_many"] spPull := ok_pull FP
  refine F.ok scItem (fun vs H Q E h => ?_) (fun cdv A outer s H vs Q E hr h => ?_)
  · obtain ⟨w, l, p, xs, rfl, _⟩ := h
    rfl
  · obtain ⟨w, l, p, xs, rfl, hW, hp, npw, npl, hne, hlen, q⟩ := h
    refine ⟨_, pss_one (ps_ret (pe_ix ix_list (pv 1) (pe_call GP hr (by rfl) gP FP.kp bP .nil pass0 (pa_cons (pv 0) (pa_cons (pe_callB call_len_seq (by rfl) ml PySem.boot_len (pa_cons (pv 1) pa_nil)) pa_nil))) (fun _ _ => rfl))), ?_⟩
    have pos : 0 < xs.length := List.length_pos_iff.mpr hne
    refine ⟨.ref p, rfl, .ref w, rfl, .ref p, rfl, p, xs, rfl, .inl (SqL.of hp), w, l, _, rfl, hW, by omega, by omega, fun r H' r0 r1 hW' kp => ?_⟩
    have hi : r.toNat < xs.length := by omega
    have er : ((r.toNat : Nat) : Int) = r := Int.toNat_of_nonneg r0
    refine ⟨p, xs, r, xs[r.toNat], rfl, rfl, SqL.of (kp _ _ npw npl hp), ?_, q _ _ (List.getElem_mem hi) hW' kp⟩
    have z := atI_nat (List.getElem?_eq_getElem hi)
    rw [er] at z
    exact z
end
end Lf
namespace Lf
open PySem PySem.Spec PyProof.Rows L2
/-! ### _law_mixed, _law_tops, _law_heft -/
def spMixed : Sp := fun vs H Q _ => ∃ (w l p : Addr) (ns : List Nat), vs = [.ref w, .ref p] ∧ Well w l H ∧ H p = some (.lst (nv ns)) ∧ ns.length ≤ 1000 ∧
  ∀ (ms : List Nat) (q : Addr) (H' : Hp), ms.Perm ns → Well w l H' → Keep w l H H' → H q = none → H' q = some (.lst (nv ms)) → Q (.ref q) H'
def spTops (K : PySem.W.Frag) : Sp := fun vs H Q _ => ∃ (p : Addr) (fs : List Nat), vs = [.ref p] ∧ SqQ K H p (nv fs) ∧ fs.length ≤ 1000 ∧
  ∀ (q : Addr) (H' : Hp), Same H H' → H q = none → H' q = some (.lst (nv (tops fs))) → Q (.ref q) H'
def spHeft (K : PySem.W.Frag) : Sp := fun vs H Q _ => ∃ (p : Addr) (fs : List Nat) (v : Nat), vs = [.ref p, .int (v : Nat)] ∧ SqQ K H p (nv fs) ∧ Forest fs ∧ v < fs.length ∧
  ∀ (ins : List Nat) (H' : Hp), Same H H' → ins.Nodup → (∀ u, u ∈ ins ↔ u < fs.length ∧ Bel fs v u) → Q (.int (ins.length : Nat)) H'
theorem erase_map {α β : Type} (f : α → β) : ∀ (l : List α) (i : Nat), (l.map f).eraseIdx i = (l.eraseIdx i).map f
  | [], _ => rfl
  | _ :: _, 0 => rfl
  | x :: l, i + 1 => by
    show f x :: (l.map f).eraseIdx i = f x :: (l.eraseIdx i).map f
    rw [erase_map f l i]
theorem erase_perm {α : Type} : ∀ (l : List α) (i : Nat) (h : i < l.length), (l[i] :: l.eraseIdx i).Perm l
  | [], i, h => absurd h (Nat.not_lt_zero i)
  | x :: l, 0, _ => .refl _
  | x :: l, i + 1, h => by
    have ih := erase_perm l i (Nat.lt_of_succ_lt_succ h)
    show (l[i]'(Nat.lt_of_succ_lt_succ h) :: x :: l.eraseIdx i).Perm (x :: l)
    exact (List.Perm.swap _ _ _).trans (.cons x ih)
theorem seqAt {i : Int} {n : Nat} (h0 : 0 ≤ i) (h1 : i < n) : seqIndex? i n = some i.toNat := by
  unfold seqIndex?
  have e : (if i < 0 then i + n else i) = i := if_neg (by omega)
  show (if (decide (0 ≤ (if i < 0 then i + n else i)) && decide ((if i < 0 then i + n else i) < n)) = true then some (if i < 0 then i + (n : Int) else i).toNat else none) = _
  rw [e, decide_eq_true h0, decide_eq_true h1]
  rfl
theorem range_filter_succ {k : Nat} (p : Nat → Bool) : (List.range (k + 1)).filter p = if p k = true then (List.range k).filter p ++ [k] else (List.range k).filter p := by
  rw [List.range_succ, List.filter_append]
  by_cases h : p k = true
  · rw [if_pos h, List.filter_cons_of_pos h]
    rfl
  · rw [if_neg h, List.filter_cons_of_neg h]
    simp
theorem range_filter_le (k : Nat) (p : Nat → Bool) : ((List.range k).filter p).length ≤ k := by
  have := List.length_filter_le p (List.range k)
  rwa [List.length_range] at this
theorem natV_inj {a b : Nat} : (V.int (a : Int) = V.int (b : Int)) ↔ a = b := by
  refine ⟨fun h => ?_, fun h => by rw [h]⟩
  have := V.int.inj h
  omega
section
variable {P : Program} {w : World} {K : PySem.W.Frag} {mg : Str → Option Value} {base : Heap}
theorem scMixed : FnScope ["_law_well_here", "_law_items", "_law_rest", "_law_found"] ["_law_well_here", "_law_items"] (defScope sMixed) := ⟨rfl, rfl, rfl, by decide +kernel, rfl, by decide +kernel, by decide +kernel⟩
theorem ok_mixed {f fP : Addr} {fd fdP : FuncData} (F : Fun K "_law_mixed" "_law_mixed" sMixed f fd) (FP : Fun K "_law_pull" "_law_pull" sPull fP fdP) (bP : Binds K fdP ["_law_well_here", "_law_many"] []) (gP : mg "_law_pull" = some (.ref fP)) (ml : mg "len" = none) (mL : mg "list" = none) :
    FnOk P w K mg base CX0 2 f fd ["_law_well_here", "_law_items"] spMixed := by
  have GP : FnOk P w K mg base CX0 1 fP fdP ["_law_well_here", "_law_many"] spPull := ok_pull FP
  refine F.ok scMixed (fun vs H Q E h => ?_) (fun cdv A outer s H vs Q E hr h => ?_)
  · obtain ⟨w, l, p, xs, rfl, _⟩ := h
    rfl
  · obtain ⟨w, l, p, ns, rfl, hW, hp, hlen, q⟩ := h
    refine ⟨_, pss_cons (ps_par (i := 2) (j := 3) (by rfl) scMixed.nd rfl rfl (by decide) rfl rfl (pa_cons (pe_callTy call_list_of (by rfl) mL (by decide +kernel) (pa_cons (pv 1) pa_nil)) (pa_cons (pe_lst pa_nil) pa_nil)) (by rfl))
      (pss_cons (ps_while PassesOwn.never (pt_cmpR (op_neD hr.units) (pv 2) (pe_lst pa_nil) (nomark _)) (pss_one (ps_expr (pe_bm PySem.F.plainAttrs_list PySem.F.slot_list_append PySem.F.type_list_append mt_append (pv 3)
          (pa_cons (pe_bm PySem.F.plainAttrs_list PySem.F.slot_list_pop PySem.F.type_list_pop mt_popAt (pv 2) (pa_cons (pe_call GP hr (by rfl) gP FP.kp bP .nil pass0 (pa_cons (pv 0) (pa_cons (pe_callB call_len_seq (by rfl) ml PySem.boot_len (pa_cons (pv 2) pa_nil)) pa_nil))) pa_nil)) pa_nil)))))
      (pss_one (ps_ret (pv 3)))), ?_⟩
    refine ⟨.ref p, rfl, p, _, rfl, .inl (SqL.of hp), fun r nr => ⟨by show 0 ≤ sizeLine; decide, fun d nd => ⟨.ref r, .ref d, rfl, ?_⟩⟩⟩
    have Sr := same_new (o := .lst (nv ns)) nr
    have Sd := same_new (o := .lst []) nd
    have rd : r ≠ d := fun z => by
      rw [← z, upd_same] at nd
      cases nd
    obtain ⟨nwl, x0, st0, hw0, hl0, hx0⟩ := id hW
    have rw' : r ≠ w := (ne_of_none hw0 nr).symm
    have rl : r ≠ l := (ne_of_none hl0 nr).symm
    have dw : d ≠ w := (ne_of_none (Sr _ _ hw0) nd).symm
    have dl : d ≠ l := (ne_of_none (Sr _ _ hl0) nd).symm
    have hd0 : H d = none := Sr.free nd
    refine ⟨fun m σ H1 => ∃ rs fs : List Nat, m = rs.length ∧ σ = [some (.ref w), some (.ref p), some (.ref r), some (.ref d)] ∧ H1 r = some (.lst (nv rs)) ∧ H1 d = some (.lst (nv fs)) ∧ (fs ++ rs).Perm ns ∧ Well w l H1 ∧ Keep w l H H1,
      ⟨_, ns, [], rfl, rfl, Sd _ _ upd_same, upd_same, .refl _, hW.same (Sr.trans Sd), Keep.of (Sr.trans Sd)⟩, ?_⟩
    rintro m σ H1 ⟨rs, fs, rfl, rfl, hr1, hd1, pm, hW1, kp⟩
    have lens : fs.length + rs.length = ns.length := by
      have := pm.length_eq
      rwa [List.length_append] at this
    refine ⟨.ref r, rfl, by show 0 ≤ sizeLine; decide, fun e ne => ?_⟩
    have Se := same_new (o := .lst []) ne
    refine ⟨_, .list [], .lst (SqL.of (Se _ _ hr1)) (dpNv rs), .lst (SqL.of upd_same) .nil, shInts _, rfl, _, rfl, ?_⟩
    cases rs with
    | nil =>
      refine iteF ⟨.ref d, rfl, q fs d _ (by simpa using pm) (hW1.same Se) (kp.trans (Keep.of Se)) hd0 (Se _ _ hd1)⟩
    | cons x0 rt =>
      generalize hrs : x0 :: rt = rs at *
      have pos : 0 < rs.length := by rw [← hrs]; exact Nat.succ_pos _
      have hv : PyData.eqv (.list ((rs.map fun x => ((x : Nat) : Int)).map .int)) (.list []) = false := by
        rw [← hrs]
        rfl
      rw [hv]
      refine iteT ⟨fun σ' H' => ∃ rs' fs' : List Nat, rs'.length < rs.length ∧ σ' = [some (.ref w), some (.ref p), some (.ref r), some (.ref d)] ∧ H' r = some (.lst (nv rs')) ∧ H' d = some (.lst (nv fs')) ∧ (fs' ++ rs').Perm ns ∧ Well w l H' ∧ Keep w l H H', ?_, ?_⟩
      · rintro σ' H' ⟨rs', fs', z0, z1, z2, z3, z4, z5, z6⟩
        exact ⟨_, z0, rs', fs', rfl, z1, z2, z3, z4, z5, z6⟩
      · refine ⟨.ref d, rfl, .inl ⟨rfl, _, SqL.of (Se _ _ hd1)⟩, .ref r, rfl, .inl ⟨rfl, _, SqL.of (Se _ _ hr1)⟩, .ref w, rfl, .ref r, rfl, r, _, rfl, .inl (SqL.of (Se _ _ hr1)), w, l, _, rfl, hW1.same Se, ?_, ?_, fun i H2 i0 i1 hW2 kp2 => ?_⟩
        · rw [nv_length]
          omega
        · rw [nv_length]
          omega
        · rw [nv_length] at i1
          have hi : i.toNat < rs.length := by omega
          have hr2 : H2 r = some (.lst (nv rs)) := kp2 _ _ rw' rl (Se _ _ hr1)
          have hd2 : H2 d = some (.lst (nv fs)) := kp2 _ _ dw dl (Se _ _ hd1)
          refine ⟨r, _, i, i.toNat, _, rfl, rfl, hr2, by omega, by omega, ?_, nv_get hi, d, nv fs, _, rfl, rfl, ?_, ?_, ?_⟩
          · rw [nv_length]
            exact seqAt i0 i1
          · rw [upd_ne rd.symm]
            exact hd2
          · rw [nv_length]
            exact small1000 (by omega)
          · refine ⟨rs.eraseIdx i.toNat, fs ++ [rs.getD i.toNat 0], ?_, rfl, ?_, ?_, ?_, ?_, ?_⟩
            · rw [List.length_eraseIdx_of_lt hi]
              omega
            · rw [upd_ne rd, upd_same]
              unfold nv
              rw [erase_map]
            · rw [upd_same, nv_append]
              rfl
            · refine List.Perm.trans ?_ pm
              rw [List.append_assoc]
              refine List.Perm.append_left _ ?_
              have e1 : rs.getD i.toNat 0 = rs[i.toNat] := by rw [List.getD_eq_getElem?_getD, List.getElem?_eq_getElem hi]; rfl
              rw [e1]
              exact erase_perm rs _ hi
            · obtain ⟨n3, x3, st3, hw3, hl3, r3⟩ := hW2
              exact ⟨n3, x3, st3, by rw [upd_ne dw.symm, upd_ne rw'.symm]; exact hw3, by rw [upd_ne dl.symm, upd_ne rl.symm]; exact hl3, r3⟩
            · intro b o h1 h2 h
              rw [upd_ne (ne_of_none h hd0), upd_ne (ne_of_none h nr)]
              exact kp2 b o h1 h2 (Se _ _ (kp b o h1 h2 h))
theorem scTops : FnScope ["_law_parents", "_law_vertex"] ["_law_parents"] (defScope sTops) := ⟨rfl, rfl, rfl, by decide +kernel, rfl, by decide +kernel, by decide +kernel⟩
theorem ok_tops {f : Addr} {fd : FuncData} (F : Fun K "_law_tops" "_law_tops" sTops f fd) (ml : mg "len" = none) (mr : mg "range" = none) : FnOk P w K mg base CX0 1 f fd ["_law_parents"] (spTops K) := by
  refine F.ok scTops (fun vs H Q E h => ?_) (fun cdv A outer s H vs Q E hr h => ?_)
  · obtain ⟨p, fs, rfl, _⟩ := h
    rfl
  · obtain ⟨p, fs, rfl, hp, hlen, q⟩ := h
    refine ⟨_, pss_one (ps_ret (pe_lc (own := [("_law_vertex", 1)]) (g := gName 1) (tt := tTest (tOp rEq (tOp (rIxQ K) (tVar 0) (tVar 1)) (tVar 1))) (te := tVar 1) (by rfl) scTops.nd (pi_range1 (by rfl) mr (pa_cons (pe_callB call_len_seq (by rfl) ml PySem.boot_len (pa_cons (pv 0) pa_nil)) pa_nil))
      (blkOk_by (own := [("_law_vertex", 1)]) (N := ["_law_parents", "_law_vertex"]) (sc := defScope sTops) (by decide +kernel)) (fun _ _ _ _ _ => pg_name (i := 1) scTops.nd rfl (Or.inl rfl))
      (fun _ _ _ _ _ => pts_one (pt_cmpR op_eq (pe_ix ix_q (pv 0) (pv 1) (fun _ _ => rfl)) (pv 1) (nomark _))) (fun _ _ _ _ _ => pv 1))), ?_⟩
    refine ⟨.ref p, rfl, p, _, rfl, hp, _, rfl, ?_, ?_, fun D nD => lc_range (lo := 0) (n := ((nv fs).length : Int).toNat) (fun k H2 => Same H H2 ∧ H2 D = some (.lst (nv ((List.range k).filter fun v => decide (par fs v = v))))) ⟨same_new nD, upd_same⟩ ?_ ?_⟩
    · rw [nv_length]
      omega
    · rw [nv_length]
      omega
    · rintro k H2 hk ⟨sm, hD⟩
      rw [nv_length] at hk
      have hk' : k < fs.length := by omega
      refine ⟨rfl, .ref p, rfl, .int (0 + (k : Int)), rfl, p, _, (k : Int), .int ((par fs k : Nat) : Int), rfl, by rw [Int.zero_add], hp.same sm, atI_nat (nv_get hk'), .int (0 + (k : Int)), rfl, rfl, _, rfl, ite2 (fun hc => ?_) (fun hc => ?_)⟩
      · rw [Int.zero_add] at hc
        have hc : par fs k = k := natV_inj.mp (of_decide_eq_true hc)
        refine ⟨.int (0 + (k : Int)), rfl, _, hD, ?_, fun b o z => ?_, ?_⟩
        · rw [nv_length]
          exact small1000 (Nat.le_trans (range_filter_le _ _) (by omega))
        · rw [upd_ne (ne_of_none z nD)]
          exact sm _ _ z
        · rw [upd_same, range_filter_succ, if_pos (decide_eq_true hc), nv_append, Int.zero_add]
          rfl
      · rw [Int.zero_add] at hc
        refine ⟨sm, ?_⟩
        rw [hD, range_filter_succ, if_neg]
        intro z
        exact hc (decide_eq_true (natV_inj.mpr (of_decide_eq_true z)))
    · rintro H2 ⟨sm, hD⟩
      rw [nv_length, Int.toNat_natCast] at hD
      exact q D H2 sm nD hD
theorem scHeft : FnScope ["_law_parents", "_law_vertex", "_law_inside", "_law_count", "_law_v"] ["_law_parents", "_law_vertex"] (defScope sHeft) := ⟨rfl, rfl, rfl, by decide +kernel, rfl, by decide +kernel, by decide +kernel⟩
theorem ok_heft {f : Addr} {fd : FuncData} (F : Fun K "_law_heft" "_law_heft" sHeft f fd) (ml : mg "len" = none) (mr : mg "range" = none) : FnOk P w K mg base CX0 1 f fd ["_law_parents", "_law_vertex"] (spHeft K) := by
  refine F.ok scHeft (fun vs H Q E h => ?_) (fun cdv A outer s H vs Q E hr h => ?_)
  · obtain ⟨p, fs, v, rfl, _⟩ := h
    rfl
  · obtain ⟨p, fs, v, rfl, hp, hF, hv, q⟩ := h
    refine ⟨_, pss_cons (ps_asg (pe_tup (pa_cons (pe_lst (pa_cons (pv 1) pa_nil)) (pa_cons pe_int pa_nil))) (pg_tup rfl (pgs_cons (pg_name (i := 2) scHeft.nd rfl (.inr rfl)) (pgs_cons (pg_name (i := 3) scHeft.nd rfl (.inr rfl)) pgs_nil))))
      (pss_cons (ps_while PassesOwn.never (pt_cmpR op_lt (pv 3) (pe_callB call_len_seq (by rfl) ml PySem.boot_len (pa_cons (pv 2) pa_nil)) (nomark _))
        (pss_cons (ps_set (i := 2) scHeft.nd rfl (.inr rfl) (pe_op op_cat (pv 2) (pe_lc (own := [("_law_v", 4)]) (g := gName 4)
            (tt := tAnd (tTest (tOp rEq (tOp (rIxQ K) (tVar 0) (tVar 4)) (tOp (rIxL K) (tVar 2) (tVar 3)))) (tTest (tOp rNe (tVar 4) (tOp (rIxQ K) (tVar 0) (tVar 4))))) (te := tVar 4) (by rfl) scHeft.nd (pi_range1 (by rfl) mr (pa_cons (pe_callB call_len_seq (by rfl) ml PySem.boot_len (pa_cons (pv 0) pa_nil)) pa_nil))
          (blkOk_by (own := [("_law_v", 4)]) (N := ["_law_parents", "_law_vertex", "_law_inside", "_law_count", "_law_v"]) (sc := defScope sHeft) (by decide +kernel)) (fun _ _ _ _ _ => pg_name (i := 4) scHeft.nd rfl (Or.inl rfl))
          (fun _ _ _ _ _ => pts_one (PW.pt (pw_and (pt_cmpR op_eq (pe_ix ix_q (pv 0) (pv 4) (fun _ _ => rfl)) (pe_ix ix_list (pv 2) (pv 3) (fun _ _ => rfl)) (nomark _)) (pw_and1 (pt_cmpR op_ne (pv 4) (pe_ix ix_q (pv 0) (pv 4) (fun _ _ => rfl)) (nomark _)))))) (fun _ _ _ _ _ => pv 4))))
        (pss_one (ps_set (i := 3) scHeft.nd rfl (.inr rfl) (pe_op op_add (pv 3) pe_int)))))
      (pss_one (ps_ret (pv 3)))), ?_⟩
    refine ⟨.int (v : Nat), rfl, (by show 1 ≤ sizeLine; decide), fun q1 n1 => ⟨(by show 2 ≤ sizeLine; decide), fun t nt => ⟨t, _, rfl, SqT.of upd_same, rfl, _, _, rfl, _, _, rfl, rfl, ?_⟩⟩⟩
    have S1 := same_new (o := .lst [V.int (v : Nat)]) n1
    have S2 := same_new (o := .tup [V.ref q1, V.int 0]) nt
    refine ⟨fun m σ H1 => ∃ (ins : List Nat) (c : Nat) (qa : Addr), m = fs.length - c ∧ σ = [some (.ref p), some (.int (v : Nat)), some (.ref qa), some (.int (c : Nat)), none] ∧ Same H H1 ∧ H1 qa = some (.lst (nv ins)) ∧ Bfs fs v ins c,
      ⟨_, [v], 0, q1, rfl, rfl, S1.trans S2, S2 _ _ upd_same, Bfs.start hv⟩, ?_⟩
    rintro m σ H1 ⟨ins, c, qa, rfl, rfl, sm, hqa, B⟩
    have few := hF.few
    have le := B.le
    refine ⟨.int (c : Nat), rfl, .ref qa, rfl, qa, _, rfl, .inl (SqL.of hqa), _, _, rfl, rfl, _, rfl, ite2 (fun hc => ?_) (fun hc => ?_)⟩
    · have hc : (c : Int) < ((nv ins).length : Int) := of_decide_eq_true hc
      rw [nv_length] at hc
      have hcl : c < ins.length := by omega
      have ec : ins[c]? = some (ins.getD c 0) := by rw [List.getD_eq_getElem?_getD, List.getElem?_eq_getElem hcl]; rfl
      refine ⟨fun σ' H' => ∃ (ins : List Nat) (qa : Addr), σ' = [some (.ref p), some (.int (v : Nat)), some (.ref qa), some (.int ((c + 1 : Nat) : Int)), none] ∧ Same H H' ∧ H' qa = some (.lst (nv ins)) ∧ Bfs fs v ins (c + 1), ?_, ?_⟩
      · rintro σ' H' ⟨ins', qa', z1, z2, z3, z4⟩
        exact ⟨fs.length - (c + 1), by omega, ins', c + 1, qa', rfl, z1, z2, z3, z4⟩
      · have hpp := hp.same sm
        refine ⟨.ref qa, rfl, .ref p, rfl, p, _, rfl, hpp, _, rfl, ?_, ?_, fun D nD => lc_range (lo := 0) (n := ((nv fs).length : Int).toNat)
          (fun k H2 => Same H1 H2 ∧ H2 D = some (.lst (nv ((List.range k).filter fun u => decide (par fs u = ins.getD c 0) && decide (u ≠ par fs u))))) ⟨same_new nD, upd_same⟩ ?_ ?_⟩
        · rw [nv_length]
          omega
        · rw [nv_length]
          omega
        · rintro k H2 hk ⟨s2, hD⟩
          rw [nv_length] at hk
          have hk' : k < fs.length := by omega
          refine ⟨rfl, .ref p, rfl, .int (0 + (k : Int)), rfl, p, _, (k : Int), .int ((par fs k : Nat) : Int), rfl, by rw [Int.zero_add], hpp.same s2, atI_nat (nv_get hk'), .ref qa, rfl, .int (c : Nat), rfl, qa, _, (c : Int), _, rfl, rfl, SqL.of (s2 _ _ hqa), atI_nat (nv_get hcl), rfl, _, rfl, ite2 (fun h1 => ?_) (fun h1 => ?_)⟩
          · have h1 : par fs k = ins.getD c 0 := natV_inj.mp (of_decide_eq_true h1)
            refine ⟨.int (0 + (k : Int)), rfl, .ref p, rfl, .int (0 + (k : Int)), rfl, p, _, (k : Int), .int ((par fs k : Nat) : Int), rfl, by rw [Int.zero_add], hpp.same s2, atI_nat (nv_get hk'), rfl, _, rfl, ite2 (fun h2 => ?_) (fun h2 => ?_)⟩
            · rw [Int.zero_add] at h2
              have h2 : k ≠ par fs k := fun z => by
                rw [decide_eq_true (natV_inj.mpr z)] at h2
                cases h2
              refine ⟨.int (0 + (k : Int)), rfl, _, hD, ?_, fun b o z => ?_, ?_⟩
              · rw [nv_length]
                exact small1000 (Nat.le_trans (range_filter_le _ _) (by omega))
              · rw [upd_ne (ne_of_none z nD)]
                exact s2 _ _ z
              · rw [upd_same, range_filter_succ, if_pos (by rw [decide_eq_true h1, decide_eq_true h2]; rfl), nv_append, Int.zero_add]
                rfl
            · rw [Int.zero_add] at h2
              have h2 : k = par fs k := Classical.byContradiction fun z => h2 (by rw [decide_eq_false (fun y => z (natV_inj.mp y))]; rfl)
              refine ⟨s2, ?_⟩
              rw [hD, range_filter_succ, if_neg]
              rw [decide_eq_false (p := k ≠ par fs k) (fun z => z h2), Bool.and_false]
              exact Bool.false_ne_true
          · have h1 : ¬ par fs k = ins.getD c 0 := fun z => h1 (decide_eq_true (natV_inj.mpr z))
            refine iteF ⟨s2, ?_⟩
            rw [hD, range_filter_succ, if_neg]
            rw [decide_eq_false h1]
            exact Bool.false_ne_true
        · rintro H2 ⟨s2, hD⟩
          rw [nv_length, Int.toNat_natCast] at hD
          have B2 := B.next hF.rch ec
          have le2 := B2.le
          rw [List.length_append] at le2
          refine ⟨qa, D, _, _, rfl, rfl, s2 _ _ hqa, hD, ?_, fun p2 n2 => ?_⟩
          · rw [nv_length, nv_length]
            have e2 : (kids fs (ins.getD c 0)).length = ((List.range fs.length).filter fun u => decide (par fs u = ins.getD c 0) && decide (u ≠ par fs u)).length := rfl
            exact Nat.le_of_lt (small1000 (by omega))
          · refine ⟨.int (c : Nat), rfl, _, _, rfl, rfl, ins ++ kids fs (ins.getD c 0), p2, ?_, sm.trans (s2.trans (same_new n2)), ?_, B2⟩
            · rfl
            · rw [upd_same, nv_append]
              rfl
    · have hc : ¬ (c : Int) < ((nv ins).length : Int) := fun z => hc (decide_eq_true z)
      rw [nv_length] at hc
      have e : c = ins.length := by
        have := B.cnt
        omega
      subst e
      exact ⟨.int (ins.length : Nat), rfl, q ins H1 sm B.nd (B.done hF.rng)⟩
end
end Lf
namespace Lf
/-! ### weights: plain mathematics -/
theorem rg_filter_succ {k : Nat} (p : Nat → Bool) : (List.range (k + 1)).filter p = if p k = true then (List.range k).filter p ++ [k] else (List.range k).filter p := by
  rw [List.range_succ, List.filter_append]
  by_cases h : p k = true
  · rw [if_pos h, List.filter_cons_of_pos h]
    rfl
  · rw [if_neg h, List.filter_cons_of_neg h]
    simp
section
open Classical
/-- how many of the first k vertices have v on their way -/
noncomputable def cnt (fs : List Nat) (v k : Nat) : Nat := ((List.range k).filter fun u => decide (Bel fs v u)).length
theorem cnt_zero (fs : List Nat) (v : Nat) : cnt fs v 0 = 0 := rfl
theorem cnt_succ (fs : List Nat) (v k : Nat) : cnt fs v (k + 1) = cnt fs v k + (if Bel fs v k then 1 else 0) := by
  unfold cnt
  rw [rg_filter_succ]
  by_cases h : Bel fs v k
  · rw [if_pos (decide_eq_true h), if_pos h, List.length_append]
    rfl
  · rw [if_neg (fun z => h (of_decide_eq_true z)), if_neg h]
    rfl
end
theorem same_len {l m : List Nat} (hl : l.Nodup) (hm : m.Nodup) (h : ∀ u, u ∈ l ↔ u ∈ m) : l.length = m.length := ((List.perm_ext_iff_of_nodup hl hm).mpr h).length_eq
open Classical in
theorem cnt_of {fs : List Nat} {v : Nat} {l : List Nat} (nd : l.Nodup) (h : ∀ u, u ∈ l ↔ u < fs.length ∧ Bel fs v u) : cnt fs v fs.length = l.length := by
  unfold cnt
  refine same_len (List.Pairwise.filter _ List.nodup_range) nd fun u => ?_
  rw [h, List.mem_filter, List.mem_range, decide_eq_true_iff]
/-- the weight of v -/
noncomputable abbrev wt (fs : List Nat) (v : Nat) : Nat := cnt fs v fs.length
/-! sums -/
theorem sum_add {α : Type} (f g : α → Nat) : ∀ l : List α, (l.map fun x => f x + g x).sum = (l.map f).sum + (l.map g).sum
  | [] => rfl
  | x :: l => by
    have := sum_add f g l
    simp only [List.map_cons, List.sum_cons]
    omega
theorem sum_zero {α : Type} {f : α → Nat} : ∀ {l : List α}, (∀ x ∈ l, f x = 0) → (l.map f).sum = 0
  | [], _ => rfl
  | x :: l, h => by
    have := sum_zero (f := f) (l := l) fun y hy => h y (List.mem_cons_of_mem _ hy)
    have := h x List.mem_cons_self
    simp only [List.map_cons, List.sum_cons]
    omega
theorem sum_congr {α : Type} {f g : α → Nat} : ∀ {l : List α}, (∀ x ∈ l, f x = g x) → (l.map f).sum = (l.map g).sum
  | [], _ => rfl
  | x :: l, h => by
    have := sum_congr (f := f) (g := g) (l := l) fun y hy => h y (List.mem_cons_of_mem _ hy)
    have := h x List.mem_cons_self
    simp only [List.map_cons, List.sum_cons]
    omega
theorem sum_le {α : Type} {f g : α → Nat} : ∀ {l : List α}, (∀ x ∈ l, f x ≤ g x) → (l.map f).sum ≤ (l.map g).sum
  | [], _ => Nat.le_refl _
  | x :: l, h => by
    have := sum_le (f := f) (g := g) (l := l) fun y hy => h y (List.mem_cons_of_mem _ hy)
    have := h x List.mem_cons_self
    simp only [List.map_cons, List.sum_cons]
    omega
theorem sum_swap {α β : Type} (f : α → β → Nat) (ds : List β) : ∀ us : List α, (us.map fun u => (ds.map fun d => f u d).sum).sum = (ds.map fun d => (us.map fun u => f u d).sum).sum
  | [] => (sum_zero fun _ _ => rfl).symm
  | u :: us => by
    have := sum_swap f ds us
    simp only [List.map_cons, List.sum_cons]
    rw [sum_add, this]
theorem sum_mem {α : Type} {f : α → Nat} {x : α} : ∀ {l : List α}, x ∈ l → f x ≤ (l.map f).sum
  | y :: l, h => by
    simp only [List.map_cons, List.sum_cons]
    rcases List.mem_cons.mp h with z | z
    · subst z
      omega
    · have := sum_mem (f := f) z
      omega
theorem len_sum {α : Type} (p : α → Bool) : ∀ l : List α, (l.filter p).length = (l.map fun x => if p x = true then 1 else 0).sum
  | [] => rfl
  | x :: l => by
    have := len_sum p l
    simp only [List.map_cons, List.sum_cons]
    by_cases h : p x = true
    · rw [List.filter_cons_of_pos h, List.length_cons, if_pos h]
      omega
    · rw [List.filter_cons_of_neg h, if_neg h]
      omega
theorem filter_sum {α : Type} (p : α → Bool) (f : α → Nat) : ∀ l : List α, ((l.filter p).map f).sum = (l.map fun x => if p x = true then f x else 0).sum
  | [] => rfl
  | x :: l => by
    have := filter_sum p f l
    simp only [List.map_cons, List.sum_cons]
    by_cases h : p x = true
    · rw [List.filter_cons_of_pos h, List.map_cons, List.sum_cons, if_pos h]
      omega
    · rw [List.filter_cons_of_neg h, if_neg h]
      omega
open Classical in
theorem sum_one {l : List Nat} {p : Nat → Prop} {d : Nat} (nd : l.Nodup) (hd : d ∈ l) (pd : p d) (h : ∀ e ∈ l, p e → e = d) : (l.map fun e => if p e then 1 else 0).sum = 1 := by
  induction l with
  | nil => cases hd
  | cons x l ih =>
    simp only [List.map_cons, List.sum_cons]
    obtain ⟨n1, n2⟩ := List.nodup_cons.mp nd
    by_cases z : x = d
    · subst z
      rw [if_pos pd, sum_zero]
      intro e he
      rw [if_neg]
      intro pe
      exact n1 (h e (List.mem_cons_of_mem _ he) pe ▸ he)
    · have hd' : d ∈ l := by
        rcases List.mem_cons.mp hd with y | y
        · exact absurd y.symm z
        · exact y
      rw [if_neg (fun px => z (h x List.mem_cons_self px)), ih n2 hd' fun e he pe => h e (List.mem_cons_of_mem _ he) pe]
/-! the tree of a vertex: the vertex and the trees of its children -/
theorem Bel.trans {fs : List Nat} {a b c : Nat} (h : Bel fs a b) (g : Bel fs b c) : Bel fs a c := by
  induction g with
  | refl => exact h
  | step n _ ih => exact .step n ih
theorem Bel.comp {fs : List Nat} {a b u : Nat} (h : Bel fs a u) (g : Bel fs b u) : Bel fs a b ∨ Bel fs b a := by
  induction h with
  | refl => exact .inr g
  | step n h ih =>
    cases g with
    | refl => exact .inl (.step n h)
    | step _ g => exact ih g
theorem bel_kid {fs : List Nat} {v u : Nat} (h : Bel fs v u) (ne : u ≠ v) (rng : ∀ v, v < fs.length → par fs v < fs.length) (hu : u < fs.length) : ∃ d, d ∈ kids fs v ∧ Bel fs d u := by
  induction h with
  | refl => exact absurd rfl ne
  | @step u n h ih =>
    by_cases z : par fs u = v
    · exact ⟨u, mem_kids.mpr ⟨hu, z, fun e => n e.symm⟩, .refl⟩
    · obtain ⟨d, h1, h2⟩ := ih z (rng _ hu)
      exact ⟨d, h1, .step n h2⟩
theorem kids_nodup (fs : List Nat) (y : Nat) : (kids fs y).Nodup := List.Pairwise.filter _ List.nodup_range
open Classical in
theorem wt_kids {fs : List Nat} (F : Forest fs) {v : Nat} (hv : v < fs.length) : wt fs v = 1 + ((kids fs v).map (wt fs)).sum := by
  have e0 : ∀ d, wt fs d = ((List.range fs.length).map fun u => if Bel fs d u then 1 else 0).sum := fun d => by
    show ((List.range fs.length).filter _).length = _
    rw [len_sum]
    exact sum_congr fun u _ => by by_cases z : Bel fs d u <;> simp [z]
  have step : ∀ u ∈ List.range fs.length, (if Bel fs v u then 1 else 0) = (if u = v then 1 else 0) + ((kids fs v).map fun d => if Bel fs d u then 1 else 0).sum := fun u hu => by
    have hu := List.mem_range.mp hu
    by_cases ne : u = v
    · subst ne
      rw [if_pos .refl, if_pos rfl, sum_zero]
      intro d hd
      obtain ⟨k1, k2, k3⟩ := mem_kids.mp hd
      rw [if_neg]
      intro b
      rw [← k2] at b
      exact Bel.no (F.rch d k1) (fun e => k3 e.symm) b
    · rw [if_neg ne]
      by_cases b : Bel fs v u
      · obtain ⟨d, hd, bd⟩ := bel_kid b ne F.rng hu
        rw [if_pos b, sum_one (p := fun d => Bel fs d u) (kids_nodup fs v) hd bd]
        intro e he be
        obtain ⟨k1, k2, k3⟩ := mem_kids.mp hd
        obtain ⟨j1, j2, j3⟩ := mem_kids.mp he
        rcases be.comp bd with z | z
        · cases z with
          | refl => rfl
          | step _ z =>
            rw [k2] at z
            rw [← j2] at z
            exact absurd z (Bel.no (F.rch e j1) (fun e => j3 e.symm))
        · cases z with
          | refl => rfl
          | step _ z =>
            rw [j2] at z
            rw [← k2] at z
            exact absurd z (Bel.no (F.rch d k1) (fun e => k3 e.symm))
      · rw [if_neg b, sum_zero]
        intro d hd
        obtain ⟨k1, k2, k3⟩ := mem_kids.mp hd
        rw [if_neg]
        intro bd
        exact b (Bel.trans (.step (fun e => k3 e.symm) (by rw [k2]; exact .refl)) bd)
  rw [e0 v, sum_congr step, sum_add, sum_swap]
  have e1 : ((List.range fs.length).map fun u => if u = v then 1 else 0).sum = 1 := (sum_congr fun u _ => by by_cases z : u = v <;> simp [z]).trans (sum_one (p := fun u => u = v) List.nodup_range (List.mem_range.mpr hv) rfl fun e _ h => h)
  rw [e1]
  congr 1
  exact sum_congr fun d _ => (e0 d).symm
theorem wt_pos {fs : List Nat} (F : Forest fs) {v : Nat} (hv : v < fs.length) : 0 < wt fs v := by
  have := wt_kids F hv
  omega
theorem wt_lt {fs : List Nat} (F : Forest fs) {v d : Nat} (hv : v < fs.length) (hd : d ∈ kids fs v) : wt fs d < wt fs v := by
  have := wt_kids F hv
  have := sum_mem (f := wt fs) hd
  omega
/-! ### states on the way: S holds the vertices that are joined -/
noncomputable section
open Classical
def there (fs S : List Nat) : List Nat := (List.range fs.length).map fun v => if v ∈ S then par fs v else v
theorem there_length (fs S : List Nat) : (there fs S).length = fs.length := by unfold there; rw [List.length_map, List.length_range]
theorem par_there {fs S : List Nat} {v : Nat} (h : v < fs.length) : par (there fs S) v = if v ∈ S then par fs v else v := by
  unfold there
  show List.getD _ v 0 = _
  rw [List.getD_eq_getElem?_getD, List.getElem?_map, List.getElem?_range h]
  rfl
theorem there_up {fs S : List Nat} {k v : Nat} (rng : ∀ v, v < fs.length → par fs v < fs.length) (r : Rch fs k v) : v < fs.length → Up (there fs S) v := by
  induction r with
  | @root v h =>
    intro hv
    refine .root ?_
    rw [par_there hv]
    by_cases z : v ∈ S
    · rw [if_pos z, h]
    · rw [if_neg z]
  | @step k v h _ ih =>
    intro hv
    by_cases z : v ∈ S
    · refine .step ?_
      rw [par_there hv, if_pos z]
      exact ih (rng _ hv)
    · exact .root (by rw [par_there hv, if_neg z])
theorem there_forest {fs : List Nat} (F : Forest fs) (S : List Nat) : Forest (there fs S) := by
  have l := there_length fs S
  refine ⟨by rw [l]; exact F.pos, by rw [l]; exact F.few, fun v hv => ?_, fun v hv => ?_⟩
  · rw [l] at hv ⊢
    rw [par_there hv]
    by_cases z : v ∈ S
    · rw [if_pos z]
      exact F.rng v hv
    · rw [if_neg z]
      exact hv
  · rw [l] at hv
    obtain ⟨k, r⟩ := F.rch v hv
    exact there_up F.rng r hv
/-- the weight of p's tree so far -/
def grown (fs S : List Nat) (p : Nat) : Nat := 1 + ((kids fs p).map fun d => if d ∈ S then wt fs d else 0).sum
/-- joined vertices are no roots, and their children are joined -/
structure DC (fs S : List Nat) : Prop where
  low : ∀ v ∈ S, v < fs.length ∧ par fs v ≠ v
  cls : ∀ v ∈ S, ∀ d ∈ kids fs v, d ∈ S
theorem kids_there {fs S : List Nat} (r : Nat) : kids (there fs S) r = (kids fs r).filter fun d => decide (d ∈ S) := by
  unfold kids
  rw [there_length, List.filter_filter]
  refine List.filter_congr fun u hu => ?_
  rw [par_there (List.mem_range.mp hu)]
  by_cases z : u ∈ S
  · simp [z]
  · simp [z]
theorem there_in {fs S : List Nat} (F : Forest fs) (D : DC fs S) : ∀ (n v : Nat), wt fs v ≤ n → v ∈ S → wt (there fs S) v = wt fs v := by
  intro n
  induction n with
  | zero =>
    intro v h hv
    have := wt_pos F (D.low v hv).1
    omega
  | succ n ih =>
    intro v h hv
    have l := (D.low v hv).1
    rw [wt_kids (there_forest F S) (by rw [there_length]; exact l), wt_kids F l, kids_there, filter_sum]
    congr 1
    refine sum_congr fun d hd => ?_
    have ds := D.cls v hv d hd
    rw [if_pos (decide_eq_true ds)]
    exact ih d (by have := wt_lt F l hd; omega) ds
theorem there_out {fs S : List Nat} (F : Forest fs) (D : DC fs S) {r : Nat} (hr : r < fs.length) : wt (there fs S) r = grown fs S r := by
  rw [wt_kids (there_forest F S) (by rw [there_length]; exact hr), kids_there, filter_sum]
  unfold grown
  congr 1
  refine sum_congr fun d _ => ?_
  by_cases z : d ∈ S
  · rw [if_pos (decide_eq_true z), if_pos z]
    exact there_in F D _ d (Nat.le_refl _) z
  · rw [if_neg (fun y => z (of_decide_eq_true y)), if_neg z]
/-- v can be joined -/
structure Can (fs S : List Nat) (v : Nat) : Prop where
  low : v < fs.length
  lo : par fs v ≠ v
  new : v ∉ S
  all : ∀ d ∈ kids fs v, d ∈ S
  fit : wt fs v ≤ grown fs S (par fs v)
/-- the tree of v is whole exactly if all its children are joined -/
theorem grown_all {fs S : List Nat} (F : Forest fs) {v : Nat} (hv : v < fs.length) : grown fs S v = wt fs v ↔ ∀ d ∈ kids fs v, d ∈ S := by
  rw [wt_kids F hv]
  unfold grown
  constructor
  · intro h d hd
    refine Classical.byContradiction fun z => ?_
    have key : ∀ (l : List Nat), d ∈ l → (∀ e ∈ l, e < fs.length) → (l.map fun d => if d ∈ S then wt fs d else 0).sum < (l.map (wt fs)).sum := by
      intro l
      induction l with
      | nil => intro y; cases y
      | cons x l ih =>
        intro y hl
        simp only [List.map_cons, List.sum_cons]
        have le : (if x ∈ S then wt fs x else 0) ≤ wt fs x := by
          by_cases q : x ∈ S
          · rw [if_pos q]; exact Nat.le_refl _
          · rw [if_neg q]; exact Nat.zero_le _
        have le2 : (l.map fun d => if d ∈ S then wt fs d else 0).sum ≤ (l.map (wt fs)).sum := sum_le fun e _ => by
          by_cases q : e ∈ S
          · rw [if_pos q]; exact Nat.le_refl _
          · rw [if_neg q]; exact Nat.zero_le _
        rcases List.mem_cons.mp y with q | q
        · subst q
          rw [if_neg z]
          have := wt_pos F (hl d List.mem_cons_self)
          omega
        · have := ih q fun e he => hl e (List.mem_cons_of_mem _ he)
          omega
    have := key (kids fs v) hd fun e he => (mem_kids.mp he).1
    omega
  · intro h
    congr 1
    exact sum_congr fun d hd => if_pos (h d hd)
theorem grown_le {fs S : List Nat} (F : Forest fs) {v : Nat} (hv : v < fs.length) : grown fs S v ≤ wt fs v := by
  rw [wt_kids F hv]
  unfold grown
  have := sum_le (l := kids fs v) (f := fun d => if d ∈ S then wt fs d else 0) (g := wt fs) fun e _ => by
    by_cases q : e ∈ S
    · rw [if_pos q]; exact Nat.le_refl _
    · rw [if_neg q]; exact Nat.zero_le _
  omega
theorem grown_set {fs S T : List Nat} (h : ∀ v, v ∈ S ↔ v ∈ T) (p : Nat) : grown fs S p = grown fs T p := by
  unfold grown
  congr 1
  exact sum_congr fun d _ => by
    by_cases z : d ∈ S
    · rw [if_pos z, if_pos ((h d).mp z)]
    · rw [if_neg z, if_neg (fun y => z ((h d).mpr y))]
theorem grown_mono {fs S T : List Nat} (h : ∀ v, v ∈ S → v ∈ T) (p : Nat) : grown fs S p ≤ grown fs T p := by
  unfold grown
  have := sum_le (l := kids fs p) (f := fun d => if d ∈ S then wt fs d else 0) (g := fun d => if d ∈ T then wt fs d else 0) fun e _ => by
    by_cases q : e ∈ S
    · rw [if_pos q, if_pos (h e q)]; exact Nat.le_refl _
    · rw [if_neg q]; exact Nat.zero_le _
  omega
/-- after v is joined, its parent weighs so much more -/
theorem grown_snoc {fs S : List Nat} {v : Nat} (hv : v < fs.length) (lo : par fs v ≠ v) (new : v ∉ S) (p : Nat) : grown fs (S ++ [v]) p = grown fs S p + (if p = par fs v then wt fs v else 0) := by
  unfold grown
  have key : ∀ (l : List Nat), l.Nodup → (l.map fun d => if d ∈ S ++ [v] then wt fs d else 0).sum = (l.map fun d => if d ∈ S then wt fs d else 0).sum + (if v ∈ l then wt fs v else 0) := by
    intro l
    induction l with
    | nil => intro _; rfl
    | cons x l ih =>
      intro nd
      obtain ⟨n1, n2⟩ := List.nodup_cons.mp nd
      simp only [List.map_cons, List.sum_cons]
      rw [ih n2]
      by_cases z : x = v
      · subst z
        rw [if_pos (List.mem_append_right _ (List.mem_singleton.mpr rfl)), if_neg new, if_neg n1, if_pos List.mem_cons_self]
        omega
      · have e1 : (x ∈ S ++ [v]) ↔ x ∈ S := by simp [z]
        have e2 : (v ∈ x :: l) ↔ v ∈ l := ⟨fun y => (List.mem_cons.mp y).elim (fun e => absurd e.symm z) id, List.mem_cons_of_mem _⟩
        by_cases q : x ∈ S
        · rw [if_pos (e1.mpr q), if_pos q]
          by_cases q2 : v ∈ l
          · rw [if_pos q2, if_pos (e2.mpr q2)]; omega
          · rw [if_neg q2, if_neg (fun y => q2 (e2.mp y))]; omega
        · rw [if_neg (fun y => q (e1.mp y)), if_neg q]
          by_cases q2 : v ∈ l
          · rw [if_pos q2, if_pos (e2.mpr q2)]; omega
          · rw [if_neg q2, if_neg (fun y => q2 (e2.mp y))]; omega
  rw [key _ (kids_nodup fs p)]
  have e : (v ∈ kids fs p) ↔ p = par fs v := by
    rw [mem_kids]
    exact ⟨fun h => h.2.1.symm, fun h => ⟨hv, h.symm, fun y => lo y.symm⟩⟩
  by_cases q : p = par fs v
  · rw [if_pos q, if_pos (e.mpr q)]; omega
  · rw [if_neg q, if_neg (fun y => q (e.mp y))]; omega
/-- beginnings: each vertex possible at its turn -/
inductive Bg (fs : List Nat) : List Nat → Prop
  | nil : Bg fs []
  | snoc {S : List Nat} {v : Nat} : Bg fs S → Can fs S v → Bg fs (S ++ [v])
theorem Bg.low {fs S : List Nat} (h : Bg fs S) : ∀ v ∈ S, v < fs.length ∧ par fs v ≠ v := by
  induction h with
  | nil => intro v hv; cases hv
  | snoc _ p ih =>
    intro v hv
    rcases List.mem_append.mp hv with z | z
    · exact ih v z
    · rw [List.mem_singleton.mp z]
      exact ⟨p.low, p.lo⟩
theorem Bg.dc {fs S : List Nat} (h : Bg fs S) : DC fs S := by
  refine ⟨h.low, ?_⟩
  induction h with
  | nil => intro v hv; cases hv
  | snoc _ p ih =>
    intro v hv d hd
    rcases List.mem_append.mp hv with z | z
    · exact List.mem_append_left _ (ih v z d hd)
    · rw [List.mem_singleton.mp z] at hd
      exact List.mem_append_left _ (p.all d hd)
theorem Bg.nodup {fs S : List Nat} (h : Bg fs S) : S.Nodup := by
  induction h with
  | nil => exact List.nodup_nil
  | snoc _ p ih =>
    refine List.nodup_append.mpr ⟨ih, List.nodup_cons.mpr ⟨List.not_mem_nil, List.nodup_nil⟩, fun a ha b hb e => ?_⟩
    rw [List.mem_singleton.mp hb] at e
    exact p.new (e ▸ ha)
/-- the vertices that are no roots -/
def lowers (fs : List Nat) : List Nat := (List.range fs.length).filter fun v => !decide (par fs v = v)
theorem mem_lowers {fs : List Nat} {v : Nat} : v ∈ lowers fs ↔ v < fs.length ∧ par fs v ≠ v := by
  unfold lowers
  rw [List.mem_filter, List.mem_range]
  simp
/-- heavy children -/
def Heavy (fs : List Nat) (c : Nat) : Prop := c < fs.length ∧ par fs c ≠ c ∧ 1 + ((kids fs (par fs c)).map fun d => if wt fs d < wt fs c then wt fs d else 0).sum < wt fs c
/-- without heavy children some vertex can always be joined, until all are -/
theorem go_on {fs S : List Nat} (F : Forest fs) (nh : ∀ c, ¬ Heavy fs c) (D : ∀ v ∈ S, v < fs.length ∧ par fs v ≠ v) {u : Nat} (hu : u < fs.length) (lo : par fs u ≠ u) (new : u ∉ S) : ∃ v, Can fs S v := by
  have key : ∀ (n u : Nat), wt fs u ≤ n → u < fs.length → par fs u ≠ u → u ∉ S → ∃ v, Can fs S v := by
    intro n
    induction n with
    | zero =>
      intro u h hu
      have := wt_pos F hu
      omega
    | succ n ih =>
      intro u h hu lo new
      by_cases z : ∃ v, wt fs v < wt fs u ∧ v < fs.length ∧ par fs v ≠ v ∧ v ∉ S
      · obtain ⟨v, h1, h2, h3, h4⟩ := z
        exact ih v (by omega) h2 h3 h4
      · have all : ∀ v, wt fs v < wt fs u → v < fs.length → par fs v ≠ v → v ∈ S := fun v h1 h2 h3 => Classical.byContradiction fun h4 => z ⟨v, h1, h2, h3, h4⟩
        refine ⟨u, hu, lo, new, fun d hd => ?_, ?_⟩
        · obtain ⟨k1, k2, k3⟩ := mem_kids.mp hd
          exact all d (wt_lt F hu hd) k1 fun e => k3 e.symm
        · have hn := nh u
          unfold Heavy at hn
          have hn : wt fs u ≤ 1 + ((kids fs (par fs u)).map fun d => if wt fs d < wt fs u then wt fs d else 0).sum := Nat.le_of_not_lt fun y => hn ⟨hu, lo, y⟩
          refine Nat.le_trans hn ?_
          unfold grown
          refine Nat.add_le_add_left (sum_le fun d hd => ?_) _
          obtain ⟨k1, k2, k3⟩ := mem_kids.mp hd
          by_cases y : wt fs d < wt fs u
          · rw [if_pos y, if_pos (all d y k1 fun e => k3 e.symm)]
            exact Nat.le_refl _
          · rw [if_neg y]
            exact Nat.zero_le _
  exact key _ u (Nat.le_refl _) hu lo new
/-- what is joined is not too heavy -/
theorem Bg.light {fs S : List Nat} (F : Forest fs) (h : Bg fs S) : ∀ c ∈ S, ¬ Heavy fs c := by
  -- the first one of p's children that is at least as heavy as c
  have key : ∀ (c : Nat), Heavy fs c → ∀ e ∈ S, par fs e = par fs c → wt fs e < wt fs c := by
    intro c hc
    induction h with
    | nil => intro e he; cases he
    | @snoc S v b p ih =>
      intro e he pe
      rcases List.mem_append.mp he with z | z
      · exact ih e z pe
      · have z := List.mem_singleton.mp z
        subst z
        refine Nat.lt_of_le_of_lt p.fit (Nat.lt_of_le_of_lt ?_ hc.2.2)
        rw [pe]
        unfold grown
        refine Nat.add_le_add_left (sum_le fun d hd => ?_) _
        obtain ⟨k1, k2, k3⟩ := mem_kids.mp hd
        by_cases y : d ∈ S
        · rw [if_pos y, if_pos (ih d y k2)]
          exact Nat.le_refl _
        · rw [if_neg y]
          exact Nat.zero_le _
  intro c hc hh
  exact absurd (key c hh c hc rfl) (Nat.lt_irrefl _)
end
end Lf
namespace Lf
/-! ### the search through all orders of joins: plain mathematics -/
noncomputable section
open Classical
theorem there_get {fs S : List Nat} : there fs S = fs ↔ ∀ v, v < fs.length → par fs v ≠ v → v ∈ S := by
  constructor
  · intro h v hv lo
    refine Classical.byContradiction fun z => lo ?_
    have := par_there (S := S) hv
    rw [h, if_neg z] at this
    exact this
  · intro h
    refine List.ext_getElem? fun i => ?_
    unfold there
    by_cases z : i < fs.length
    · rw [List.getElem?_map, List.getElem?_range z]
      have e : fs[i]? = some (par fs i) := by
        unfold par
        rw [List.getD_eq_getElem?_getD, List.getElem?_eq_getElem z]
        rfl
      rw [e]
      show some (if i ∈ S then par fs i else i) = _
      by_cases y : par fs i = i
      · rw [y]
        by_cases q : i ∈ S
        · rw [if_pos q]
        · rw [if_neg q]
      · rw [if_pos (h i z y)]
    · rw [List.getElem?_eq_none (by rw [List.length_map, List.length_range]; omega), List.getElem?_eq_none (by omega)]
theorem there_nil (fs : List Nat) : there fs [] = List.range fs.length := by
  unfold there
  simp
theorem there_inj {fs S T : List Nat} (DS : ∀ v ∈ S, v < fs.length ∧ par fs v ≠ v) (DT : ∀ v ∈ T, v < fs.length ∧ par fs v ≠ v) (h : there fs S = there fs T) : ∀ v, v ∈ S ↔ v ∈ T := by
  have one : ∀ {S T : List Nat}, (∀ v ∈ S, v < fs.length ∧ par fs v ≠ v) → there fs S = there fs T → ∀ v, v ∈ S → v ∈ T := by
    intro S T DS h v hv
    obtain ⟨l, lo⟩ := DS v hv
    refine Classical.byContradiction fun z => lo ?_
    have e1 := par_there (S := S) l
    have e2 := par_there (S := T) l
    rw [h, if_pos hv] at e1
    rw [if_neg z] at e2
    exact e1.symm.trans e2
  exact fun v => ⟨one DS h v, one DT h.symm v⟩
theorem there_set {fs S T : List Nat} (h : ∀ v, v ∈ S ↔ v ∈ T) : there fs S = there fs T := by
  unfold there
  refine List.map_congr_left fun v _ => ?_
  by_cases z : v ∈ S
  · rw [if_pos z, if_pos ((h v).mp z)]
  · rw [if_neg z, if_neg (fun y => z ((h v).mpr y))]
theorem there_snoc {fs S : List Nat} {v : Nat} : (there fs S).set v (par fs v) = there fs (S ++ [v]) := by
  unfold there
  refine List.ext_getElem? fun i => ?_
  rw [List.getElem?_set, List.getElem?_map, List.getElem?_map, List.length_map, List.length_range]
  by_cases z : i < fs.length
  · rw [List.getElem?_range z]
    by_cases y : v = i
    · subst y
      rw [if_pos rfl, if_pos z]
      show _ = some (if v ∈ S ++ [v] then par fs v else v)
      rw [if_pos (List.mem_append_right _ (List.mem_singleton.mpr rfl))]
    · rw [if_neg y]
      show some (if i ∈ S then par fs i else i) = some (if i ∈ S ++ [v] then par fs i else i)
      have e1 : (i ∈ S ++ [v]) ↔ i ∈ S := by
        rw [List.mem_append, List.mem_singleton]
        exact ⟨fun q => q.elim id fun q => absurd q.symm y, .inl⟩
      by_cases q : i ∈ S
      · rw [if_pos q, if_pos (e1.mpr q)]
      · rw [if_neg q, if_neg (fun w => q (e1.mp w))]
  · rw [List.getElem?_eq_none (l := List.range fs.length) (by rw [List.length_range]; omega)]
    by_cases y : v = i
    · rw [if_pos y, if_neg (by omega)]
      rfl
    · rw [if_neg y]
      rfl
theorem Can.set {fs S T : List Nat} {v : Nat} (h : ∀ v, v ∈ S ↔ v ∈ T) (p : Can fs S v) : Can fs T v := ⟨p.low, p.lo, fun z => p.new ((h v).mpr z), fun d hd => (h d).mp (p.all d hd), by rw [← grown_set h]; exact p.fit⟩
/-- the whole trees below stay so when others are joined -/
theorem there_in' {fs S T : List Nat} (F : Forest fs) (D : DC fs S) (sub : ∀ v ∈ S, v ∈ T) : ∀ (n v : Nat), wt fs v ≤ n → v ∈ S → wt (there fs T) v = wt fs v := by
  intro n
  induction n with
  | zero =>
    intro v h hv
    have := wt_pos F (D.low v hv).1
    omega
  | succ n ih =>
    intro v h hv
    have l := (D.low v hv).1
    rw [wt_kids (there_forest F T) (by rw [there_length]; exact l), wt_kids F l, kids_there, filter_sum]
    congr 1
    refine sum_congr fun d hd => ?_
    have ds := D.cls v hv d hd
    rw [if_pos (decide_eq_true (sub d ds))]
    exact ih d (by have := wt_lt F l hd; omega) ds
/-- after v is put below its parent, its own tree is as it was -/
theorem there_own {fs S : List Nat} (F : Forest fs) (D : DC fs S) {v : Nat} (hv : v < fs.length) (lo : par fs v ≠ v) : wt (there fs (S ++ [v])) v = grown fs S v := by
  rw [wt_kids (there_forest F _) (by rw [there_length]; exact hv), kids_there, filter_sum]
  unfold grown
  congr 1
  refine sum_congr fun d hd => ?_
  have ne : d ≠ v := fun e => by
    subst e
    exact lo (mem_kids.mp hd).2.1
  have e1 : (d ∈ S ++ [v]) ↔ d ∈ S := by
    rw [List.mem_append, List.mem_singleton]
    exact ⟨fun q => q.elim id fun q => absurd q ne, .inl⟩
  by_cases z : d ∈ S
  · rw [if_pos (decide_eq_true (e1.mpr z)), if_pos z]
    exact there_in' F D (fun v hv => List.mem_append_left _ hv) _ d (Nat.le_refl _) z
  · rw [if_neg (fun y => z (e1.mp (of_decide_eq_true y))), if_neg z]
/-- (a, b) is a join -/
def Jn (fs : List Nat) (a b : Nat) : Prop := a < fs.length ∧ par fs a = a ∧ b < fs.length ∧ par fs b = b ∧ a ≠ b ∧ cnt fs a fs.length ≤ cnt fs b fs.length
/-- what the step's tests say -/
theorem step_pos {fs S : List Nat} (F : Forest fs) (b : Bg fs S) {c : Nat} (hc : c < fs.length) : (Jn (there fs S) c (par fs c) ∧ wt (there fs (S ++ [c])) c = wt fs c) ↔ Can fs S c := by
  have D := b.dc
  have pc := F.rng c hc
  constructor
  · rintro ⟨⟨_, h1, _, h2, h3, h4⟩, h5⟩
    rw [there_own F D hc (fun e => h3 e.symm)] at h5
    have new : c ∉ S := fun z => by
      rw [par_there hc, if_pos z] at h1
      exact h3 h1.symm
    refine ⟨hc, fun e => h3 e.symm, new, (grown_all F hc).mp h5, ?_⟩
    have e1 := there_out F D hc
    have e2 := there_out F D pc
    rw [← h5, ← e1, ← e2]
    exact h4
  · intro p
    have pn : par fs c ∉ S := fun z => p.new (D.cls _ z c (mem_kids.mpr ⟨hc, rfl, fun e => p.lo e.symm⟩))
    refine ⟨⟨by rw [there_length]; exact hc, by rw [par_there hc, if_neg p.new], by rw [there_length]; exact pc, by rw [par_there pc, if_neg pn], fun e => p.lo e.symm, ?_⟩, ?_⟩
    · show wt (there fs S) c ≤ wt (there fs S) (par fs c)
      rw [there_out F D hc, there_out F D pc]
      exact Nat.le_trans (grown_le F hc) p.fit
    · rw [there_own F D hc p.lo]
      exact (grown_all F hc).mpr p.all
/-- all states -/
def allT (fs : List Nat) : List Nat → List (List Nat)
  | [] => [[]]
  | v :: vs => (allT fs vs).flatMap fun r => [v :: r, par fs v :: r]
theorem allT_length (fs : List Nat) : ∀ vs, (allT fs vs).length = 2 ^ vs.length
  | [] => rfl
  | v :: vs => by
    have key : ∀ l : List (List Nat), (l.flatMap fun r => [v :: r, par fs v :: r]).length = 2 * l.length := by
      intro l
      induction l with
      | nil => rfl
      | cons x l ih =>
        rw [List.flatMap_cons, List.length_append, ih]
        show 2 + 2 * l.length = 2 * (l.length + 1)
        omega
    show ((allT fs vs).flatMap _).length = _
    rw [key, allT_length fs vs, List.length_cons, Nat.pow_succ, Nat.mul_comm]
theorem allT_mem (fs S : List Nat) : ∀ vs, (vs.map fun v => if v ∈ S then par fs v else v) ∈ allT fs vs
  | [] => List.mem_singleton.mpr rfl
  | v :: vs => by
    refine List.mem_flatMap.mpr ⟨_, allT_mem fs S vs, ?_⟩
    rw [List.map_cons]
    by_cases z : v ∈ S
    · rw [if_pos z]
      exact List.mem_cons_of_mem _ List.mem_cons_self
    · rw [if_neg z]
      exact List.mem_cons_self
theorem nodup_sub {α : Type} : ∀ {l m : List α}, l.Nodup → (∀ x ∈ l, x ∈ m) → l.length ≤ m.length
  | [], m, _, _ => Nat.zero_le _
  | x :: l, m, nd, h => by
    obtain ⟨n1, n2⟩ := List.nodup_cons.mp nd
    have hx := h x List.mem_cons_self
    have := nodup_sub (l := l) (m := m.erase x) n2 fun y hy => (List.mem_erase_of_ne (fun e : y = x => n1 (e ▸ hy))).mpr (h y (List.mem_cons_of_mem _ hy))
    rw [List.length_erase_of_mem hx] at this
    have := List.length_pos_of_mem hx
    rw [List.length_cons]
    omega
/-- closed at M for the children below k -/
def ClsAt (fs : List Nat) (Ms : List (List Nat)) (M : List Nat) (k : Nat) : Prop := ∀ S v, v < k → M = there fs S → Bg fs S → Can fs S v → there fs (S ++ [v]) ∈ Ms
structure Srch (fs : List Nat) (Ms Ws : List (List Nat)) (ex : List Nat → Prop) : Prop where
  st : List.range fs.length ∈ Ms
  bg : ∀ M ∈ Ms, ∃ S, Bg fs S ∧ M = there fs S
  nd : Ms.Nodup
  sub : ∀ W ∈ Ws, W ∈ Ms
  cls : ∀ M ∈ Ms, M ∉ Ws → ¬ ex M → ClsAt fs Ms M fs.length
  le : Ws.length ≤ Ms.length
theorem Srch.few {fs : List Nat} {Ms Ws : List (List Nat)} {ex : List Nat → Prop} (h : Srch fs Ms Ws ex) : Ms.length ≤ 2 ^ fs.length := by
  have := nodup_sub (m := allT fs (List.range fs.length)) h.nd fun M hM => by
    obtain ⟨S, _, rfl⟩ := h.bg M hM
    exact allT_mem fs S _
  rw [allT_length, List.length_range] at this
  exact this
theorem Srch.start (fs : List Nat) : Srch fs [List.range fs.length] [List.range fs.length] fun _ => False :=
  ⟨List.mem_singleton.mpr rfl, fun M hM => ⟨[], .nil, by rw [List.mem_singleton.mp hM, there_nil]⟩, List.nodup_cons.mpr ⟨List.not_mem_nil, List.nodup_nil⟩, fun W h => h, fun M h1 h2 => absurd h1 h2, Nat.le_refl _⟩
theorem Srch.pop {fs : List Nat} {Ms Ws : List (List Nat)} {M : List Nat} (h : Srch fs Ms (Ws ++ [M]) fun _ => False) : Srch fs Ms Ws fun N => N = M :=
  ⟨h.st, h.bg, h.nd, fun W hW => h.sub W (List.mem_append_left _ hW), fun N h1 h2 h3 => h.cls N h1 (fun z => (List.mem_append.mp z).elim h2 fun y => h3 (List.mem_singleton.mp y)) id, by have := h.le; rw [List.length_append] at this; omega⟩
theorem Srch.back {fs : List Nat} {Ms Ws : List (List Nat)} {M : List Nat} (h : Srch fs Ms Ws fun N => N = M) (c : ClsAt fs Ms M fs.length) : Srch fs Ms Ws fun _ => False :=
  ⟨h.st, h.bg, h.nd, h.sub, fun N h1 h2 _ => by
    by_cases z : N = M
    · subst z
      exact c
    · exact h.cls N h1 h2 z, h.le⟩
theorem ClsAt.more {fs : List Nat} {Ms Ns : List (List Nat)} {M : List Nat} {k : Nat} (h : ClsAt fs Ms M k) (s : ∀ x ∈ Ms, x ∈ Ns) : ClsAt fs Ns M k := fun S v hv e b p => s _ (h S v hv e b p)
theorem Srch.add {fs : List Nat} {Ms Ws : List (List Nat)} {M S : List Nat} {v : Nat} (h : Srch fs Ms Ws fun N => N = M) (b : Bg fs S) (p : Can fs S v) (new : there fs (S ++ [v]) ∉ Ms) : Srch fs (Ms ++ [there fs (S ++ [v])]) (Ws ++ [there fs (S ++ [v])]) fun N => N = M := by
  refine ⟨List.mem_append_left _ h.st, fun N hN => ?_, ?_, fun W hW => ?_, fun N h1 h2 h3 => ?_, by have := h.le; rw [List.length_append, List.length_append]; exact Nat.add_le_add_right this _⟩
  · rcases List.mem_append.mp hN with z | z
    · exact h.bg N z
    · exact ⟨_, b.snoc p, List.mem_singleton.mp z⟩
  · refine List.nodup_append.mpr ⟨h.nd, List.nodup_cons.mpr ⟨List.not_mem_nil, List.nodup_nil⟩, fun x hx y hy e => ?_⟩
    rw [List.mem_singleton.mp hy] at e
    exact new (e ▸ hx)
  · rcases List.mem_append.mp hW with z | z
    · exact List.mem_append_left _ (h.sub W z)
    · exact List.mem_append_right _ z
  · rcases List.mem_append.mp h1 with z | z
    · exact (h.cls N z (fun y => h2 (List.mem_append_left _ y)) h3).more fun x hx => List.mem_append_left _ hx
    · exact absurd (List.mem_append_right _ z) h2
/-- at M = there fs S: all that is due for v -/
theorem ClsAt.next {fs : List Nat} {Ms : List (List Nat)} {S : List Nat} {k : Nat} (b : Bg fs S) (h : ClsAt fs Ms (there fs S) k) (new : Can fs S k → there fs (S ++ [k]) ∈ Ms) : ClsAt fs Ms (there fs S) (k + 1) := by
  intro T v hv e bT p
  by_cases z : v < k
  · exact h T v z e bT p
  · have z : v = k := by omega
    subst z
    have same := there_inj b.low bT.low e
    have := new (p.set fun x => (same x).symm)
    rw [there_set (T := S ++ [v]) fun x => by rw [List.mem_append, List.mem_append, same x]]
    exact this
theorem Srch.done {fs : List Nat} (F : Forest fs) {Ms : List (List Nat)} (h : Srch fs Ms [] fun _ => False) : fs ∈ Ms ↔ ∀ c, ¬ Heavy fs c := by
  constructor
  · intro hm c hc
    obtain ⟨S, b, e⟩ := h.bg fs hm
    exact b.light F c (there_get.mp e.symm c hc.1 hc.2.1) hc
  · intro nh
    have key : ∀ (n : Nat) (S : List Nat), Bg fs S → there fs S ∈ Ms → fs.length - S.length ≤ n → fs ∈ Ms := by
      intro n
      induction n with
      | zero =>
        intro S b hS le
        by_cases z : ∃ u, u < fs.length ∧ par fs u ≠ u ∧ u ∉ S
        · obtain ⟨u, h1, h2, h3⟩ := z
          have : (u :: S).length ≤ fs.length := nodup_le (List.nodup_cons.mpr ⟨h3, b.nodup⟩) fun x hx => by
            rcases List.mem_cons.mp hx with y | y
            · omega
            · exact (b.low x y).1
          rw [List.length_cons] at this
          omega
        · rw [there_get.mpr fun v h1 h2 => Classical.byContradiction fun h3 => z ⟨v, h1, h2, h3⟩] at hS
          exact hS
      | succ n ih =>
        intro S b hS le
        by_cases z : ∃ u, u < fs.length ∧ par fs u ≠ u ∧ u ∉ S
        · obtain ⟨u, h1, h2, h3⟩ := z
          obtain ⟨v, p⟩ := go_on F nh b.low h1 h2 h3
          refine ih (S ++ [v]) (b.snoc p) (h.cls _ hS List.not_mem_nil id S v p.low rfl b p) ?_
          rw [List.length_append]
          show fs.length - (S.length + 1) ≤ n
          omega
        · rw [there_get.mpr fun v h1 h2 => Classical.byContradiction fun h3 => z ⟨v, h1, h2, h3⟩] at hS
          exact hS
    exact key _ [] .nil (by rw [there_nil]; exact h.st) (Nat.le_refl _)
end
end Lf
namespace Lf
/-! ### histories: plain mathematics -/
noncomputable section
open Classical
theorem lowers_nodup (fs : List Nat) : (lowers fs).Nodup := List.Pairwise.filter _ List.nodup_range
theorem tops_lowers (fs : List Nat) : (tops fs).length + (lowers fs).length = fs.length := by
  have key : ∀ (l : List Nat) (p : Nat → Bool), (l.filter p).length + (l.filter fun v => !p v).length = l.length := by
    intro l p
    induction l with
    | nil => rfl
    | cons x l ih =>
      by_cases h : p x = true
      · rw [List.filter_cons_of_pos h, List.filter_cons_of_neg (by simp [h])]
        simp only [List.length_cons]
        omega
      · rw [List.filter_cons_of_neg h, List.filter_cons_of_pos (by simp [h])]
        simp only [List.length_cons]
        omega
  have := key (List.range fs.length) fun v => decide (par fs v = v)
  rw [List.length_range] at this
  exact this
/-- a whole history -/
def Hs (fs S : List Nat) : Prop := Bg fs S ∧ S.length = (lowers fs).length
theorem Bg.le {fs S : List Nat} (b : Bg fs S) : S.length ≤ (lowers fs).length := nodup_sub b.nodup fun v hv => mem_lowers.mpr (b.low v hv)
theorem Hs.all {fs S : List Nat} (h : Hs fs S) : ∀ v, v < fs.length → par fs v ≠ v → v ∈ S := by
  intro v hv lo
  refine Classical.byContradiction fun z => ?_
  have := nodup_sub (l := v :: S) (m := lowers fs) (List.nodup_cons.mpr ⟨z, h.1.nodup⟩) fun x hx => by
    rcases List.mem_cons.mp hx with y | y
    · rw [y]
      exact mem_lowers.mpr ⟨hv, lo⟩
    · exact mem_lowers.mpr (h.1.low x y)
  rw [List.length_cons, h.2] at this
  omega
theorem Hs.of {fs S : List Nat} (b : Bg fs S) (h : ∀ v, v < fs.length → par fs v ≠ v → v ∈ S) : Hs fs S := by
  refine ⟨b, Nat.le_antisymm b.le (nodup_sub (lowers_nodup fs) fun v hv => ?_)⟩
  obtain ⟨h1, h2⟩ := mem_lowers.mp hv
  exact h v h1 h2
theorem Hs.there {fs S : List Nat} (h : Hs fs S) : there fs S = fs := there_get.mpr h.all
theorem Bg.there {fs S : List Nat} (b : Bg fs S) (h : there fs S = fs) : Hs fs S := Hs.of b (there_get.mp h)
theorem Hs.light {fs S : List Nat} (F : Forest fs) (h : Hs fs S) : ∀ c, ¬ Heavy fs c := fun c hc => h.1.light F c (h.all c hc.1 hc.2.1) hc
/-- every beginning of a forest without heavy children can be finished -/
theorem Bg.ends {fs : List Nat} (F : Forest fs) (nh : ∀ c, ¬ Heavy fs c) : ∀ (n : Nat) (S : List Nat), Bg fs S → (lowers fs).length - S.length ≤ n → ∃ T, Hs fs (S ++ T) := by
  intro n
  induction n with
  | zero =>
    intro S b le
    have := b.le
    exact ⟨[], by rw [List.append_nil]; exact ⟨b, by omega⟩⟩
  | succ n ih =>
    intro S b le
    by_cases z : ∃ u, u < fs.length ∧ par fs u ≠ u ∧ u ∉ S
    · obtain ⟨u, h1, h2, h3⟩ := z
      obtain ⟨v, p⟩ := go_on F nh b.low h1 h2 h3
      obtain ⟨T, h⟩ := ih (S ++ [v]) (b.snoc p) (by rw [List.length_append]; show _ - (S.length + 1) ≤ n; omega)
      exact ⟨v :: T, by rw [List.append_assoc] at h; exact h⟩
    · exact ⟨[], by rw [List.append_nil]; exact Hs.of b fun v h1 h2 => Classical.byContradiction fun h3 => z ⟨v, h1, h2, h3⟩⟩
/-- what is possible stays possible -/
theorem Can.stay {fs S : List Nat} {v u : Nat} (p : Can fs S v) (ne : v ≠ u) : Can fs (S ++ [u]) v :=
  ⟨p.low, p.lo, fun z => (List.mem_append.mp z).elim p.new fun y => ne (List.mem_singleton.mp y), fun d hd => List.mem_append_left _ (p.all d hd), Nat.le_trans p.fit (grown_mono (fun x hx => List.mem_append_left _ hx) _)⟩
theorem Bg.last {fs S : List Nat} {v : Nat} (h : Bg fs (S ++ [v])) : Bg fs S ∧ Can fs S v := by
  generalize e : S ++ [v] = T at h
  cases h with
  | nil => cases S <;> cases e
  | @snoc S' v' b p =>
    obtain ⟨e1, e2⟩ := List.append_inj' e rfl
    cases e2
    subst e1
    exact ⟨b, p⟩
theorem Bg.pre {fs : List Nat} : ∀ {T S : List Nat}, Bg fs (S ++ T) → Bg fs S := by
  intro T
  induction T with
  | nil =>
    intro S h
    rw [List.append_nil] at h
    exact h
  | cons v T ih =>
    intro S h
    have : Bg fs ((S ++ [v]) ++ T) := by rw [List.append_assoc]; exact h
    exact (ih this).last.1
theorem Bg.take {fs S : List Nat} (h : Bg fs S) (k : Nat) : Bg fs (S.take k) := by
  rw [← List.take_append_drop k S] at h
  exact h.pre
theorem Bg.at {fs S : List Nat} (h : Bg fs S) {k v : Nat} (e : S[k]? = some v) : Can fs (S.take k) v := by
  have := h.take (k + 1)
  rw [List.take_add_one, e] at this
  exact this.last.2
/-! a join keeps a forest without heavy children -/
theorem par_join {fs : List Nat} {a b v : Nat} (ha : a < fs.length) : par (fs.set a b) v = if v = a then b else par fs v := par_set ha
theorem kids_join {fs : List Nat} {a b : Nat} (ha : a < fs.length) (pa : par fs a = a) (ne : a ≠ b) {x u : Nat} : u ∈ kids (fs.set a b) x ↔ u ∈ kids fs x ∨ (u = a ∧ x = b) := by
  rw [mem_kids, mem_kids, List.length_set, par_join ha]
  by_cases z : u = a
  · subst z
    rw [if_pos rfl]
    constructor
    · rintro ⟨_, h, _⟩
      exact .inr ⟨rfl, h.symm⟩
    · rintro (⟨_, h1, h2⟩ | ⟨_, h⟩)
      · exact absurd pa.symm h2
      · exact ⟨ha, h.symm, ne⟩
  · rw [if_neg z]
    constructor
    · exact fun h => .inl h
    · rintro (h | ⟨h, _⟩)
      · exact h
      · exact absurd h z
theorem sum_perm {l m : List Nat} (hl : l.Nodup) (hm : m.Nodup) (h : ∀ u, u ∈ l ↔ u ∈ m) (f : Nat → Nat) : (l.map f).sum = (m.map f).sum := by
  have := ((List.perm_ext_iff_of_nodup hl hm).mpr h).map f
  exact this.sum_nat
theorem join_forest {fs : List Nat} (F : Forest fs) {a b : Nat} (ha : a < fs.length) (pa : par fs a = a) (hb : b < fs.length) (pb : par fs b = b) (ne : a ≠ b) : Forest (fs.set a b) := F.moved ha hb fun z => by
  cases z with
  | refl => exact ne rfl
  | step h _ => exact h pb
theorem wt_join {fs : List Nat} (F : Forest fs) {a b : Nat} (ha : a < fs.length) (pa : par fs a = a) (hb : b < fs.length) (pb : par fs b = b) (ne : a ≠ b) : ∀ (n v : Nat), wt fs v ≤ n → v < fs.length → v ≠ b → wt (fs.set a b) v = wt fs v := by
  intro n
  have F' := join_forest F ha pa hb pb ne
  induction n with
  | zero =>
    intro v h hv
    have := wt_pos F hv
    omega
  | succ n ih =>
    intro v h hv nb
    rw [wt_kids F' (by rw [List.length_set]; exact hv), wt_kids F hv]
    congr 1
    rw [sum_perm (kids_nodup _ v) (kids_nodup fs v) (fun u => ?_) (wt (fs.set a b))]
    · refine sum_congr fun d hd => ?_
      obtain ⟨k1, k2, k3⟩ := mem_kids.mp hd
      refine ih d (by have := wt_lt F hv hd; omega) k1 fun e => ?_
      subst e
      exact k3 pb.symm
    · rw [kids_join ha pa ne]
      exact ⟨fun z => z.elim id fun y => absurd y.2 nb, .inl⟩
theorem join_light {fs : List Nat} (F : Forest fs) {a b : Nat} (ha : a < fs.length) (pa : par fs a = a) (hb : b < fs.length) (pb : par fs b = b) (ne : a ≠ b) (le : wt fs a ≤ wt fs b) (nh : ∀ c, ¬ Heavy fs c) : ∀ c, ¬ Heavy (fs.set a b) c := by
  have F' := join_forest F ha pa hb pb ne
  have same : ∀ v, v < fs.length → v ≠ b → wt (fs.set a b) v = wt fs v := fun v => wt_join F ha pa hb pb ne _ v (Nat.le_refl _)
  rintro c ⟨hc, lo, hv⟩
  rw [List.length_set] at hc
  rw [par_join ha] at lo hv
  have kb : ∀ {d x : Nat}, d ∈ kids fs x → d < fs.length ∧ d ≠ b := fun hd => by
    obtain ⟨k1, k2, k3⟩ := mem_kids.mp hd
    refine ⟨k1, fun e => ?_⟩
    subst e
    exact k3 pb.symm
  -- sums over old children only grow
  have grow : ∀ (x w : Nat), ((kids fs x).map fun d => if wt fs d < w then wt fs d else 0).sum ≤ ((kids (fs.set a b) x).map fun d => if wt (fs.set a b) d < w then wt (fs.set a b) d else 0).sum := by
    intro x w
    have e1 : ((kids fs x).map fun d => if wt fs d < w then wt fs d else 0).sum = ((kids fs x).map fun d => if wt (fs.set a b) d < w then wt (fs.set a b) d else 0).sum := sum_congr fun d hd => by
      obtain ⟨k1, k2⟩ := kb hd
      rw [same d k1 k2]
    rw [e1]
    by_cases z : x = b
    · subst z
      have e2 := sum_perm (m := a :: kids fs x) (kids_nodup (fs.set a x) x) (List.nodup_cons.mpr ⟨fun y => (mem_kids.mp y).2.2 pa.symm, kids_nodup fs x⟩) (fun u => by
        rw [kids_join ha pa ne, List.mem_cons]
        exact ⟨fun y => y.elim .inr fun q => .inl q.1, fun y => y.elim (fun q => .inr ⟨q, rfl⟩) .inl⟩) (fun d => if wt (fs.set a x) d < w then wt (fs.set a x) d else 0)
      rw [e2, List.map_cons, List.sum_cons]
      exact Nat.le_add_left _ _
    · rw [sum_perm (kids_nodup (fs.set a b) x) (kids_nodup fs x) fun u => by
        rw [kids_join ha pa ne]
        exact ⟨fun y => y.elim id fun q => absurd q.2 z, .inl⟩]
      exact Nat.le_refl _
  by_cases ca : c = a
  · subst ca
    rw [if_pos rfl] at lo hv
    rw [same c hc ne] at hv
    have g := grow b (wt fs c)
    -- the lightest child of b that is at least as heavy
    have key : ∀ (n d : Nat), wt fs d ≤ n → d ∈ kids fs b → wt fs c ≤ wt fs d → wt fs c ≤ 1 + ((kids fs b).map fun d => if wt fs d < wt fs c then wt fs d else 0).sum := by
      intro n
      induction n with
      | zero =>
        intro d h hd
        have := wt_pos F (kb hd).1
        omega
      | succ n ih =>
        intro d h hd hle
        by_cases y : ∃ e, e ∈ kids fs b ∧ wt fs c ≤ wt fs e ∧ wt fs e < wt fs d
        · obtain ⟨e, e1, e2, e3⟩ := y
          exact ih e (by omega) e1 e2
        · obtain ⟨k1, k2, k3⟩ := mem_kids.mp hd
          have hn := nh d
          unfold Heavy at hn
          have hn : wt fs d ≤ 1 + ((kids fs (par fs d)).map fun e => if wt fs e < wt fs d then wt fs e else 0).sum := Nat.le_of_not_lt fun q => hn ⟨k1, fun e => k3 e.symm, q⟩
          rw [k2] at hn
          refine Nat.le_trans hle (Nat.le_trans hn (Nat.add_le_add_left (sum_le fun e he => ?_) _))
          by_cases q : wt fs e < wt fs d
          · rw [if_pos q, if_pos (Nat.lt_of_not_le fun r => y ⟨e, he, r, q⟩)]
            exact Nat.le_refl _
          · rw [if_neg q]
            exact Nat.zero_le _
    have fin : wt fs c ≤ 1 + ((kids fs b).map fun d => if wt fs d < wt fs c then wt fs d else 0).sum := by
      by_cases y : ∃ d, d ∈ kids fs b ∧ wt fs c ≤ wt fs d
      · obtain ⟨d, h1, h2⟩ := y
        exact key _ d (Nat.le_refl _) h1 h2
      · refine Nat.le_trans le ?_
        rw [wt_kids F hb]
        refine Nat.add_le_add_left (sum_le fun d hd => ?_) _
        rw [if_pos (Nat.lt_of_not_le fun q => y ⟨d, hd, q⟩)]
        exact Nat.le_refl _
    omega
  · rw [if_neg ca] at lo hv
    have cb : c ≠ b := fun e => by
      subst e
      exact lo pb
    rw [same c hc cb] at hv
    have g := grow (par fs c) (wt fs c)
    exact nh c ⟨hc, lo, by omega⟩
theorem range_light (n : Nat) : ∀ c, ¬ Heavy (List.range n) c := fun c h => by
  have hc := h.1
  rw [List.length_range] at hc
  exact h.2.1 (par_range hc)
end
end Lf
namespace Lf
open PySem PySem.Spec PyProof.Rows L2
/-! ### _law_grown -/
def spGrown : Sp := fun vs H Q _ => ∃ (w l : Addr) (most : Int), vs = [.ref w, .int most] ∧ Well w l H ∧ 0 < most ∧ most ≤ 24 ∧
  ∀ (fs : List Nat) (q : Addr) (H' : Hp), Forest fs → (fs.length : Int) ≤ most → Well w l H' → Keep w l H H' → H q = none → H' q = some (.tup (nv fs)) → Q (.ref q) H'
/-- .. without heavy children -/
def spGrownB : Sp := fun vs H Q _ => ∃ (w l : Addr) (most : Int), vs = [.ref w, .int most] ∧ Well w l H ∧ 0 < most ∧ most ≤ 24 ∧
  ∀ (fs : List Nat) (q : Addr) (H' : Hp), Forest fs → (∀ c, ¬ Heavy fs c) → (fs.length : Int) ≤ most → Well w l H' → Keep w l H H' → H q = none → H' q = some (.tup (nv fs)) → Q (.ref q) H'
theorem rgV_nv (n : Nat) : rgV 0 (n : Int) = nv (List.range n) := by
  unfold rgV nv
  simp
theorem keep_free {w l p : Addr} {H H' : Hp} (k : Keep w l H H') (W : Well w l H') (h : H' p = none) : H p = none := by
  obtain ⟨_, _, _, h1, h2, _⟩ := W
  cases z : H p with
  | none => rfl
  | some o =>
    rw [k _ _ (ne_of_none h1 h).symm (ne_of_none h2 h).symm z] at h
    cases h
theorem tops_range (n : Nat) : tops (List.range n) = List.range n := by
  unfold tops
  rw [List.length_range, List.filter_eq_self]
  intro v hv
  exact decide_eq_true (par_range (List.mem_range.mp hv))
/-- a number's value -/
def unV : V → Nat
  | .int i => i.toNat
  | _ => 0
theorem un_nv (l : List Nat) : (nv l).map unV = l := by
  unfold nv
  rw [List.map_map]
  have : (unV ∘ fun x : Nat => V.int (x : Nat)) = id := funext fun x => Int.toNat_natCast x
  rw [this, List.map_id]
theorem perm_nv {zs : List V} {l : List Nat} (p : zs.Perm (nv l)) : ∃ ms, zs = nv ms ∧ ms.Perm l := by
  refine ⟨zs.map unV, ?_, ?_⟩
  · have all : ∀ z ∈ zs, V.int ((unV z : Nat) : Int) = z := fun z hz => by
      obtain ⟨x, _, rfl⟩ := List.mem_map.mp (p.mem_iff.mp hz)
      rfl
    unfold nv
    rw [List.map_map]
    conv => lhs; rw [← List.map_id zs]
    exact List.map_congr_left fun z hz => (all z hz).symm
  · have := p.map unV
    rwa [un_nv] at this
/-- what the pair at a reference points to -/
def pairAt (H : Hp) (xs : List V) : V → V
  | .ref t => match H t with
    | some (.tup [_, .int j]) => xs.getD j.toNat .non
    | _ => .non
  | _ => .non
section
variable {P : Program} {w : World} {K : PySem.W.Frag} {mg : Str → Option Value} {base : Heap}
abbrev NG : List Str := ["_law_well_here", "_law_most", "_law_n", "_law_parents", "_law_way", "_law_turn", "_law_tops_here", "_law_ranked", "_law_one", "_law_other", "_law_k", "_law_weight"]
theorem scGrown : FnScope NG ["_law_well_here", "_law_most"] (defScope sGrown) := ⟨rfl, rfl, rfl, by decide +kernel, rfl, by decide +kernel, by decide +kernel⟩
theorem ok_grownB {f fP fI fM fT fH : Addr} {fd fdP fdI fdM fdT fdH : FuncData} (F : Fun K "_law_grown" "_law_grown" sGrown f fd)
    (FP : Fun K "_law_pull" "_law_pull" sPull fP fdP) (bP : Binds K fdP ["_law_well_here", "_law_many"] []) (gP : mg "_law_pull" = some (.ref fP))
    (FI : Fun K "_law_item" "_law_item" sItem fI fdI) (bI : Binds K fdI ["_law_well_here", "_law_items"] []) (gI : mg "_law_item" = some (.ref fI))
    (FM : Fun K "_law_mixed" "_law_mixed" sMixed fM fdM) (bM : Binds K fdM ["_law_well_here", "_law_items"] []) (gM : mg "_law_mixed" = some (.ref fM))
    (FT : Fun K "_law_tops" "_law_tops" sTops fT fdT) (bT : Binds K fdT ["_law_parents"] []) (gT : mg "_law_tops" = some (.ref fT))
    (FH : Fun K "_law_heft" "_law_heft" sHeft fH fdH) (bH : Binds K fdH ["_law_parents", "_law_vertex"] []) (gH : mg "_law_heft" = some (.ref fH))
    (ml : mg "len" = none) (mr : mg "range" = none) (mL : mg "list" = none) (mT : mg "tuple" = none) (mS : mg "sorted" = none) :
    FnOk P w K mg base CX0 3 f fd ["_law_well_here", "_law_most"] spGrownB := by
  have GP : FnOk P w K mg base CX0 1 fP fdP ["_law_well_here", "_law_many"] spPull := ok_pull FP
  have GI : FnOk P w K mg base CX0 2 fI fdI ["_law_well_here", "_law_items"] spItem := ok_item FI FP bP gP ml
  have GM : FnOk P w K mg base CX0 2 fM fdM ["_law_well_here", "_law_items"] spMixed := ok_mixed FM FP bP gP ml mL
  have GT : FnOk P w K mg base CX0 1 fT fdT ["_law_parents"] (spTops K) := ok_tops FT ml mr
  have GH : FnOk P w K mg base CX0 1 fH fdH ["_law_parents", "_law_vertex"] (spHeft K) := ok_heft FH ml mr
  refine F.ok scGrown (fun vs H Q E h => ?_) (fun cdv A outer s H vs Q E hr h => ?_)
  · obtain ⟨w, l, m, rfl, _⟩ := h
    rfl
  · obtain ⟨w, l, most, rfl, hW, m0, m1, q⟩ := h
    have hr1 : Room 1 _ := hr.mono (by decide)
    refine ⟨_, pss_cons (ps_set (i := 2) scGrown.nd rfl (.inl rfl) (pe_op op_add pe_int (pe_call GP hr1 (by rfl) gP FP.kp bP .nil pass0 (pa_cons (pv 0) (pa_cons (pv 1) pa_nil)))))
      (pss_cons (ps_asg (pe_tup (pa_cons (pe_listRg rfl (by rfl) mL (prg_1 (by rfl) mr (pv 2))) (pa_cons (pe_call GP hr1 (by rfl) gP FP.kp bP .nil pass0 (pa_cons (pv 0) (pa_cons pe_int pa_nil))) pa_nil)))
          (pg_tup rfl (pgs_cons (pg_name (i := 3) scGrown.nd rfl (.inr rfl)) (pgs_cons (pg_name (i := 4) scGrown.nd rfl (.inl rfl)) pgs_nil))))
      (pss_cons (ps_for PassesOwn.never rfl (pi_range1 (by rfl) mr (pa_cons (pe_call GI hr (by rfl) gI FI.kp bI .nil pass0 (pa_cons (pv 0) (pa_cons (pe_lst (pa_cons (pe_op op_sub (pv 2) pe_int) (pa_cons (pe_op op_sub (pv 2) pe_int)
            (pa_cons (pe_call GP hr1 (by rfl) gP FP.kp bP .nil pass0 (pa_cons (pv 0) (pa_cons (pv 2) pa_nil))) pa_nil)))) pa_nil))) pa_nil)) (pg_name (i := 5) scGrown.nd rfl (.inl rfl))
          (pss_cons (ps_set (i := 6) scGrown.nd rfl (.inr rfl) (pe_call GM hr (by rfl) gM FM.kp bM .nil pass0 (pa_cons (pv 0) (pa_cons (pe_call GT hr1 (by rfl) gT FT.kp bT .nil pass0 (pa_cons (pv 3) pa_nil)) pa_nil))))
          (C8.pss_cut (ps_if (pt_cmpR op_lt (pv 4) pe_int (nomark _))
              (pss_cons (ps_set (i := 7) scGrown.nd rfl (.inl rfl) (pe_callB cr_sortedP (by rfl) mS (by decide +kernel) (pa_cons (pe_lc (own := [("_law_k", 10)]) (g := gName 10) (tt := tYes)
                  (te := tTup (tCons (tCall (spHeft K) [] E0 (tCons (tVar 3) (tCons (tOp (rIxL K) (tVar 6) (tVar 10)) tNil))) (tCons (tVar 10) tNil))) (by rfl) scGrown.nd
                  (pi_range1 (by rfl) mr (pa_cons (pe_callB call_len_seq (by rfl) ml PySem.boot_len (pa_cons (pv 6) pa_nil)) pa_nil)) (blkOk_by (own := [("_law_k", 10)]) (N := NG) (sc := defScope sGrown) (by decide +kernel))
                  (fun _ _ _ _ _ => pg_name (i := 10) scGrown.nd rfl (Or.inl rfl)) (fun _ _ _ _ _ => pts_nil)
                  (fun _ _ _ _ _ => pe_tup (pa_cons (pe_call GH hr1 (by rfl) gH FH.kp bH .nil pass0 (pa_cons (pv 3) (pa_cons (pe_ix ix_list (pv 6) (pv 10) (fun _ _ => rfl)) pa_nil))) (pa_cons (pv 10) pa_nil)))) pa_nil)))
              (pss_one (ps_set (i := 6) scGrown.nd rfl (.inr rfl) (pe_stepL (pe_lc (own := [("_law_weight", 11), ("_law_k", 10)]) (g := gTup K 2 (gCons (gName 11) (gCons (gName 10) gNil))) (tt := tYes) (te := tOp (rIxL K) (tVar 6) (tVar 10)) (by rfl) scGrown.nd (pi_list (pv 7))
                  (blkOk_by (own := [("_law_weight", 11), ("_law_k", 10)]) (N := NG) (sc := defScope sGrown) (by decide +kernel)) (fun _ _ _ _ _ => pg_tup rfl (pgs_cons (pg_name (i := 11) scGrown.nd rfl (Or.inl rfl)) (pgs_cons (pg_name (i := 10) scGrown.nd rfl (Or.inl rfl)) pgs_nil))) (fun _ _ _ _ _ => pts_nil)
                  (fun _ _ _ _ _ => pe_ix ix_list (pv 6) (pv 10) (fun _ _ => rfl))) (pe_ix ix_list (pe_lst (pa_cons pe_int (pa_cons (pe_un un_neg pe_int) pa_nil))) (pv 4) (fun _ _ => rfl)))))) pss_nil)
          (pss_cons (ps_par (i := 8) (j := 9) (by rfl) scGrown.nd rfl rfl (by decide) rfl rfl (pa_cons (pe_ix ix_list (pv 6) pe_int (fun _ _ => rfl)) (pa_cons (pe_ix ix_list (pv 6) pe_int (fun _ _ => rfl)) pa_nil)) (by rfl))
          (C8.pss_cut (ps_if (pt_cmpR op_lt (pe_call GH hr1 (by rfl) gH FH.kp bH .nil pass0 (pa_cons (pv 3) (pa_cons (pv 8) pa_nil))) (pe_call GH hr1 (by rfl) gH FH.kp bH .nil pass0 (pa_cons (pv 3) (pa_cons (pv 9) pa_nil))) (nomark _))
              (pss_one (ps_par (i := 8) (j := 9) (by rfl) scGrown.nd rfl rfl (by decide) rfl rfl (pa_cons (pv 9) (pa_cons (pv 8) pa_nil)) (by rfl))) pss_nil)
          (pss_one (ps_asg (pv 8) (pg_sub (pv 3) (pv 9) set_list))))))))
      (pss_one (ps_ret (pe_callTy call_tuple_of (by rfl) mT (by decide +kernel) (pa_cons (pv 3) pa_nil)))))), ?_⟩
    refine ⟨.ref w, rfl, .int most, rfl, w, l, most, rfl, hW, m0, by omega, fun r H1 r0 r1 hW1 kp1 => ⟨1, r, rfl, rfl, ?_⟩⟩
    obtain ⟨n, en⟩ : ∃ n : Nat, 1 + r = (n : Int) := ⟨(1 + r).toNat, by omega⟩
    show gName 2 (V.int (1 + r)) _ _ _
    rw [en]
    have n0 : 0 < n := by omega
    have n24 : n ≤ 24 := by omega
    refine ⟨.int (n : Int), rfl, n, rfl, RgOk.of_le (by omega) (by omega) (by omega) (by omega), fun pr npr => ?_⟩
    rw [rgV_nv]
    have Sp := same_new (o := .lst (nv (List.range n))) npr
    refine ⟨.ref w, rfl, w, l, 4, rfl, hW1.same Sp, by decide, by decide, fun wy H2 y0 y1 hW2 kp2 => ?_⟩
    obtain ⟨nwl, x1, st1, hw1, hl1, _⟩ := id hW1
    have prw : pr ≠ w := (ne_of_none hw1 npr).symm
    have prl : pr ≠ l := (ne_of_none hl1 npr).symm
    have prn : H pr = none := by
      cases z : H pr with
      | none => rfl
      | some o =>
        rw [kp1 _ _ prw prl z] at npr
        cases npr
    have hpr2 : H2 pr = some (.lst (nv (List.range n))) := kp2 _ _ prw prl upd_same
    have K2 : Keep w l H H2 := kp1.trans ((Keep.of Sp).trans kp2)
    refine ⟨(by show 2 ≤ sizeLine; decide), fun t nt => ⟨t, _, rfl, SqT.of upd_same, rfl, _, _, rfl, _, _, rfl, rfl, ?_⟩⟩
    have St := same_new (o := .tup [V.ref pr, V.int wy]) nt
    refine ⟨.ref w, rfl, .int (n : Int), rfl, _, _, rfl, rfl, .int (n : Int), rfl, _, _, rfl, rfl, .ref w, rfl, .int (n : Int), rfl, w, l, (n : Int), rfl, hW2.same St, by omega, by omega, fun r2 H3 q0 q1 hW3 kp3 => ?_⟩
    refine ⟨(by show 3 ≤ sizeLine; decide), fun p3 n3 => ?_⟩
    have S3 := same_new (o := .lst [V.int ((n : Int) - 1), V.int ((n : Int) - 1), V.int r2]) n3
    obtain ⟨_, x3, st3, hw3, hl3, _⟩ := id hW3
    refine ⟨w, l, p3, _, rfl, hW3.same S3, upd_same, (ne_of_none hw3 n3).symm, (ne_of_none hl3 n3).symm, (fun z => nomatch z), (by show 3 < 1073741824; decide), fun v H4 hv hW4 kp4 => ?_⟩
    obtain ⟨tn, rfl, t0, t1⟩ : ∃ tn : Int, v = .int tn ∧ 0 ≤ tn ∧ tn < n := by
      simp only [List.mem_cons, List.not_mem_nil, or_false] at hv
      rcases hv with rfl | rfl | rfl
      · exact ⟨_, rfl, by omega, by omega⟩
      · exact ⟨_, rfl, by omega, by omega⟩
      · exact ⟨_, rfl, q0, q1⟩
    have K4 : Keep w l H H4 := K2.trans ((Keep.of St).trans (kp3.trans ((Keep.of S3).trans kp4)))
    have hpr4 : H4 pr = some (.lst (nv (List.range n))) := kp4 _ _ prw prl (S3 _ _ (kp3 _ _ prw prl (St _ _ hpr2)))
    refine ⟨tn, rfl, by omega, by omega, for_range (lo := 0) (n := tn.toNat) (fun i σ H5 => ∃ (fs : List Nat) (c5 c6 c7 c8 c9 : Option V), σ = [some (.ref w), some (.int most), some (.int (n : Int)), some (.ref pr), some (.int wy), c5, c6, c7, c8, c9, none, none] ∧ Forest fs ∧ (∀ c, ¬ Heavy fs c) ∧ fs.length = n ∧ (tops fs).length + i = n ∧ H5 pr = some (.lst (nv fs)) ∧ Well w l H5 ∧ Keep w l H H5)
      ⟨List.range n, none, none, none, none, none, rfl, Forest.range n0 n24, range_light n, List.length_range, by rw [tops_range, List.length_range]; rfl, hpr4, hW4, K4⟩ ?_ ?_⟩
    · rintro i σ H5 hi ⟨fs, c5, c6, c7, c8, c9, rfl, hF, nh, ef, et, hpr, hW5, kp5⟩
      have two : 2 ≤ (tops fs).length := by omega
      refine ⟨.ref w, rfl, .ref pr, rfl, pr, fs, rfl, .inl (SqL.of hpr), by omega, fun tq H6 S6 nq hq => ?_⟩
      have tle : (tops fs).length ≤ 1000 := by omega
      refine ⟨w, l, tq, tops fs, rfl, hW5.same S6, hq, tle, fun ms th H7 pm hW7 kp7 nth hth => ?_⟩
      have hpr7 : H7 pr = some (.lst (nv fs)) := kp7 _ _ prw prl (S6 _ _ hpr)
      have K7 : Keep w l H H7 := kp5.trans ((Keep.of S6).trans kp7)
      have lms : ms.length = (tops fs).length := pm.length_eq
      have inT : ∀ {x : Nat}, x ∈ ms → x < fs.length := fun hx => (mem_tops.mp (pm.mem_iff.mp hx)).1
      -- the roots in some order, whichever way
      refine ⟨fun σ' H8 => ∃ (ks : List Nat) (tb : Addr) (d7 : Option V), σ' = [some (.ref w), some (.int most), some (.int (n : Int)), some (.ref pr), some (.int wy), some (.int (0 + (i : Int))), some (.ref tb), d7, c8, c9, none, none] ∧ ks.Perm (tops fs) ∧ H8 tb = some (.lst (nv ks)) ∧ H8 pr = some (.lst (nv fs)) ∧ Well w l H8 ∧ Keep w l H H8, ?_, ?_⟩
      · refine ⟨.int wy, rfl, _, _, rfl, rfl, _, rfl, ite2 (fun hy => ?_) (fun hy => ?_)⟩
        · have hy : wy < 2 := of_decide_eq_true hy
          refine ⟨.ref th, rfl, th, _, rfl, .inl (SqL.of hth), _, rfl, ?_, ?_, fun D nD => lc_range (lo := 0) (n := ((nv ms).length : Int).toNat)
            (fun k H8 => Same H7 H8 ∧ ∃ ts : List Addr, H8 D = some (.lst (ts.map V.ref)) ∧ ts.length = k ∧ ∀ (j : Nat) (t : Addr), ts[j]? = some t → H7 t = none ∧ t ≠ D ∧ ∃ c : Int, H8 t = some (.tup [.int c, .int (j : Int)])) ⟨same_new nD, [], upd_same, rfl, fun j t z => nomatch z⟩ ?_ ?_⟩
          · rw [nv_length]
            omega
          · rw [nv_length]
            omega
          · rintro k H8 hk ⟨s8, ts, hD, lt, hts⟩
            rw [nv_length] at hk
            have hk' : k < ms.length := by omega
            refine ⟨rfl, ?_⟩
            dsimp only [tYes]
            rw [if_pos rfl]
            refine ⟨.ref pr, rfl, .ref th, rfl, .int (0 + (k : Int)), rfl, th, _, (k : Int), _, rfl, by rw [Int.zero_add], SqL.of (s8 _ _ hth), atI_nat (nv_get hk'), pr, fs, _, rfl, .inl (SqL.of (s8 _ _ hpr7)), hF, ?_, fun ins H9 s9 _ _ => ?_⟩
            · refine inT ?_
              rw [List.getD_eq_getElem?_getD, List.getElem?_eq_getElem hk']
              exact List.getElem_mem hk'
            · refine ⟨.int (0 + (k : Int)), rfl, (by show 2 ≤ sizeLine; decide), fun t5 n5 => ?_⟩
              have S5 := same_new (o := .tup [V.int (ins.length : Nat), V.int (0 + (k : Int))]) n5
              have hD9 := S5 _ _ (s9 _ _ hD)
              have t5D : t5 ≠ D := (ne_of_none (s9 _ _ hD) n5).symm
              refine ⟨_, hD9, ?_, fun b o z => ?_, ts ++ [t5], ?_, ?_, ?_⟩
              · rw [List.length_map]
                exact small1000 (by omega)
              · rw [upd_ne (ne_of_none z nD)]
                exact S5 _ _ (s9 _ _ (s8 _ _ z))
              · rw [upd_same, List.map_append]
                rfl
              · rw [List.length_append, lt]
                rfl
              · intro j t hj
                by_cases z : j < ts.length
                · rw [List.getElem?_append_left z] at hj
                  obtain ⟨g1, g2, c, g3⟩ := hts j t hj
                  refine ⟨g1, g2, c, ?_⟩
                  rw [upd_ne g2]
                  exact S5 _ _ (s9 _ _ g3)
                · rw [List.getElem?_append_right (Nat.le_of_not_lt z)] at hj
                  have z2 : j - ts.length = 0 := by
                    rcases Nat.eq_zero_or_pos (j - ts.length) with y | y
                    · exact y
                    · rw [List.getElem?_eq_none (by rw [List.length_singleton]; omega)] at hj
                      cases hj
                  rw [z2] at hj
                  have e5 : t5 = t := Option.some.inj hj
                  subst e5
                  have ej : j = k := by omega
                  subst ej
                  refine ⟨(s8.trans s9).free n5, t5D, ((ins.length : Nat) : Int), ?_⟩
                  rw [upd_ne t5D, upd_same, Int.zero_add]
          · rintro H8 ⟨s8, ts, hD, lt, hts⟩
            rw [nv_length, Int.toNat_natCast] at lt
            have memts : ∀ x ∈ ts.map V.ref, ∃ (t : Addr) (a b : Int), x = V.ref t ∧ H8 t = some (.tup [.int a, .int b]) := fun x hx => by
              obtain ⟨t, ht, rfl⟩ := List.mem_map.mp hx
              obtain ⟨j, hj, ej⟩ := List.getElem_of_mem ht
              obtain ⟨_, _, c, g⟩ := hts j t (by rw [List.getElem?_eq_getElem hj, ej])
              exact ⟨t, c, j, rfl, g⟩
            refine ⟨D, _, rfl, SqL.of hD, memts, fun ys p6 py n6 => ?_⟩
            have S8 := same_new (o := .lst ys) n6
            have ey : (upd H8 p6 (.lst ys)) p6 = some (.lst ys) := upd_same
            generalize hG : upd H8 p6 (.lst ys) = G at *
            clear hG
            have lys : ys.length = ms.length := by
              rw [py.length_eq, List.length_map, lt]
            have val : ∀ y ∈ ys, ∃ (t : Addr) (c : Int) (j : Nat), y = V.ref t ∧ G t = some (.tup [.int c, .int (j : Int)]) ∧ j < ms.length := fun y hy => by
              obtain ⟨t, ht, rfl⟩ := List.mem_map.mp (py.mem_iff.mp hy)
              obtain ⟨j, hj, ej⟩ := List.getElem_of_mem ht
              obtain ⟨_, _, c, g⟩ := hts j t (by rw [List.getElem?_eq_getElem hj, ej])
              exact ⟨t, c, j, rfl, S8 _ _ g, by omega⟩
            have eqTs : (ts.map V.ref).map (pairAt G (nv ms)) = nv ms := by
              apply List.ext_getElem?
              intro j
              rw [List.getElem?_map, List.getElem?_map]
              by_cases z : j < ts.length
              · obtain ⟨_, _, c, g⟩ := hts j ts[j] (by rw [List.getElem?_eq_getElem z])
                rw [List.getElem?_eq_getElem z]
                have g2 := S8 _ _ g
                have e3 : pairAt G (nv ms) (V.ref ts[j]) = (nv ms).getD j .non := by
                  show (match G ts[j] with | some (.tup [_, .int j]) => (nv ms).getD j.toNat .non | _ => .non) = _
                  rw [g2]
                  rfl
                show some (pairAt G (nv ms) (V.ref ts[j])) = _
                rw [e3, List.getD_eq_getElem?_getD, nv_get (by omega)]
                rfl
              · rw [List.getElem?_eq_none (Nat.le_of_not_lt z), List.getElem?_eq_none (by rw [nv_length]; omega)]
                rfl
            have hth8 : G th = some (.lst (nv ms)) := S8 _ _ (s8 _ _ hth)
            refine ⟨.ref p6, rfl, p6, rfl, ⟨_, SqL.of ey⟩, fun E nE => lc_list (K := K) (a := p6) (xs := ys) (fun k H9 => Same G H9 ∧ H9 E = some (.lst ((ys.take k).map (pairAt G (nv ms))))) ⟨same_new nE, upd_same⟩ (fun k H9 _ z => SqL.of (z.1 _ _ ey)) ?_ ?_⟩
            · rintro k y H9 hk ⟨s9, hE⟩
              have hkl : k < ys.length := by
                rcases Nat.lt_or_ge k ys.length with z | z
                · exact z
                · rw [List.getElem?_eq_none z] at hk
                  cases hk
              obtain ⟨t, c, j, rfl, g, jl⟩ := val y (List.mem_of_getElem? hk)
              refine ⟨t, _, rfl, SqT.of (s9 _ _ g), rfl, _, _, rfl, _, _, rfl, rfl, rfl, ?_⟩
              dsimp only [tYes]
              rw [if_pos rfl]
              refine ⟨.ref th, rfl, .int (j : Int), rfl, th, _, (j : Int), _, rfl, rfl, SqL.of (s9 _ _ hth8), atI_nat (nv_get jl), _, hE, ?_, fun b o z => ?_, ?_⟩
              · rw [List.length_map, List.length_take]
                exact small1000 (Nat.le_trans (Nat.min_le_right _ _) (by omega))
              · rw [upd_ne (ne_of_none z nE)]
                exact s9 _ _ z
              · have e3 : pairAt G (nv ms) (V.ref t) = .int ((ms.getD j 0 : Nat) : Int) := by
                  show (match G t with | some (.tup [_, .int j]) => (nv ms).getD j.toNat .non | _ => .non) = _
                  rw [g]
                  show (nv ms).getD (Int.toNat (j : Int)) .non = _
                  rw [Int.toNat_natCast, List.getD_eq_getElem?_getD, nv_get jl]
                  rfl
                rw [upd_same, List.take_add_one, hk, List.map_append]
                show some (HO.lst (_ ++ [_])) = some (HO.lst (_ ++ [pairAt G (nv ms) (V.ref t)]))
                rw [e3]
            · rintro H9 ⟨s9, hE⟩
              rw [List.take_length] at hE
              refine ⟨1, rfl, (by show 2 ≤ sizeLine; decide), fun p7 n7 => ?_⟩
              have S9 := same_new (o := .lst [V.int 1, V.int (-1)]) n7
              have pz : (ys.map (pairAt G (nv ms))).Perm (nv ms) := by
                have := py.map (pairAt G (nv ms))
                rwa [eqTs] at this
              obtain ⟨ks, ek, pk⟩ := perm_nv pz
              rw [ek] at hE
              have fin : ∀ (zs : List Nat), zs.Perm ms → ∀ p8, (upd H9 p7 (.lst [V.int 1, V.int (-1)])) p8 = none → _ := fun zs pzs p8 n8 =>
                show ∃ (ks : List Nat) (tb : Addr) (d7 : Option V), [some (.ref w), some (.int most), some (.int (n : Int)), some (.ref pr), some (.int wy), some (.int (0 + (i : Int))), some (.ref p8), some (.ref p6), c8, c9, none, none] = [some (.ref w), some (.int most), some (.int (n : Int)), some (.ref pr), some (.int wy), some (.int (0 + (i : Int))), some (.ref tb), d7, c8, c9, none, none] ∧ ks.Perm (tops fs) ∧ (upd (upd H9 p7 (.lst [V.int 1, V.int (-1)])) p8 (.lst (nv zs))) tb = some (.lst (nv ks)) ∧ (upd (upd H9 p7 (.lst [V.int 1, V.int (-1)])) p8 (.lst (nv zs))) pr = some (.lst (nv fs)) ∧ Well w l (upd (upd H9 p7 (.lst [V.int 1, V.int (-1)])) p8 (.lst (nv zs))) ∧ Keep w l H (upd (upd H9 p7 (.lst [V.int 1, V.int (-1)])) p8 (.lst (nv zs))) from by
                  have Sz := (s8.trans (S8.trans (s9.trans S9))).trans (same_new (o := .lst (nv zs)) n8)
                  exact ⟨zs, p8, _, rfl, pzs.trans pm, upd_same, Sz _ _ hpr7, hW7.same Sz, K7.trans (Keep.of Sz)⟩
              have w01 : wy = 0 ∨ wy = 1 := by omega
              rcases w01 with rfl | rfl
              · refine ⟨.int 0, rfl, p7, _, 0, .int 1, rfl, rfl, SqL.of upd_same, atI_nat (j := 0) rfl, E, _, 1, rfl, rfl, SqL.of (S9 _ _ hE), .inl rfl, fun p8 n8 zs hz => ?_⟩
                rcases hz with rfl | rfl
                · exact fin ks pk p8 n8
                · rw [show (nv ks).reverse = nv ks.reverse from (List.map_reverse ..).symm]
                  exact fin ks.reverse ((List.reverse_perm ks).trans pk) p8 n8
              · refine ⟨.int 1, rfl, p7, _, 1, .int (-1), rfl, rfl, SqL.of upd_same, atI_nat (j := 1) rfl, E, _, -1, rfl, rfl, SqL.of (S9 _ _ hE), .inr rfl, fun p8 n8 zs hz => ?_⟩
                rcases hz with rfl | rfl
                · exact fin ks pk p8 n8
                · rw [show (nv ks).reverse = nv ks.reverse from (List.map_reverse ..).symm]
                  exact fin ks.reverse ((List.reverse_perm ks).trans pk) p8 n8
        · exact ⟨ms, th, c7, rfl, pm, hth, hpr7, hW7, K7⟩
      · rintro σ' H8 ⟨ks, tb, d7, rfl, pk, htb, hpr8, hW8, K8⟩
        have k2 : 2 ≤ ks.length := by rw [pk.length_eq]; exact two
        have knd : ks.Nodup := pk.symm.nodup (tops_nodup fs)
        generalize hx : ks.getD 0 0 = x
        generalize hy : ks.getD 1 0 = y
        have ex : ks[0]? = some x := by rw [← hx, List.getD_eq_getElem?_getD, List.getElem?_eq_getElem (by omega)]; rfl
        have ey : ks[1]? = some y := by rw [← hy, List.getD_eq_getElem?_getD, List.getElem?_eq_getElem (by omega)]; rfl
        have xm : x ∈ tops fs := pk.mem_iff.mp (List.mem_of_getElem? ex)
        have ym : y ∈ tops fs := pk.mem_iff.mp (List.mem_of_getElem? ey)
        have xy : x ≠ y := fun z => by
          subst z
          have := (List.getElem?_inj (by omega) knd).mp (ex.trans ey.symm)
          omega
        refine ⟨.ref tb, rfl, tb, _, 0, .int (x : Nat), rfl, rfl, SqL.of htb, ?_, .ref tb, rfl, tb, _, 1, .int (y : Nat), rfl, rfl, SqL.of htb, ?_, _, _, rfl, ?_⟩
        · rw [← hx]
          exact atI_nat (j := 0) (nv_get (by omega))
        · rw [← hy]
          exact atI_nat (j := 1) (nv_get (by omega))
        refine ⟨fun σ' H9 => ∃ x y : Nat, σ' = [some (.ref w), some (.int most), some (.int (n : Int)), some (.ref pr), some (.int wy), some (.int (0 + (i : Int))), some (.ref tb), d7, some (.int (x : Nat)), some (.int (y : Nat)), none, none] ∧ x ∈ tops fs ∧ y ∈ tops fs ∧ x ≠ y ∧ wt fs y ≤ wt fs x ∧ Same H8 H9, ?_, ?_⟩
        · refine ⟨.ref pr, rfl, .int (x : Nat), rfl, pr, fs, x, rfl, .inl (SqL.of hpr8), hF, (mem_tops.mp xm).1, fun i1 H9 s9 nd1 m1 => ?_⟩
          refine ⟨.ref pr, rfl, .int (y : Nat), rfl, pr, fs, y, rfl, .inl (SqL.of (s9 _ _ hpr8)), hF, (mem_tops.mp ym).1, fun i2 H10 s10 nd2 m2 => ?_⟩
          have w1 : wt fs x = i1.length := cnt_of nd1 m1
          have w2 : wt fs y = i2.length := cnt_of nd2 m2
          refine ⟨_, _, rfl, rfl, _, rfl, ite2 (fun hlt => ?_) (fun hlt => ?_)⟩
          · exact ⟨.int (y : Nat), rfl, .int (x : Nat), rfl, _, _, rfl, y, x, rfl, ym, xm, Ne.symm xy, by rw [w1, w2]; exact Nat.le_of_lt (Int.ofNat_lt.mp (of_decide_eq_true hlt)), s9.trans s10⟩
          · exact ⟨x, y, rfl, xm, ym, xy, by rw [w1, w2]; exact Nat.le_of_not_lt fun z => hlt (decide_eq_true (Int.ofNat_lt.mpr z)), s9.trans s10⟩
        · rintro σ2 H9 ⟨x, y, rfl, xm, ym, xy, wxy, s9⟩
          have hx1 := mem_tops.mp xm
          have hy1 := mem_tops.mp ym
          refine ⟨.int (x : Nat), rfl, .ref pr, rfl, .int (y : Nat), rfl, pr, _, (y : Int), y, rfl, rfl, s9 _ _ hpr8, ?_, ?_⟩
          · unfold ixN
            rw [nv_length, if_pos (by omega), if_pos (by omega), Int.toNat_natCast]
          · refine ⟨fs.set y x, _, _, _, _, _, rfl, hF.moved hy1.1 hx1.1 ?_, join_light hF hy1.1 hy1.2 hx1.1 hx1.2 (Ne.symm xy) wxy nh, by rw [List.length_set]; exact ef, ?_, ?_, ?_, ?_⟩
            · intro b
              cases b with
              | refl => exact xy rfl
              | step h _ => exact h hx1.2
            · have := tops_moved ym xm (Ne.symm xy)
              omega
            · rw [upd_same]
              unfold nv
              rw [List.map_set]
            · obtain ⟨w1, w2, w3, w4, w5, w6⟩ := hW8.same s9
              exact ⟨w1, w2, w3, by rw [upd_ne prw.symm]; exact w4, by rw [upd_ne prl.symm]; exact w5, w6⟩
            · intro b o h1 h2 h
              rw [upd_ne (ne_of_none h prn)]
              exact s9 _ _ (K8 b o h1 h2 h)
    · rintro σ H5 ⟨fs, c5, c6, c7, c8, c9, rfl, hF, nh, ef, et, hpr, hW5, kp5⟩
      refine ⟨.ref pr, rfl, pr, _, rfl, .inl ⟨SqL.of hpr, fun p9 n9 => ?_⟩⟩
      have S9 := same_new (o := .tup (nv fs)) n9
      exact q fs p9 _ hF nh (by omega) (hW5.same S9) (kp5.trans (Keep.of S9)) (keep_free kp5 hW5 n9) upd_same
theorem ok_grown {f fP fI fM fT fH : Addr} {fd fdP fdI fdM fdT fdH : FuncData} (F : Fun K "_law_grown" "_law_grown" sGrown f fd)
    (FP : Fun K "_law_pull" "_law_pull" sPull fP fdP) (bP : Binds K fdP ["_law_well_here", "_law_many"] []) (gP : mg "_law_pull" = some (.ref fP))
    (FI : Fun K "_law_item" "_law_item" sItem fI fdI) (bI : Binds K fdI ["_law_well_here", "_law_items"] []) (gI : mg "_law_item" = some (.ref fI))
    (FM : Fun K "_law_mixed" "_law_mixed" sMixed fM fdM) (bM : Binds K fdM ["_law_well_here", "_law_items"] []) (gM : mg "_law_mixed" = some (.ref fM))
    (FT : Fun K "_law_tops" "_law_tops" sTops fT fdT) (bT : Binds K fdT ["_law_parents"] []) (gT : mg "_law_tops" = some (.ref fT))
    (FH : Fun K "_law_heft" "_law_heft" sHeft fH fdH) (bH : Binds K fdH ["_law_parents", "_law_vertex"] []) (gH : mg "_law_heft" = some (.ref fH))
    (ml : mg "len" = none) (mr : mg "range" = none) (mL : mg "list" = none) (mT : mg "tuple" = none) (mS : mg "sorted" = none) :
    FnOk P w K mg base CX0 3 f fd ["_law_well_here", "_law_most"] spGrown := FnOk.imp (ok_grownB F FP bP gP FI bI gI FM bM gM FT bT gT FH bH gH ml mr mL mT mS) fun vs H Q E h => by
  obtain ⟨w, l, m, h1, h2, h3, h4, h5⟩ := h
  exact ⟨w, l, m, h1, h2, h3, h4, fun fs q H' a _ => h5 fs q H' a⟩
end
end Lf
namespace Lf
open PySem PySem.Spec PyProof.Rows L2
/-! ### _law_wild -/
/-- each one's parent is itself or stands before it -/
structure Ord (os ps : List Nat) (i : Nat) : Prop where
  len : ps.length = os.length
  bef : ∀ j, j < i → ∃ v, os[j]? = some v ∧ (par ps v = v ∨ ∃ m u, m < j ∧ os[m]? = some u ∧ par ps v = u)
theorem Ord.forest {os ps : List Nat} {n : Nat} (pm : os.Perm (List.range n)) (O : Ord os ps n) (n0 : 0 < n) (n24 : n ≤ 24) : Forest ps := by
  have lo : os.length = n := by rw [pm.length_eq, List.length_range]
  have lp : ps.length = n := by rw [O.len, lo]
  have mem : ∀ {v : Nat}, v ∈ os → v < n := fun h => List.mem_range.mp (pm.mem_iff.mp h)
  have at_ : ∀ v, v < n → ∃ j, j < n ∧ os[j]? = some v := fun v hv => by
    obtain ⟨j, hj, ej⟩ := List.getElem_of_mem (pm.mem_iff.mpr (List.mem_range.mpr hv))
    exact ⟨j, by omega, by rw [List.getElem?_eq_getElem hj, ej]⟩
  refine ⟨by omega, by omega, fun v hv => ?_, fun v hv => ?_⟩
  · obtain ⟨j, hj, ej⟩ := at_ v (by omega)
    obtain ⟨v', ev, hb⟩ := O.bef j hj
    rw [ej] at ev
    cases ev
    rcases hb with z | ⟨m, u, _, eu, z⟩
    · rw [z]
      exact hv
    · rw [z, lp]
      exact mem (List.mem_of_getElem? eu)
  · obtain ⟨j, hj, ej⟩ := at_ v (by omega)
    clear hv
    show Up ps v
    induction j using Nat.strongRecOn generalizing v with
    | _ j ih =>
      obtain ⟨v', ev, hb⟩ := O.bef j hj
      rw [ej] at ev
      cases ev
      rcases hb with z | ⟨m, u, hm, eu, z⟩
      · exact .root z
      · refine .step ?_
        rw [z]
        exact ih m hm u (by omega) eu
theorem Ord.next {os ps : List Nat} {i v x : Nat} (nd : os.Nodup) (vl : v < ps.length) (ev : os[i]? = some v) (hx : x = v ∨ ∃ m u, m < i ∧ os[m]? = some u ∧ x = u) (O : Ord os ps i) : Ord os (ps.set v x) (i + 1) := by
  refine ⟨by rw [List.length_set]; exact O.len, fun j hj => ?_⟩
  by_cases z : j < i
  · obtain ⟨v', e', hb⟩ := O.bef j z
    have ne : ¬ v' = v := fun y => by
      subst y
      have hj2 : j < os.length := by
        rcases Nat.lt_or_ge j os.length with y | y
        · exact y
        · rw [List.getElem?_eq_none y] at e'
          cases e'
      have := (List.getElem?_inj hj2 nd).mp (e'.trans ev.symm)
      omega
    refine ⟨v', e', ?_⟩
    rw [par_set vl, if_neg ne]
    exact hb
  · have : j = i := by omega
    subst this
    refine ⟨v, ev, ?_⟩
    rw [par_set vl, if_pos rfl]
    exact hx
theorem rep_nv : ∀ n : Nat, (List.replicate n [V.int 0]).flatten = nv (List.replicate n 0)
  | 0 => rfl
  | n + 1 => by
    rw [List.replicate_succ, List.replicate_succ, List.flatten_cons, rep_nv n]
    rfl
theorem cut_upto {os : List Nat} {i : Nat} (h : i ≤ os.length) : cutV (nv os) none (some (i : Int)) = nv (os.take i) := by
  unfold cutV
  rw [HT.sIx_none, HT.sIx_nat, nv_length, Nat.min_eq_left h, List.drop_zero, Nat.sub_zero]
  unfold nv
  rw [List.map_take]
section
variable {P : Program} {w : World} {K : PySem.W.Frag} {mg : Str → Option Value} {base : Heap}
end
end Lf
namespace Lf
open PySem PySem.Spec PyProof.Rows L2
/-! ### _law_line, _law_forest -/
def spLine (K : PySem.W.Frag) : Sp := fun vs H Q _ => ∃ (p : Addr) (fs : List Nat) (v : Nat), vs = [.ref p, .int (v : Nat)] ∧ SqQ K H p (nv fs) ∧ Forest fs ∧ v < fs.length ∧
  ∀ (ln : List Nat) (q : Addr) (H' : Hp), Same H H' → Pth fs v ln → ln.length ≤ fs.length → H q = none → H' q = some (.lst (nv ln)) → Q (.ref q) H'
theorem nv_last (l : List Nat) (v : Nat) : atI (nv (l ++ [v])) (-1) = some (.int (v : Nat)) := by
  rw [nv_append]
  exact atI_last (nv l) (.int (v : Nat))
section
variable {P : Program} {w : World} {K : PySem.W.Frag} {mg : Str → Option Value} {base : Heap}
theorem in_nv {x : Nat} : ∀ l : List Nat, inV (.int (x : Nat)) (nv l) = decide (x ∈ l)
  | [] => rfl
  | y :: l => by
    show (eqV (.int (y : Nat)) (.int (x : Nat)) || inV (.int (x : Nat)) (nv l)) = _
    rw [in_nv l]
    have e : eqV (.int (y : Nat)) (.int (x : Nat)) = decide (x = y) := by
      show (((y : Nat) : Int) == ((x : Nat) : Int)) = _
      by_cases h : x = y
      · rw [h, decide_eq_true rfl, beq_self_eq_true]
      · rw [decide_eq_false h]
        exact beq_eq_false_iff_ne.mpr (by omega)
    rw [e]
    by_cases h : x = y <;> simp [h]
theorem flat_nv : ∀ l : List Nat, (nv l).all flatV = true
  | [] => rfl
  | _ :: l => flat_nv l
theorem cut_from {os : List Nat} {i : Nat} (h : i ≤ os.length) : cutV (nv os) (some (i : Int)) none = nv (os.drop i) := by
  unfold cutV
  rw [HT.sIx_none, HT.sIx_nat, nv_length, Nat.min_eq_left h]
  unfold nv
  rw [← List.map_drop, List.take_of_length_le]
  rw [List.length_map, List.length_drop]
  exact Nat.le_refl _
theorem set_cut {fs : List Nat} {v x : Nat} (h : v < fs.length) : fs.set v x = fs.take v ++ [x] ++ fs.drop (v + 1) := by
  rw [List.set_eq_take_append_cons_drop, if_pos h, List.append_assoc]
  rfl
end
end Lf
namespace Lf
open PySem PySem.Spec PyProof.Rows L2

/-! ### own errors as values -/
/-- C(e), C's own __init__ keeping its one argument under the name f -/
def spInit (K : PySem.W.Frag) (C : Addr) (f : Str) : Sp := fun vs H Q _ => ∃ (a : Addr) (v : V), vs = [.ref a, v] ∧ H a = some (exo a C none) ∧
  ∀ dx, H dx = none → dx ≠ a → Q .non (upd (upd H dx (exd dx [(f, v)])) a (exo a C (some dx)))
/-- what the class C must say, so that isinstance asks its instances rightly, and their fields are read -/
structure ExK (K : PySem.W.Frag) (C : Addr) : Prop where
  cl : (PySem.W.clsIn K C).isSome = true
  ga : PySem.W.findIn K (.ref C) "__getattribute__" = some (some (.builtin "BaseException.__getattribute__"))
  gg : PySem.W.findIn K (.ref C) "__getattr__" = some none
  sb : PySem.W.subIn K (.ref C) (.type "BaseException") = some true
  ca : PySem.W.findIn K (.ref C) "__class__" = some (some (.builtin "object.__class__"))
  cg : PySem.W.specialIn K (.builtin "object.__class__") "__get__" = some (some (.builtin "getset_descriptor.__get__"))
  ct : PySem.W.takesIn K (.builtin "object.__class__") = some true
  cm : PySem.W.mroIn K C (.type "object") = some true
  hd : PySem.W.hasDictIn K C = true
/-- an error of the class at C stands at a -/
def IsEx (H : Hp) (a C : Addr) : Prop := H a = some (exo a C none) ∨ ∃ (d : Addr) (fs : List (Str × V)), H a = some (exo a C (some d)) ∧ H d = some (exd d fs)
theorem IsEx.mono {H H' : Hp} {a C : Addr} (k : ∀ b o, H b = some o → H' b = some o) : IsEx H a C → IsEx H' a C
  | .inl h => .inl (k _ _ h)
  | .inr ⟨d, fs, h1, h2⟩ => .inr ⟨d, fs, k _ _ h1, k _ _ h2⟩
def rIsx (K : PySem.W.Frag) : List V → Hp → VK → Prop := fun xs H Q => ∃ (a C : Addr) (c : V) (u : Value) (b : Bool), xs = [.ref a, c] ∧ IsEx H a C ∧ ClsV c u ∧ ExK K C ∧ PySem.W.kitOne K (.ref C) u = some b ∧ Q (.bl b) H
section
variable {X : Cx} {x : Str} {p pos : Pos} {e : Expr} {te : TE}
/-- C(), an own error class without own __init__ -/
theorem pe_exc0 {C : Addr} {bmB : List Value} {B newId initId : String} (FB : ExcBaseFacts B newId initId bmB) (ex : PySem.W.excIn X.K C bmB newId = true) (gC : X.mg x = some (.ref C)) (kC : PySem.W.keepIn X.K (.ref C) = true) (hg : Gl X x)
    (hdb : (x == ("__debug__" : Str)) = false := by decide) :
    PE X (.Call (.Name x p) [] [] pos) (fun σ H Q => ∀ a, H a = none → Q (.ref a) (upd H a (exo a C none))) := by
  refine ⟨fun pins s σ H Q I h => ?_⟩
  refine wpAny_Call_Name_kw (ld_glob I hg gC ?_ hdb)
  apply PySem.W.callWith_K0 I.kIn kC
  obtain ⟨bm, N, nm, qn, bs, hdct, sn, sub, ab, col, dd, k0, k1, k2, k3, k5, mN, hC, hN, hni, tail⟩ := exc_obj I.kIn ex
  show wpAny _ _ (call (.ref C) []) _ _ _
  refine wpAny_call_exc_subT FB tail hC hN hni ?_ (by show 0 ≤ sizeLine; omega)
  intro h' a made
  have new : H a = none := I.hok.gone made.new
  obtain ⟨t, there, _, _⟩ := made.there
  exact ⟨.ref a, _, I.laidN made.keeps made.new new (exo_ok there), rfl, h a new⟩
/-- C(e): the new error and its own dict -/
theorem pe_excF {C fI : Addr} {k : Nat} {fd : FuncData} {f : Str} (T : OexC X.K C) (iC : PySem.W.findIn X.K (.ref C) "__init__" = some (some (.ref fI))) (tI : PySem.W.typeIn X.K (.ref fI) = some (.type "function"))
    (F1 : FnOk X.prog X.w X.K X.mg X.base CX0 k fI fd ["self", f] (spInit X.K C f)) (room : Room (k + 1) X.A) (hb : Binds X.K fd ["self", f] []) (hg : Gl X x) (hm : X.mg x = some (.ref C)) (he : PE X e te)
    (hdb : (x == ("__debug__" : Str)) = false := by decide) (hst : starEach [e] X.env = (false, eval e X.env) :: starEach [] X.env := by rfl) :
    PE X (.Call (.Name x p) [e] [] pos) (fun σ H Q => te σ H fun v H1 => ∀ a d, H1 a = none → H1 d = none → a ≠ d → Q (.ref a) (upd (upd H1 d (exd d [(f, v)])) a (exo a C (some d)))) := by
  refine ⟨fun pins s σ H Q I h => ?_⟩
  obtain ⟨nm, q, N, bs, bm, sn, sub, ab, col, dd, k0, k1, k2, k3, k5, hC, hbm⟩ := T.cls
  refine wpAny_Call_Name_kw (ld_glob I hg hm ?_ hdb)
  refine PySem.W.callWith_K (h₀ := X.base) I.ok.mod.kin T.kC ?_ hst (by rfl)
  rw [hst]
  show wpAny _ _ (spliced ((false, eval e X.env) :: backTo pos (starEach [] X.env))) _ _ s
  refine Calls.spliced_cons (thn (he.run pins s σ H _ I h) ?_)
  rintro u s1 ⟨v, H1, I1, r1, q1⟩
  refine Calls.spliced_nil ⟨I1.kIn, ?_⟩
  show wpAny _ _ (call (.ref C) [u]) _ _ _
  obtain ⟨hp, g, dr, tk, os⟩ := s1
  let a := hp.objs.size + 1
  let hp2 := (hp.push (PySem.W.kdv_tup [u])).push (PySem.HandSPX.excO C hp.objs.size)
  have up : hp.objs.size ≤ a := Nat.le_succ _
  have na : H1 a = none := I1.hok.fresh up
  have kept : ∀ b o, hp.get? b = some o → hp2.get? b = some o := fun b o z => Heap.get?_push_of_some _ (Heap.get?_push_of_some _ z)
  have there : hp2.get? a = some (PySem.HandSPX.excO C hp.objs.size) := by
    show ((hp.push (PySem.W.kdv_tup [u])).push (PySem.HandSPX.excO C hp.objs.size)).get? (hp.objs.size + 1) = _
    heap_get
  have I2 : Inv X pins σ (upd H1 a (exo a C none)) ⟨hp2, g, dr, tk, os⟩ := I1.laid (t' := tk) kept up (exo_ok there)
  have want : spInit X.K C f [.ref a, v] (upd H1 a (exo a C none)) (fun y H2 => y = .non ∧ ∃ d, H1 d = none ∧ a ≠ d ∧ H2 = upd (upd H1 d (exd d [(f, v)])) a (exo a C (some d))) (fun _ _ _ => False) := by
    refine ⟨a, v, rfl, upd_same, fun d hd hda => ⟨rfl, d, ?_, fun z => hda z.symm, ?_⟩⟩
    · rw [upd_ne hda] at hd
      exact hd
    · funext b
      by_cases h1 : b = a
      · rw [h1, upd_same, upd_same]
      · rw [upd_ne h1, upd_ne h1]
        by_cases h2 : b = d
        · rw [h2, upd_same, upd_same]
        · rw [upd_ne h2, upd_ne h2, upd_ne h1]
  have pairs : Vals [V.ref a, v] [Value.ref a, u] := .cons rfl (.cons r1 .nil)
  refine wpAny_call (PySem.HandSPX.call_own F.excBase_ValueError (fun Y => PySem.HandSPX.refsVE_contains Y bm hbm) (I1.kIn _ _ hC) (PySem.W.looks_findIn I1.kIn iC) (fun self => PySem.W.bind_fn I1.kIn self tI) (by show 1 ≤ sizeLine; rw [sizeLine_eq]; omega) ?_)
  have run := F1.run _ X.stack _ _ ⟨[Value.ref a, u], []⟩ [Value.ref a, u] _ _ (fun _ _ _ => False) (room.make C [u] []) (I2.env0.make C [u] []) (hb _ [Value.ref a, u] I2.kIn rfl) pairs want
  refine codeAny_mono run ?_
  intro r s' got
  cases r with
  | error er => exact False.elim got
  | ok fl =>
    cases fl with
    | next => exact False.elim got
    | brk => exact False.elim got
    | cont => exact False.elim got
    | ret y =>
      obtain ⟨yv, H2, hos, bare, un, held, ry, rfl, d, hd, had, rfl⟩ := got
      have U : Un (frs X.stack) [] H1 (upd (upd H1 d (exd d [(f, v)])) a (exo a C (some d))) hp s'.heap := (Un.laid kept up na).trans un
      refine ⟨ry, ⟨.ref a, _, I1.call' (ch := []) hos U held bare (fun b z => nomatch z), rfl, q1 a d na hd had⟩⟩
/-- isinstance(e, c), e an own error -/
theorem call_isx : CallR X (.builtin "isinstance") (rIsx X.K) := by
  intro pins s σ H xs us Q I r h
  obtain ⟨a, C, c, u, b, rfl, hx, hc, T, ek, q⟩ := h
  obtain ⟨u1, u2, rfl, r1, r2⟩ := vals2 r
  cases (show u1 = Value.ref a from r1)
  have e2 := hc.eq r2
  subst e2
  rcases hx with hx | ⟨d, fs, hx, hd⟩
  · obtain ⟨t1, ho⟩ := exo_at I.hok hx
    exact PySem.W.kia_one (PySem.W.kitx_exc (ox := { cls := .ref C, dict := none, data := .fields #[.ref t1, .none, .none, .none, .bool false, .none] }) (od := none) T.cl T.ga T.gg T.sb T.ca T.cg T.ct T.cm) I.kIn ⟨ho, rfl, rfl, trivial⟩ ek (fun z => nomatch z)
      fun tk => ⟨.bl b, H, I.tok tk, rfl, q⟩
  · obtain ⟨t1, ho⟩ := exo_at I.hok hx
    obtain ⟨mA, ⟨od, es, ep, hod, _⟩, _⟩ := exd_at I.hok hd
    exact PySem.W.kia_one (PySem.W.kitx_exc (ox := { cls := .ref C, dict := some d, data := .fields #[.ref t1, .none, .none, .none, .bool false, .none] }) (od := some od) T.cl T.ga T.gg T.sb T.ca T.cg T.ct T.cm) I.kIn ⟨ho, rfl, rfl, hod⟩ ek (fun z => nomatch z)
      fun tk => ⟨.bl b, H, I.tok tk, rfl, q⟩
/-- e.f, e an own error -/
theorem pe_exf {C : Addr} {f : Str} (T : ExK X.K C) (hno : PySem.W.findIn X.K (.ref C) f = some none) (he : PE X e te) (hb : attributeBase e f X.env (eval e X.env) = eval e X.env := by rfl) :
    PE X (.Attribute e f pos) (fun σ H Q => te σ H fun y H1 => ∃ (a d : Addr) (v : V), y = .ref a ∧ H1 a = some (exo a C (some d)) ∧ H1 d = some (exd d [(f, v)]) ∧ Q v H1) := by
  refine ⟨fun pins s σ H Q I h => ?_⟩
  refine attr_of hb (thn (he.run pins s σ H _ I h) ?_)
  rintro u s1 ⟨y, H1, I1, ry, a, d, v, rfl, ha, hd, q⟩
  cases (show u = Value.ref a from ry)
  obtain ⟨t1, ho⟩ := exo_at I1.hok ha
  obtain ⟨mA, hns, rel⟩ := exd_at I1.hok hd
  obtain ⟨od, hod, hl⟩ := lookIn_ns hns
  have lk : List.lookup f [(f, v)] = some v := by simp [List.lookup]
  obtain ⟨w, hw, rw'⟩ := RelO.some_of (v := v) (o := mA f) (by rw [← lk]; exact rel f)
  have J : PySem.W.InstAt s1.heap a { cls := .ref C, dict := some d, data := .fields #[.ref t1, .none, .none, .none, .bool false, .none] } C (some od) := ⟨ho, rfl, rfl, hod⟩
  exact HandSPX.exc_get I1.kIn J T.ga T.gg T.sb (PySem.W.findObj_own T.hd hno rfl (by rw [hl, hw])) (handed_of rw') ⟨v, H1, I1.tok _, rw', q⟩
end
/-- def __init__(self, f): self.f = f -/
theorem ok_init {P : Program} {w : World} {K : PySem.W.Frag} {mg : Str → Option Value} {base : Heap} {C fI : Addr} {fd : FuncData} {f qual : Str} {st : Stmt} (Fn : Fun K "__init__" qual st fI fd) (Sc : FnScope ["self", f] ["self", f] (defScope st)) (T : OexC K C) (hno : PySem.W.findIn K (.ref C) f = some none)
    (body : ∃ q1 q2 q3 q4, defBody st = [.Assign [.Attribute (.Name "self" q1) f q2] (.Name f q3) q4]) (v0 : Vis (defScope st) "self") (v1 : Vis (defScope st) f) (d1 : (f == Str.ofString "__debug__") = false) (d2 : (f == Str.ofString "__classdict__") = false) :
    FnOk P w K mg base CX0 1 fI fd ["self", f] (spInit K C f) := by
  refine Fn.ok Sc (fun vs H Q E h => ?_) (fun cdv A outer s H vs Q E hr h => ?_)
  · obtain ⟨a, v, rfl, _⟩ := h
    rfl
  · obtain ⟨a, v, rfl, ha, q⟩ := h
    obtain ⟨q1, q2, q3, q4, eb⟩ := body
    rw [eb]
    refine ⟨_, pss_one (ps_ost (pe_var (i := 0) rfl v0) (pe_var (i := 1) rfl v1 (hd := d1) (hcd := d2))), ?_⟩
    exact ⟨v, rfl, .ref a, rfl, a, C, rfl, T, hno, .inl ⟨ha, fun dx hd hne => q dx hd hne⟩⟩
end Lf
namespace Lf
open PySem PySem.Spec PyProof.Rows L2
/-! ### own errors with one field, raised and caught -/
section
variable {X : Cx}
theorem inst_caught {a D dd : Addr} {oe : Obj} {pn pins : List (Addr × Obj)} {σ : L2.St} {H : Hp} {s : Shared} {fs : List (Str × V)} (I : Inv (X.suite a ((a, oe) :: pn)) pins σ H s) (hz : Zc (.ref D) (some dd) oe) (hf : ∃ vs, oe.data = .fields vs) (hd : H dd = some (.xd fs)) :
    ∃ od, PySem.W.InstAt s.heap a oe D (some od) := by
  obtain ⟨ha, _⟩ := I.pin (a, oe) (List.mem_append_left _ List.mem_cons_self)
  obtain ⟨vs, hv⟩ := hf
  have hx : ObjOk X.prog X.w H s.heap dd (.xd fs) := I.hok dd _ hd
  obtain ⟨mA, hns, hr⟩ := hx
  obtain ⟨od, ho, hl⟩ := lookIn_ns hns
  exact ⟨od, ha, hz.1, by unfold PySem.W.notCls; rw [hv] <;> rfl, by rw [hz.2]; exact ho⟩
/-- isinstance(e, c), e the error that the suite holds, with its dict -/
def rIsD (K : PySem.W.Frag) (D a : Addr) (cls : Value) (d : Option Addr) : List V → Hp → VK → Prop := fun xs H Q => ∃ (c : V) (cv : Value) (b : Bool) (dd : Addr) (fs : List (Str × V)), xs = [.ref a, c] ∧ cls = .ref D ∧ d = some dd ∧ H dd = some (.xd fs) ∧ ClsV c cv ∧ PySem.W.kitOne K (.ref D) cv = some b ∧ Q (.bl b) H
theorem call_isD {a D : Addr} {cls : Value} {d : Option Addr} {oe : Obj} {pn : List (Addr × Obj)} (T : ExK X.K D) (hz : Zc cls d oe) (hf : ∃ vs, oe.data = .fields vs) : CallR (X.suite a ((a, oe) :: pn)) (.builtin "isinstance") (rIsD X.K D a cls d) := by
  intro pins s σ H xs us Q I r h
  obtain ⟨c, cv, b, dd, fs, rfl, rfl, rfl, hd, hc, ek, q⟩ := h
  obtain ⟨u1, u2, rfl, r1, r2⟩ := vals2 r
  cases (show u1 = Value.ref a from r1)
  have e2 := hc.eq r2
  subst e2
  obtain ⟨od, J⟩ := inst_caught I hz hf hd
  exact PySem.W.kia_one (PySem.W.kitx_exc T.cl T.ga T.gg T.sb T.ca T.cg T.ct T.cm) I.kIn J ek (fun z => nomatch z) fun tk => ⟨.bl b, H, I.kept (t' := tk) fun _ _ z => z, rfl, q⟩
/-- isinstance(e, (c1, c2, ..)) -/
def rIsDT (K : PySem.W.Frag) (D a : Addr) (cls : Value) (d : Option Addr) : List V → Hp → VK → Prop := fun xs H Q => ∃ (t : Addr) (cs : List V) (b : Bool) (dd : Addr) (fs : List (Str × V)), xs = [.ref a, .ref t] ∧ cls = .ref D ∧ d = some dd ∧ H dd = some (.xd fs) ∧ H t = some (.tup cs) ∧ (∀ its, Vals cs its → PySem.W.kitAny K (.ref D) its = some b) ∧ Q (.bl b) H
theorem call_isDT {a D : Addr} {cls : Value} {d : Option Addr} {oe : Obj} {pn : List (Addr × Obj)} (T : ExK X.K D) (hz : Zc cls d oe) (hf : ∃ vs, oe.data = .fields vs) : CallR (X.suite a ((a, oe) :: pn)) (.builtin "isinstance") (rIsDT X.K D a cls d) := by
  intro pins s σ H xs us Q I r h
  obtain ⟨t, cs, b, dd, fs, rfl, rfl, rfl, hd, ht, ek, q⟩ := h
  obtain ⟨u1, u2, rfl, r1, r2⟩ := vals2 r
  cases (show u1 = Value.ref a from r1)
  cases (show u2 = Value.ref t from r2)
  obtain ⟨od, J⟩ := inst_caught I hz hf hd
  obtain ⟨its, rv, ⟨⟨oc, odd, oda, osl⟩, ho, hc, n, hd'⟩, _⟩ := I.tuple (SqT.of ht)
  dsimp only at hc hd'
  subst hc hd'
  exact PySem.W.kia_tup (PySem.W.kitx_exc T.cl T.ga T.gg T.sb T.ca T.cg T.ct T.cm) I.kIn J ho (ek its rv) (fun z => nomatch z) fun tk => ⟨.bl b, H, I.kept (t' := tk) fun _ _ z => z, rfl, q⟩
/-- what raise C(v) leaves: some heap that keeps all, with the error's dict -/
theorem made_out {H H1 : Hp} {C : Addr} {f : Str} {v : V} {Q : XK} (sm : Same H H1) (q : ∀ (d : Addr) (H' : Hp), Same H H' → H d = none → H' d = some (.xd [(f, v)]) → Q (.ref C) (some d) H') (a : Addr) (na : H1 a = none) (d : Addr) (nd : (upd H1 a (exo a C none)) d = none) (ne : d ≠ a) :
    ∃ (d' : Addr) (fs : List (Str × V)), (upd (upd (upd H1 a (exo a C none)) d (exd d [(f, v)])) a (exo a C (some d))) a = some (exo a C (some d')) ∧ (upd (upd (upd H1 a (exo a C none)) d (exd d [(f, v)])) a (exo a C (some d))) d' = some (exd d' fs) ∧ H1 d' = none ∧
      Q (.ref C) (some d') (upd (del (upd (upd (upd H1 a (exo a C none)) d (exd d [(f, v)])) a (exo a C (some d))) a) d' (.xd fs)) := by
  have nd1 : H1 d = none := by
    rw [upd_ne ne] at nd
    exact nd
  refine ⟨d, [(f, v)], upd_same, by rw [upd_ne ne, upd_same], nd1, q d _ (fun b o e => ?_) (sm.free nd1) upd_same⟩
  have e1 := sm _ _ e
  have b1 : b ≠ a := ne_of_none e1 na
  have b2 : b ≠ d := ne_of_none e1 nd1
  rw [upd_ne b2, del_ne b1, upd_ne b1, upd_ne b2, upd_ne b1]
  exact e1
end
end Lf
namespace Lf
open PySem PySem.Spec PyProof.Rows L2
/-! ### enumerate of a tuple -/
theorem enumNew {v : Value} {o : Obj} {G : Heap → Prop} (B : Begins v o G) :
    Meets (Builtin.«enumerate.__new__» ⟨[.type "enumerate", v], []⟩) (fun _ R s => G s.heap ∧
      R (.ok (.ret (.ref (s.heap.push o).objs.size))) { s with heap := (s.heap.push o).push { cls := .type "enumerate", data := .fields #[.none, .bool false, .ref s.heap.objs.size, rawInt 0, .none, .none] } }) :=
  .of_wp fun prog w A R s want => by
    obtain ⟨hp, gens, drawn, tok, os⟩ := s
    obtain ⟨first, want⟩ := want
    have subE := sub_enumerate
    have it0 : ∀ {A' : Around} {E : Value → Shared → Prop} {Q : Value → Shared → Prop}, Q (.ref hp.objs.size) ⟨hp.push o, gens, drawn, tok, os⟩ → wpAny (model prog w) A' (pyIter v) Q E ⟨hp, gens, drawn, tok, os⟩ := fun z => B.iter prog w _ _ ⟨hp, gens, drawn, tok, os⟩ _ first z
    wp_walk using it0
    refine wpAny_stack_any fun st => wpAny_pure ?_
    split
    · rename_i c _ _ _ _ _
      cases (c == Value.type "enumerate") <;> (wp_walk using it0; exact ⟨_, rfl, want⟩)
    · wp_walk using it0
      exact ⟨_, rfl, want⟩
theorem enumMade {prog : Program} {w : World} {A : Around} {E : Value → Shared → Prop} {s : Shared} {v : Value} {o : Obj} {G : Heap → Prop} {Q : Value → Shared → Prop} (B : Begins v o G) (first : G s.heap)
    (want : ∀ h', IsEnum h' (s.heap.objs.size + 1) s.heap.objs.size 0 .none → h'.get? s.heap.objs.size = some o → (∀ b u, s.heap.get? b = some u → h'.get? b = some u) → Q (.ref (s.heap.objs.size + 1)) { s with heap := h' }) :
    wpAny (model prog w) A (call (.type "enumerate") [v]) Q E s := by
  refine callType_new F.called_enumerate (by decide) (F.typeCall_enumerate_1 _) (F.newCall_enumerate_1 _) (fun obj => F.args_object_init_2 obj _) F.entry_enumerate_new (enumNew B) ⟨first, ?_⟩
  have size : (s.heap.push o).objs.size = s.heap.objs.size + 1 := Heap.size_push ..
  show _ ∧ _
  rw [size]
  have isE : IsEnum ((s.heap.push o).push { cls := .type "enumerate", data := .fields #[.none, .bool false, .ref s.heap.objs.size, rawInt 0, .none, .none] }) (s.heap.objs.size + 1) s.heap.objs.size 0 .none := by
    have z := Heap.get?_push_size (s.heap.push o) (o := { cls := .type "enumerate", data := .fields #[.none, .bool false, .ref s.heap.objs.size, rawInt 0, .none, .none] }) rfl
    rw [size] at z
    exact z
  exact ⟨⟨_, isE, rfl⟩, want _ isE (Heap.get?_push_of_some _ (Heap.get?_push_size _ B.free)) fun b u z => Heap.get?_push_of_some _ (Heap.get?_push_of_some _ z)⟩
/-- the tuple at a, its items in new pairs -/
def ItT (K : PySem.W.Frag) (a : Addr) : It :=
  ⟨fun i H => ∃ (xs : List V) (x : V), SqT K H a xs ∧ xs[i]? = some x, fun i H v H' => ∃ T x, v = .ref T ∧ H T = none ∧ H' = upd H T (.tup [.int (i : Nat), x]) ∧ ∀ xs, SqT K H a xs → xs[i]? = some x, fun i H => ∃ xs : List V, SqT K H a xs ∧ xs.length = i⟩
theorem walkT {K : PySem.W.Frag} {a : Addr} {xs : List V} : Walk (ItT K a) xs.length (fun H => SqT K H a xs) (YPair (fun i => some (.int (i : Nat))) (fun i => xs[i]?)) := by
  refine ⟨fun i _ hi z => ⟨xs, xs[i], z, List.getElem?_eq_getElem hi⟩, fun _ z => ⟨xs, z, rfl⟩, ?_⟩
  rintro i H v H' _ z ⟨T, x, h1, h2, h3, h4⟩
  exact ⟨T, .int (i : Nat), x, h1, h2, h3, rfl, h4 xs z⟩
theorem turnT {P : Program} {w : World} {K : PySem.W.Frag} {elts : List Expr} {kk : Nat} {tpos : Pos} (a e it : Addr) :
    Turn P w K (.Tuple elts kk tpos) (ItT K a) [e, it] e (fun i h => (∃ old, IsEnum h e it ((i : Nat) : Int) old) ∧ h.IsTupleIter it a i ∧ e ≠ it ∧ a ≠ it ∧ e ≠ a) where
  mem := List.mem_cons_self
  obj := by
    rintro i h ⟨⟨old, he⟩, ⟨o, ho, hc, hd⟩, _⟩ b hb
    rcases List.mem_cons.mp hb with rfl | hb
    · exact ⟨_, he, fun v z => nomatch z⟩
    · rw [List.mem_singleton.mp hb]
      exact ⟨o, ho, fun v z => by rw [hd] at z; cases z⟩
  keep := by
    rintro i h h' ⟨⟨old, he⟩, hi, r⟩ k
    exact ⟨⟨old, k e List.mem_cons_self _ he⟩, hi.at fun o z => k it (List.mem_cons_of_mem _ List.mem_cons_self) o z, r⟩
  item := by
    intro X hP hw hK hc i pins s σ H E I hf st hg
    subst hP hw hK
    obtain ⟨⟨old, he⟩, hit, hne, hai, hea⟩ := st
    obtain ⟨xs, x, hq, hx⟩ := hg
    obtain ⟨its, rv, tp, hz⟩ := I.tuple hq
    obtain ⟨u, hu, ru⟩ := rv.get hx
    have inb : i < its.toArray.size := by
      rw [List.size_toArray]
      rcases Nat.lt_or_ge i its.length with z | z
      · exact z
      · rw [List.getElem?_eq_none z] at hu
        cases hu
    have isT : s.heap.IsTuple a its.toArray := by
      obtain ⟨o, ho, ht, n, hd⟩ := tp
      exact ⟨o, ho, ht, n, hd⟩
    have el : e < s.heap.objs.size := Heap.lt_size he
    have il : it < s.heap.objs.size := by
      obtain ⟨_, z, _⟩ := hit
      exact Heap.lt_size z
    refine wpAny_pyNext_enum_itemD (Draws.tuple (A := X.A.in1) (I.ok.hd hc) it a hai its.toArray) he ⟨hit, isT⟩ inb hne (by simp [hne, hea]) ?_
    rintro y h1 tk hy out ⟨hit1, _⟩ pair _ kept
    have ey : y = u := by
      have z : its[i]? = some y := by simpa using hy
      rw [hu] at z
      exact (Option.some.inj z).symm
    subst ey
    refine ⟨_, rfl, wpAny_letOwnedTupleGo_enum (s := { s with heap := h1, toks := tk + 1 }) out ?_⟩
    intro h2 he2 same
    have pair2 : h2.get? s.heap.objs.size = some { cls := .type "tuple", data := .seq #[.int i tk, y] } := (same.2 _ (Nat.ne_of_gt el)).trans pair
    have new : ObjOk X.prog X.w (upd H s.heap.objs.size (.tup [.int (i : Nat), x])) h2 s.heap.objs.size (.tup [.int (i : Nat), x]) :=
      ⟨by show 2 ≤ sizeLine; decide, [.int i tk, y], .cons ⟨_, rfl⟩ (.cons ru .nil), ⟨_, pair2, rfl, _, rfl⟩⟩
    have J : Inv X pins σ (upd H s.heap.objs.size (.tup [.int (i : Nat), x])) { s with heap := h2, toks := tk + 1 } := by
      refine I.turnedNew (ch := [e, it]) ?_ hf (Nat.le_refl _) new
      intro b ob hb z
      have be : b ≠ e := fun y => hb (by simp [y])
      have bi : b ≠ it := fun y => hb (by simp [y])
      exact (same.2 b be).trans (kept b ob be bi z)
    refine ⟨.ref s.heap.objs.size, _, J, rfl, ⟨_, x, rfl, I.hok.fresh (Nat.le_refl _), rfl, fun ys hys => ?_⟩, ⟨⟨y, ?_⟩, hit1.at fun o z => (same.2 it (Ne.symm hne)).trans z, hne, hai, hea⟩, fun b hb => ?_⟩
    · rw [I.tuple_inj hys hq]
      exact hx
    · have z : ((i + 1 : Nat) : Int) = (i : Int) + 1 := by omega
      rw [z]
      exact he2
    · have bl : b < s.heap.objs.size := by
        rcases List.mem_cons.mp hb with rfl | hb
        · exact el
        · rw [List.mem_singleton.mp hb]
          exact il
      rw [upd_ne (Nat.ne_of_lt bl)]
      exact (hf b hb).1
  done := by
    intro X hP hw hK hc i pins s σ H E I hf st hg
    subst hP hw hK
    obtain ⟨⟨old, he⟩, hit, hne, hai, hea⟩ := st
    obtain ⟨xs, hq, hx⟩ := hg
    obtain ⟨its, rv, tp, hz⟩ := I.tuple hq
    have isT : s.heap.IsTuple a its.toArray := by
      obtain ⟨o, ho, ht, n, hd⟩ := tp
      exact ⟨o, ho, ht, n, hd⟩
    obtain ⟨f0, f1, f2, f3, f4, f5⟩ := hf it (List.mem_cons_of_mem _ List.mem_cons_self)
    have same := rv.length
    have size : its.toArray.size = i := by
      rw [List.size_toArray]
      omega
    have last : s.heap.IsTupleIter it a its.toArray.size ∧ s.heap.IsTuple a its.toArray := ⟨by rw [size]; exact hit, isT⟩
    refine wpAny_pyNext_enum_endD (Draws.tuple (A := X.A.in1) (I.ok.hd hc) it a hai its.toArray) he last ?_
    intro h1 ext
    exact ⟨rfl, I.turned (t' := s.toks) (fun b o hb z => ext b o hb z) f0 f1 f3 f4 f5⟩
  self := fun A i s Q E st h => by
    obtain ⟨⟨_, he⟩, _⟩ := st
    exact wpAny_pyIter_enum he h
def iEnT (K : PySem.W.Frag) (ta : TA) : TI := fun σ H R => ta σ H fun vs H1 => ∃ a xs, vs = [.ref a] ∧ SqT K H1 a xs ∧ R (ItT K a) H1
theorem pi_enumT {X : Cx} {e : Expr} {ta : TA} {p pos tpos : Pos} {elts : List Expr} {kk : Nat} (hg : Gl X "enumerate") (hm : X.mg "enumerate" = none) (ha : PA X [e] ta) (hs : starEach [e] X.env = [(false, eval e X.env)] := by rfl) :
    PI X (.Tuple elts kk tpos) (.Call (.Name "enumerate" p) [e] [] pos) (iEnT X.K ta) := by
  refine ⟨fun pins s σ H R I h => ?_⟩
  refine Call_ (ld_blt I hg hm boot_enumerate (PyProof.Rows.callWith_type1 (thn (ha.run pos pins s σ H _ I h) ?_) hs rfl))
  rintro us s1 ⟨vs, H1, I1, r1, a, xs, rfl, hq, q⟩
  obtain ⟨u, rfl, r⟩ := vals1 r1
  cases (show u = Value.ref a from r)
  obtain ⟨its, rv, tp, hz⟩ := I1.tuple hq
  have isT : s1.heap.IsTuple a its.toArray := by
    obtain ⟨o, ho, ht, n, hd⟩ := tp
    exact ⟨o, ho, ht, n, hd⟩
  have al : a < s1.heap.objs.size := by
    obtain ⟨o, ho, _⟩ := tp
    exact Heap.lt_size ho
  refine enumMade (begins_tuple a its.toArray) isT ?_
  intro h1 isE isI kept
  refine wpAny_pyIter_enum isE ?_
  have I2 : Inv X pins σ H1 { s1 with heap := h1 } := I1.kept (t' := s1.toks) kept
  refine ⟨s1.heap.objs.size + 1, [s1.heap.objs.size + 1, s1.heap.objs.size], _, _, H1, rfl, I2, turnT a (s1.heap.objs.size + 1) s1.heap.objs.size, ⟨⟨.none, isE⟩, ⟨_, isI, rfl, rfl⟩, Nat.succ_ne_self _, Nat.ne_of_lt al, Nat.ne_of_gt (Nat.lt_succ_of_lt al)⟩, fun b hb => ?_, q⟩
  have le : s1.heap.objs.size ≤ b := by
    rcases List.mem_cons.mp hb with rfl | hb
    · exact Nat.le_succ _
    · rw [List.mem_singleton.mp hb]
      exact Nat.le_refl _
  exact I1.fpOk le (I1.hok.fresh le)
end Lf
namespace Lf
open PySem PySem.Spec PyProof.Rows L2
/-! ### tuples of any kind: slices, sums, the reverse of a short one, == () -/
theorem same_newT {H : Hp} {p : Addr} {o : HO} (h : H p = none) : Same H (upd H p o) := fun b u e => by
  rw [upd_ne (ne_of_none e h)]
  exact e
section
variable {prog : Program} {w : World} {A : Around} {E : Value → Shared → Prop} {s : Shared}
theorem adjBack (n : Nat) : Builtin.Slice.sliceAdjust none none (-1) (n : Int) = ((n : Int) - 1, -1) := by
  unfold Builtin.Slice.sliceAdjust
  simp
theorem plBack (n : Nat) : Builtin.Slice.slicePlaces ((n : Int) - 1) (-1) (-1) = n := by
  unfold Builtin.Slice.slicePlaces
  have h1 : ¬ ((-1 : Int) > 0) := by decide
  simp only [h1, if_false]
  split <;> simp_all <;> omega
theorem appBack {sl : Addr} {t : Tok} {n : Nat} {Q : Int × Int × Nat → Shared → Prop} (hs : s.heap.IsSliceOf sl .none .none (.int (-1) t)) (h : Q ((n : Int) - 1, -1, n) s) :
    wpAny (model prog w) A (Builtin.Slice.sliceApplied (.ref sl) (pure (n : Int))) Q E s := by
  obtain ⟨os, hos, hcs, hds⟩ := id hs
  unfold Builtin.Slice.sliceApplied Builtin.Slice.sliceFields
  refine wpAny_bind (wpAny_bind (wpAny_field hos hds (x := .none) rfl (wpAny_bind (wpAny_field hos hds (x := .none) rfl (wpAny_bind (wpAny_field hos hds (x := .int (-1) t) rfl (wpAny_pure ?_)))))))
  refine wpAny_bind (HT.slicePart_ (IsPart.int (-1) t) ?_)
  show wpAny _ _ (if ((-1 : Int) == 0) = true then _ else _) _ _ s
  rw [if_neg (by decide)]
  refine wpAny_bind (HT.slicePart_ IsPart.none (wpAny_bind (HT.slicePart_ IsPart.none (wpAny_bind (wpAny_pure ?_)))))
  show wpAny _ _ (match Builtin.Slice.sliceAdjust none none (-1) (n : Int) with | (lo, hi) => pure (lo, (-1 : Int), Builtin.Slice.slicePlaces lo hi (-1))) _ _ s
  rw [adjBack]
  show wpAny _ _ (pure ((n : Int) - 1, (-1 : Int), Builtin.Slice.slicePlaces ((n : Int) - 1) (-1) (-1))) _ _ s
  rw [plBack]
  exact wpAny_pure h
theorem pickBack (xs : List Value) (h : xs.length ≤ 2) : ((List.range xs.toArray.size).filterMap fun (k : Nat) => xs.toArray[(((xs.toArray.size : Nat) : Int) - 1 + (k : Int) * (-1)).toNat]?).toArray = xs.reverse.toArray := by
  match xs, h with
  | [], _ => rfl
  | [a], _ => rfl
  | [a, b], _ => rfl
theorem getBack {t sl : Addr} {items : List Value} {tk : Tok} {Q : Value → Shared → Prop} (ht : IsTup s.heap t items.toArray) (hs : s.heap.IsSliceOf sl .none .none (.int (-1) tk)) (few : items.length ≤ 2)
    (h : Q (.ref s.heap.objs.size) { s with heap := s.heap.push { cls := .type "tuple", data := .seq items.reverse.toArray } }) : wpAny (model prog w) A (getItem (.ref t) (.ref sl)) Q E s := by
  have fits : sizeOk (.seq items.reverse.toArray) := by
    show items.reverse.toArray.size ≤ sizeLine
    rw [List.size_toArray, List.length_reverse, sizeLine_eq]
    omega
  obtain ⟨os, hos, hcs, hds⟩ := id hs
  have isS : s.TypeIs (.ref sl) "slice" := ⟨os, hos, hcs⟩
  unfold getItem
  try with_reducible refine wpAny_holding ?_
  first | refine wpAny_bind (wpAny_pure ?_) | skip
  refine wpAny_bind (wpAny_sequenceKey ht.typeIs (by decide) ?_)
  refine wpAny_bind (wpAny_callSpecial?_slot (name := Str.ofString "__getitem__") ht.typeIs PyProof.Rows.slot_tuple_getitem (wpAny_call_entry PyProof.Rows.slot_tuple_getitem ht.typeIs entry_tuple_getitem ?_ (args_tuple_getitem _ _)))
  show wpAny _ _ (Builtin.Tuple.tupleItemsOf (.ref t) >>= _) _ _ s
  refine wpAny_bind (tupleItemsOf_ ht (wpAny_bind (wpAny_typeOf isS ?_)))
  rw [if_pos (by decide)]
  refine wpAny_bind (appBack hs ?_)
  have no : ¬ ((((((items.toArray.size : Nat) : Int) - 1) == 0) && ((-1 : Int) == 1) && (items.toArray.size == items.toArray.size)) = true) := by
    rw [show ((-1 : Int) == 1) = false from by decide, Bool.and_false, Bool.false_and]
    exact Bool.false_ne_true
  show wpAny _ _ (if (((((items.toArray.size : Nat) : Int) - 1) == 0) && ((-1 : Int) == 1) && (items.toArray.size == items.toArray.size)) = true then _ else _) _ _ s
  rw [if_neg no, pickBack items few]
  first
    | exact wpAny_bind (m := Builtin.Tuple.tupleExact _) (wpAny_newObj_type (wpAny_pure ⟨_, rfl, wpAny_pure h⟩) fits)
    | exact wpAny_bind (m := Builtin.Tuple.tupleExact _) (wpAny_newObj_type (wpAny_bind (wpAny_pure (wpAny_pure ⟨_, rfl, wpAny_pure h⟩))) fits)
    | exact wpAny_bind (wpAny_bind (m := Builtin.Tuple.tupleExact _) (wpAny_newObj_type (wpAny_pure (wpAny_pure ⟨_, rfl, wpAny_pure h⟩)) fits))
    | exact wpAny_bind (wpAny_bind (m := Builtin.Tuple.tupleExact _) (wpAny_newObj_type (wpAny_pure ⟨_, rfl, wpAny_pure h⟩) fits))
end
section
variable {X : Cx}
def tRevT (te : TE) : TE := fun σ H Q => te σ H fun x H1 => ∃ (a : Addr) (xs : List V), x = .ref a ∧ H1 a = some (.tup xs) ∧ xs.length ≤ 2 ∧ ∀ p, H1 p = none → Q (.ref p) (upd H1 p (.tup xs.reverse))
theorem pe_revT {e : Expr} {te : TE} {k : Nat} {p1 p2 p3 pos : Pos} (he : PE X e te) : PE X (.Subscript e (.Slice none none (some (.UnaryOp .USub (.Constant (.int 1) k p1) p2)) p3) pos) (tRevT te) := by
  refine ⟨fun pins s σ H Q I h => ?_⟩
  refine Subscript_ (thn (he.run pins s σ H _ I h) ?_)
  rintro v s1 ⟨x, H1, I1, r1, a, xs, rfl, hx, few, q⟩
  cases (show v = Value.ref a from r1)
  have hst : PE X (.UnaryOp .USub (.Constant (.int 1) k p1) p2) (tUn (rU fun i => .int (-i)) (tC (.int 1))) := pe_un un_neg pe_int
  refine wpAny_Slice (thn (po_none.run pins s1 σ H1 (fun o G => o = none ∧ G = H1) I1 ⟨rfl, rfl⟩) ?_)
  rintro vl s2 ⟨ol, G2, I2, pl, rfl, rfl⟩
  refine thn (po_none.run pins s2 σ G2 (fun o G => o = none ∧ G = G2) I2 ⟨rfl, rfl⟩) ?_
  rintro vu s3 ⟨ou, G3, I3, pu, rfl, rfl⟩
  cases pl
  cases pu
  rw [evalPart_some]
  refine thn (hst.run pins s3 σ G3 (fun y G => y = .int (-1) ∧ G = G3) I3 ⟨1, rfl, rfl, rfl⟩) ?_
  rintro vs s4 ⟨y, H4, I4, ry, rfl, rfl⟩
  obtain ⟨tk, rfl⟩ := ry
  have I5 : Inv X pins σ H4 { s4 with heap := s4.heap.push { cls := .type "slice", data := .fields #[.none, .none, .int (-1) tk] } } := I4.kept (t' := s4.toks) fun b ob z => Heap.get?_push_of_some _ z
  obtain ⟨its, rv, plain, small⟩ := I5.tuple (SqT.of hx)
  have same := rv.length
  show wpAny (model X.prog X.w) X.A (subscriptTail e (.Slice none none (some (.UnaryOp .USub (.Constant (.int 1) k p1) p2)) p3) (.ref a) (.ref s4.heap.objs.size)) (EP X pins σ Q) X.xe { s4 with heap := s4.heap.push { cls := .type "slice", data := .fields #[.none, .none, .int (-1) tk] } }
  refine tail_any (ops := [.ref a, .ref s4.heap.objs.size]) plain.typeIs (PyProof.Rows.slot_tuple_getitem.lookup) ?_ (by with_unfolding_all rfl)
  refine getBack plain (Heap.IsSliceOf.new _ _ _ _) (by omega) ?_
  refine ⟨.ref _, _, I5.laid (t' := s4.toks) (o := .tup xs.reverse) (fun b ob z => Heap.get?_push_of_some _ z) (Nat.le_refl _) ?_, rfl, q _ (I5.hok.fresh (Nat.le_refl _))⟩
  exact ⟨by rw [List.length_reverse]; exact small, its.reverse, rv.reverse, IsTup.new _ _⟩
/-- a slice of a tuple: some tuple of these items -/
def rSlW : V → Option Int → Option Int → Hp → VK → Prop := fun x lo hi H Q => ∃ (a : Addr) (xs : List V), x = .ref a ∧ H a = some (.tup xs) ∧ ∀ (r : Addr) (H' : Hp), Same H H' → H' r = some (.tup (cutV xs lo hi)) → Q (.ref r) H'
theorem sl_tupW : SlR X rSlW := by
  intro pins s σ H x v vl vu lo hi sl Q I rx hs pl pu h
  obtain ⟨a, xs, rfl, hx, q⟩ := h
  refine sl_tupA pins s σ H _ v vl vu lo hi sl Q I rx hs pl pu ⟨a, xs, rfl, SqT.of hx, fun hw => ?_, fun _ p np => q p _ (same_newT np) upd_same⟩
  refine q a H (Same.refl H) ?_
  unfold cutV
  rw [hw.1, hw.2, List.drop_zero, Nat.sub_zero, List.take_length]
  exact hx
/-- a sum of tuples: some tuple of these items -/
def rCatW : R2 := fun x y H Q => ∃ (a b : Addr) (xs ys : List V), x = .ref a ∧ y = .ref b ∧ H a = some (.tup xs) ∧ H b = some (.tup ys) ∧ xs.length + ys.length ≤ sizeLine ∧ ∀ (r : Addr) (H' : Hp), Same H H' → H' r = some (.tup (xs ++ ys)) → Q (.ref r) H'
theorem op_catW : OpR X (binaryOp .Add) rCatW := by
  intro pins s σ H x y v u Q I rx ry h
  obtain ⟨a, b, xs, ys, rfl, rfl, ha, hb, small, q⟩ := h
  refine op_catA pins s σ H _ _ v u Q I rx ry ⟨a, b, xs, ys, rfl, rfl, SqT.of ha, SqT.of hb, small, fun z => ?_, fun _ z => ?_, fun _ _ p np => q p _ (same_newT np) upd_same⟩
  · subst z
    exact q b H (Same.refl H) hb
  · subst z
    refine q a H (Same.refl H) ?_
    rw [List.append_nil]
    exact ha
/-- t == () -/
theorem op_eqE (hu : X.A.units < cLine) : OpR X (compareOp .Eq) (fun x y H Q => ∃ (a b : Addr) (xs : List V), x = .ref a ∧ y = .ref b ∧ SqT X.K H a xs ∧ H b = some (.tup []) ∧ Q (.bl xs.isEmpty) H) := by
  intro pins s σ H x y v u Q I rx ry h
  obtain ⟨a, b, xs, rfl, rfl, ha, hb, q⟩ := h
  cases (show v = Value.ref a from rx)
  cases (show u = Value.ref b from ry)
  obtain ⟨its, rv, ⟨o, ho, hc, n, hd⟩, _⟩ := I.tuple ha
  obtain ⟨jts, rw', ⟨o2, ho2, hc2, n2, hd2⟩, _⟩ := I.tuple (SqT.of hb)
  cases rw'
  have e : ((List.range (min its.toArray.size ([] : List Value).toArray.size)).all (fun _ => true) && its.toArray.size == ([] : List Value).toArray.size) = xs.isEmpty := by
    have same := rv.length
    cases xs with
    | nil =>
      cases rv
      rfl
    | cons x xs =>
      cases rv with
      | cons _ _ => rfl
  refine SeqAt.eq_tupleAt (e := fun _ => true) ⟨o, ho, hc, n, hd⟩ ⟨o2, ho2, hc2, n2, hd2⟩ hu (fun j _ h2 => absurd h2 (Nat.not_lt_zero j)) ?_
  rw [e]
  exact ⟨.bl _, H, I, rfl, q⟩
/-- repr of any data -/
theorem call_reprA (hs : ∃ o, X.base.get? sysModules = some o) (hg : X.A.guards = some []) (hu : X.A.units + 200 < cLine) :
    CallR X (.builtin "repr") (fun xs H Q => ∃ (v : V) (d : PyData), xs = [v] ∧ Rp H v d ∧ d.showable = true ∧ d.depth ≤ 100 ∧ d.shown.length ≤ sizeLine ∧ Q (.str d.shown) H) := by
  intro pins s σ H xs us Q I r h
  obtain ⟨v, d, rfl, hr, h1, h2, h3, q⟩ := h
  cases hr with
  | non =>
    obtain ⟨u, rfl, r1⟩ := vals1 r
    cases (show u = Value.none from r1)
    exact PySem.P.repr_of_none ⟨.str _, H, I.tok _, ⟨_, rfl⟩, q⟩
  | bl b =>
    obtain ⟨u, rfl, r1⟩ := vals1 r
    cases (show u = Value.bool b from r1)
    exact PySem.P.repr_of_bool ⟨.str _, H, I.tok _, ⟨_, rfl⟩, q⟩
  | int i =>
    obtain ⟨u, rfl, t, rfl⟩ := vals1 r
    exact PySem.P.repr_of_int (of_decide_eq_true h1) ⟨.str _, H, I.tok _, ⟨_, rfl⟩, q⟩
  | str x =>
    obtain ⟨u, rfl, t, rfl⟩ := vals1 r
    exact PySem.P.repr_of_str ⟨.str _, H, I.tok _, ⟨_, rfl⟩, q⟩ h3
  | lst e z => exact call_repr hs hg hu pins s σ H _ us Q I r ⟨_, _, rfl, .lst e z, h1, h2, h3, q⟩
  | tup e z => exact call_repr hs hg hu pins s σ H _ us Q I r ⟨_, _, rfl, .tup e z, h1, h2, h3, q⟩
  | ftp e z => exact call_repr hs hg hu pins s σ H _ us Q I r ⟨_, _, rfl, .ftp e z, h1, h2, h3, q⟩
  | dct e z => exact call_repr hs hg hu pins s σ H _ us Q I r ⟨_, _, rfl, .dct e z, h1, h2, h3, q⟩
end
/-! ### kinds -/
def tyD : PyData → String
  | .none => "NoneType"
  | .bool _ => "bool"
  | .int _ => "int"
  | .str _ => "str"
  | .list _ => "list"
  | .tuple _ => "tuple"
  | .dict _ => "dict"
theorem Rp.ty {K : PySem.W.Frag} {H : Hp} {v : V} {d : PyData} (h : Rp H v d) : TyX K H v (.type (tyD d)) := by
  cases h with
  | non => exact .base .non
  | bl b => exact .base (.bl b)
  | int i => exact .base (.int i)
  | str x => exact .base (.str x)
  | lst e _ => exact .base (.lst e)
  | tup e _ => exact .base (.tup e)
  | ftp e _ => exact .fTuple e
  | dct e _ => exact .base (.dK e)
theorem kInt {K : PySem.W.Frag} (d : PyData) : PySem.W.kitOne K (.type (tyD d)) (.type "int") = some (match d with | .int _ => true | .bool _ => true | _ => false) := by
  cases d with
  | none => exact kit_ty (show kitB "NoneType" "int" = some false by decide +kernel)
  | bool _ => exact kit_ty (show kitB "bool" "int" = some true by decide +kernel)
  | int _ => exact kit_ty (show kitB "int" "int" = some true by decide +kernel)
  | str _ => exact kit_ty (show kitB "str" "int" = some false by decide +kernel)
  | list _ => exact kit_ty (show kitB "list" "int" = some false by decide +kernel)
  | tuple _ => exact kit_ty (show kitB "tuple" "int" = some false by decide +kernel)
  | dict _ => exact kit_ty (show kitB "dict" "int" = some false by decide +kernel)
theorem kBool {K : PySem.W.Frag} (d : PyData) : PySem.W.kitOne K (.type (tyD d)) (.type "bool") = some (match d with | .bool _ => true | _ => false) := by
  cases d with
  | none => exact kit_ty (show kitB "NoneType" "bool" = some false by decide +kernel)
  | bool _ => exact kit_ty (show kitB "bool" "bool" = some true by decide +kernel)
  | int _ => exact kit_ty (show kitB "int" "bool" = some false by decide +kernel)
  | str _ => exact kit_ty (show kitB "str" "bool" = some false by decide +kernel)
  | list _ => exact kit_ty (show kitB "list" "bool" = some false by decide +kernel)
  | tuple _ => exact kit_ty (show kitB "tuple" "bool" = some false by decide +kernel)
  | dict _ => exact kit_ty (show kitB "dict" "bool" = some false by decide +kernel)
theorem kTup {K : PySem.W.Frag} (d : PyData) : PySem.W.kitOne K (.type (tyD d)) (.type "tuple") = some (match d with | .tuple _ => true | _ => false) := by
  cases d with
  | none => exact kit_ty (show kitB "NoneType" "tuple" = some false by decide +kernel)
  | bool _ => exact kit_ty (show kitB "bool" "tuple" = some false by decide +kernel)
  | int _ => exact kit_ty (show kitB "int" "tuple" = some false by decide +kernel)
  | str _ => exact kit_ty (show kitB "str" "tuple" = some false by decide +kernel)
  | list _ => exact kit_ty (show kitB "list" "tuple" = some false by decide +kernel)
  | tuple _ => exact kit_ty (show kitB "tuple" "tuple" = some true by decide +kernel)
  | dict _ => exact kit_ty (show kitB "dict" "tuple" = some false by decide +kernel)
end Lf
namespace Lf
open PySem PySem.Spec PyProof.Rows L2
/-! ### the first error: plain mathematics -/
def isInt : PyData → Bool
  | .int _ => true
  | _ => false
def isV (n : Nat) : PyData → Bool
  | .int i => decide (0 ≤ i) && decide (i < n)
  | _ => false
def unD : PyData → Nat
  | .int i => i.toNat
  | _ => 0
def it (fs : List Nat) : Nat → Nat → Nat
  | 0, v => v
  | k + 1, v => par fs (it fs k v)
def lead (fs : List Nat) (k v : Nat) : Bool := decide (par fs (it fs k v) = it fs k v)
def bad (ds : List PyData) (k : Nat) : Bool := !isV ds.length (ds.getD k .none)
def cyc (fs : List Nat) (v : Nat) : Bool := !lead fs fs.length v
def errD : PyData → PyData
  | .tuple ds => if ds.length = 0 ∨ 24 < ds.length then .tuple [.none, .str "length"] else
      match (List.range ds.length).find? (bad ds) with
      | some k => .tuple [.int (k : Nat), .str "parent"]
      | none => match (List.range ds.length).find? (cyc (ds.map unD)) with
        | some v => .tuple [.int (v : Nat), .str "cycle"]
        | none => .none
  | _ => .tuple [.none, .str "tuple"]
theorem find_first {p : Nat → Bool} {n i : Nat} (hi : i < n) (hp : p i = true) (h : ∀ j, j < i → p j = false) : (List.range n).find? p = some i := by
  rw [List.find?_range_eq_some]
  exact ⟨hp, List.mem_range.mpr hi, fun j hj => by rw [h j hj]; rfl⟩
theorem find_none {p : Nat → Bool} {n : Nat} (h : ∀ j, j < n → p j = false) : (List.range n).find? p = none := by
  rw [List.find?_eq_none]
  intro x hx
  rw [h x (List.mem_range.mp hx)]
  exact Bool.false_ne_true
theorem filter_find {p : Nat → Bool} {n : Nat} : ((List.range n).filter p)[0]? = (List.range n).find? p := by
  rw [← List.head?_filter, List.head?_eq_getElem?]
/-- steps taken the other way round -/
theorem it_par (fs : List Nat) (v : Nat) : ∀ k, it fs k (par fs v) = it fs (k + 1) v
  | 0 => rfl
  | k + 1 => by
    show par fs (it fs k (par fs v)) = par fs (it fs (k + 1) v)
    rw [it_par fs v k]
theorem lead_succ {fs : List Nat} {k v : Nat} : lead fs (k + 1) v = (lead fs k v || lead fs k (par fs v)) := by
  unfold lead
  rw [it_par]
  by_cases h : par fs (it fs k v) = it fs k v
  · have e : it fs (k + 1) v = it fs k v := h
    rw [e, decide_eq_true h]
    rfl
  · rw [decide_eq_false h]
    rfl
theorem it_lt {fs : List Nat} (rng : ∀ v, v < fs.length → par fs v < fs.length) {v : Nat} (h : v < fs.length) : ∀ k, it fs k v < fs.length
  | 0 => h
  | k + 1 => rng _ (it_lt rng h k)
end Lf
namespace Lf
open PySem PySem.Spec PyProof.Rows L2
theorem flatNv : ∀ l : List Nat, (nv l).all flatV = true
  | [] => rfl
  | _ :: l => flatNv l
section
variable {X : Cx}
/-- xs[i] read ahead of xs[i] += e, i a place of the list -/
theorem get_listN : PGet X (fun x y H Q => ∃ (p : Addr) (xs : List V) (i : Nat) (v : V), x = .ref p ∧ y = .int (i : Nat) ∧ SqL X.K H p xs ∧ xs[i]? = some v ∧ Q v H) := by
  intro pins s σ H o i ov iv Q I ro ri h
  obtain ⟨p, xs, k, v, rfl, rfl, hq, hv, q⟩ := h
  cases (show ov = Value.ref p from ro)
  obtain ⟨t, rfl⟩ := ri
  obtain ⟨its, rv, plain, small⟩ := I.list hq
  obtain ⟨u, hu, ru⟩ := rv.get hv
  have same := rv.length
  have kl : k < its.length := by
    rcases Nat.lt_or_ge k its.length with z | z
    · exact z
    · rw [List.getElem?_eq_none z] at hu
      cases hu
  rw [sizeLine_eq] at small
  exact wpAny_getItem_list plain.isList (by omega) (by omega) (by simpa using hu) ⟨v, H, I, ru, q⟩
/-- t.index(x), a number's first place -/
theorem mt_tup_indexN : MtR X "tuple.index" (fun x xs H Q => ∃ (p : Addr) (ys : List Nat) (z j : Nat), x = .ref p ∧ xs = [.int (z : Nat)] ∧ SqT X.K H p (nv ys) ∧ ys[j]? = some z ∧ (∀ m, m < j → ys[m]? ≠ some z) ∧ Q (.int (j : Nat)) H) := by
  intro pins s σ H x xs v us Q I rx rs h
  obtain ⟨p, ys, z, j, rfl, rfl, hq, hy, hno, q⟩ := h
  cases (show v = Value.ref p from rx)
  obtain ⟨u, rfl, t, rfl⟩ := vals1 rs
  obtain ⟨its, rv, plain, small⟩ := I.tuple hq
  obtain ⟨⟨cls, dd, dt, sl⟩, ho, hc, n, hd⟩ := plain
  simp only at hc hd
  subst hc hd
  have size : its.toArray.size = ys.length := by rw [List.size_toArray, ← rv.length, nv_length]
  have hj : j < its.toArray.size := by
    rw [size]
    exact (List.getElem?_eq_some_iff.mp hy).1
  have place : ∀ (m : Nat) (hm : m < its.toArray.size), ∃ (y : Nat) (t' : Tok), ys[m]? = some y ∧ its.toArray[m] = Value.int (y : Nat) t' := by
    intro m hm
    have hm' : m < ys.length := by
      rw [← size]
      exact hm
    obtain ⟨w, hw, t', hw'⟩ := rv.get (i := m) (x := .int ((ys.getD m 0 : Nat) : Int)) (nv_get hm')
    refine ⟨ys.getD m 0, t', ?_, ?_⟩
    · rw [List.getD_eq_getElem?_getD, List.getElem?_eq_getElem hm']
      rfl
    · have e := (List.getElem?_eq_some_iff.mp hw).2
      rw [← hw', ← e]
      simp
  refine call_meets PySem.F.slot_tuple_index ⟨_, ho, rfl⟩ PySem.F.entry_tuple_index (PySem.F.args_tuple_index_2 _ _) (TI.tuple_indexAt p its.toArray n dd sl (.int (z : Nat) t) (eqU (.int (z : Nat))) j hj ?_ ?_)
    ⟨ho, fun w hw => mem_eqAt (x := .int (z : Nat)) ⟨t, rfl⟩ rfl rv (flatNv ys) w (by simpa using hw), ⟨.int (j : Nat), H, I.tok _, ⟨_, rfl⟩, q⟩⟩
  · obtain ⟨y, t', h1, h2⟩ := place j hj
    rw [hy] at h1
    cases h1
    rw [h2]
    show (((z : Nat) : Int) == ((z : Nat) : Int)) = true
    exact beq_self_eq_true _
  · intro m hm hmj
    obtain ⟨y, t', h1, h2⟩ := place m hm
    rw [h2]
    show (((y : Nat) : Int) == ((z : Nat) : Int)) = false
    refine beq_eq_false_iff_ne.mpr fun e => hno m hmj ?_
    rw [h1]
    have : y = z := by omega
    rw [this]
/-- tuple(a list), the new tuple known to the object -/
theorem call_tupleF : CallR X (.type "tuple") (fun xs H Q => ∃ (p : Addr) (ys : List V), xs = [.ref p] ∧ SqL X.K H p ys ∧ ∀ (l : Addr) (o : Obj), H l = none → o.cls = .type "tuple" → o.dict = none → Q (.ref l) (upd H l (.frz o (.tup ys)))) := by
  intro pins s σ H xs us Q I r h
  obtain ⟨p, ys, rfl, hq, q⟩ := h
  obtain ⟨u, rfl, rx⟩ := vals1 r
  cases (show u = Value.ref p from rx)
  obtain ⟨its, rv, plain, small⟩ := I.list hq
  have same := rv.length
  refine call_tuple_list plain.isList ?_ (by simp only [List.size_toArray] <;> omega)
  intro h1 kept
  have I1 : Inv X pins σ H { s with heap := h1 } := I.kept (t' := s.toks) kept
  have at1 : (h1.push { cls := .type "tuple", data := .seq its.toArray }).get? h1.objs.size = some { cls := .type "tuple", data := .seq its.toArray } := Heap.get?_push_size _ rfl
  refine ⟨.ref h1.objs.size, _, I1.laid (t' := s.toks) (o := .frz { cls := .type "tuple", data := .seq its.toArray } (.tup ys)) (fun b o z => Heap.get?_push_of_some _ z) (Nat.le_refl _) ?_, rfl, q _ _ (I1.hok.fresh (Nat.le_refl _)) rfl rfl⟩
  exact ⟨at1, small, its, rv, IsTup.new _ _⟩
/-- the call of a method of such a tuple -/
def tTM (r : V → List V → Hp → VK → Prop) (to : TE) (t : TA) : TE := fun σ H Q => to σ H fun x H1 => (∃ (p : Addr) (o : Obj) (xs : List V), x = .ref p ∧ H1 p = some (.frz o (.tup xs)) ∧ o.cls = .type "tuple" ∧ o.dict = none) ∧ t σ H1 fun ys H2 => r x ys H2 Q
theorem pe_tm {o e : Expr} {to : TE} {t : TA} {name : Str} {apos cpos : Pos} {id : String} {r : V → List V → Hp → VK → Prop} (pa : PlainAttrs "tuple") (slot : Slot "tuple" name id) (hty : typeOf (.builtin id) = pure (.type "method_descriptor")) (hm : MtR X id r) (ho : PE X o to) (ha : PA X [e] t)
    (hbase : attributeBase o name X.env (eval o X.env) = eval o X.env := by rfl)
    (hfew : ((backTo cpos (starEach [e] X.env)).all (fun x => !x.1) && (backToKw cpos (keywordEach [] X.env)).all (fun x => x.1.isSome) && decide ([e].length + ([] : List Keyword).length + (if ([] : List Keyword).isEmpty then 0 else 1) < 30)) = true := by rfl)
    (hline : (apos.endLine == cpos.line) = true := by rfl) (hs : starEach [e] X.env = (false, eval e X.env) :: starEach [] X.env := by rfl) :
    PE X (.Call (.Attribute o name apos) [e] [] cpos) (tTM r to t) := by
  refine ⟨fun pins s σ H Q I h => ?_⟩
  refine wpAny_Call_method_late hbase hfew hline rfl (thn (ho.run pins s σ H _ I h) ?_)
  rintro v s1 ⟨x, H1, I1, r1, ⟨p, ob, xs, rfl, hp, hc, hd⟩, q1⟩
  cases (show v = Value.ref p from r1)
  have at1 : s1.heap.get? p = some ob := (I1.hok p _ hp).1
  refine ⟨"tuple", id, pa, slot, hty, ⟨ob, at1, hc⟩, ?_, ?_⟩
  · intro b z
    cases z
    exact ⟨ob, at1, hd⟩
  · have args := ha.run cpos pins s1 σ H1 _ I1 q1
    rw [hs] at args ⊢
    refine Calls.callWith_builtin (by rfl) (Calls.evalArgs_plain (thn args ?_))
    rintro us s2 ⟨vs, H2, I2, r2, q2⟩
    exact hm pins s2 σ H2 (.ref p) vs (.ref p) us Q I2 rfl r2 q2
end
end Lf
namespace Lf
open PySem PySem.Spec PyProof.Rows L2
/-! ### forests.py, with its error -/
abbrev sPI : Stmt := topS (6)
abbrev sIV : Stmt := topS (7)
abbrev sCheck : Stmt := topS (8)
abbrev sSingle : Stmt := topS (9)
abbrev sRoots : Stmt := topS (10)
abbrev sKidsOf : Stmt := topS (11)
abbrev sWeights : Stmt := topS (12)
abbrev sPath : Stmt := topS (13)
abbrev sTree : Stmt := topS (14)
theorem isV_int {n : Nat} {d : PyData} (h : isV n d = true) : ∃ x : Nat, d = .int (x : Nat) ∧ x < n := by
  cases d with
  | int i =>
    obtain ⟨h1, h2⟩ := Bool.and_eq_true_iff.mp h
    have h1 := of_decide_eq_true h1
    have h2 := of_decide_eq_true h2
    exact ⟨i.toNat, by rw [Int.toNat_of_nonneg h1], by omega⟩
  | _ => cases h
def spPI : Sp := fun vs H Q _ => ∃ (v : V) (d : PyData), vs = [v] ∧ Rp H v d ∧ Q (.bl (isInt d)) H
def spIV : Sp := fun vs H Q _ => ∃ (n : Nat) (v : V) (d : PyData), vs = [.int (n : Nat), v] ∧ Rp H v d ∧ Q (.bl (isV n d)) H
def spRoots (K : PySem.W.Frag) : Sp := fun vs H Q _ => ∃ (p : Addr) (fs : List Nat), vs = [.ref p] ∧ SqT K H p (nv fs) ∧ fs.length ≤ 1000 ∧
  ∀ (q : Addr) (H' : Hp), Same H H' → H q = none → H' q = some (.tup (nv (tops fs))) → Q (.ref q) H'
/-- the error with the value leaves -/
def Out (C : Addr) (H : Hp) (v : V) (E : XK) : Prop := ∀ (dx : Addr) (H' : Hp), Same H H' → H dx = none → H' dx = some (.xd [(Str.ofString "value", v)]) → E (.ref C) (some dx) H'
theorem Out.same {C : Addr} {H H' : Hp} {v : V} {E : XK} (h : Out C H v E) (s : Same H H') : Out C H' v E := fun dx G sG n e => h dx G (s.trans sG) (s.free n) e
def spCheck (K : PySem.W.Frag) (C : Addr) : Sp := fun vs H Q E => ∃ (p : Addr) (fs : List Nat) (v : V) (d : PyData), vs = [.ref p, v] ∧ SqT K H p (nv fs) ∧ Rp H v d ∧ (isV fs.length d = true → Q .non H) ∧ (isV fs.length d = false → Out C H v E)
def spPathX (K : PySem.W.Frag) (C : Addr) : Sp := fun vs H Q E => ∃ (p : Addr) (fs : List Nat) (v : V) (d : PyData), vs = [.ref p, v] ∧ SqT K H p (nv fs) ∧ Forest fs ∧ Rp H v d ∧
  (∀ x : Nat, d = .int (x : Nat) → x < fs.length → ∀ (ln : List Nat) (q : Addr) (H' : Hp), Same H H' → Pth fs x ln → ln.length ≤ fs.length → H q = none → H' q = some (.tup (nv ln)) → Q (.ref q) H') ∧ (isV fs.length d = false → Out C H v E)
def kidsL (fs : List Nat) (x : Nat) : List Nat := (List.range fs.length).filter fun u => decide (par fs u = x) && decide (u ≠ x)
def spKidsX (K : PySem.W.Frag) (C : Addr) : Sp := fun vs H Q E => ∃ (p : Addr) (fs : List Nat) (v : V) (d : PyData), vs = [.ref p, v] ∧ SqT K H p (nv fs) ∧ Forest fs ∧ Rp H v d ∧
  (∀ x : Nat, d = .int (x : Nat) → x < fs.length → ∀ (q : Addr) (H' : Hp), Same H H' → H q = none → H' q = some (.tup (nv (kidsL fs x))) → Q (.ref q) H') ∧ (isV fs.length d = false → Out C H v E)
open Classical in
noncomputable def belowL (fs : List Nat) (x : Nat) : List Nat := (List.range fs.length).filter fun u => decide (Bel fs x u)
def spTreeX (K : PySem.W.Frag) (C : Addr) : Sp := fun vs H Q E => ∃ (p : Addr) (fs : List Nat) (v : V) (d : PyData), vs = [.ref p, v] ∧ SqT K H p (nv fs) ∧ Forest fs ∧ Rp H v d ∧
  (∀ x : Nat, d = .int (x : Nat) → x < fs.length → ∀ (q : Addr) (H' : Hp), Same H H' → H q = none → H' q = some (.tup (nv (belowL fs x))) → Q (.ref q) H') ∧ (isV fs.length d = false → Out C H v E)
def spSingle : Sp := fun vs H Q _ => ∃ n : Nat, vs = [.int (n : Nat)] ∧ n ≤ 1000 ∧ ∀ q, H q = none → Q (.ref q) (upd H q (.tup (nv (List.range n))))
theorem isV_nat {n x : Nat} (h : x < n) : isV n (.int (x : Nat)) = true := show (decide (0 ≤ ((x : Nat) : Int)) && decide (((x : Nat) : Int) < (n : Int))) = true from Bool.and_eq_true_iff.mpr ⟨decide_eq_true (by omega), decide_eq_true (by omega)⟩
section
variable {P : Program} {w : World} {K : PySem.W.Frag} {mg : Str → Option Value} {base : Heap}
theorem scPI : FnScope ["value"] ["value"] (defScope sPI) := ⟨rfl, rfl, rfl, by decide +kernel, rfl, by decide +kernel, by decide +kernel⟩
theorem ok_pi {f : Addr} {fd : FuncData} (F : Fun K "is_plain_int" "is_plain_int" sPI f fd) (mi : mg "isinstance" = none) (mt : mg "int" = none) (mb : mg "bool" = none) : FnOk P w K mg base CX0 1 f fd ["value"] spPI := by
  refine F.ok scPI (fun vs H Q E h => ?_) (fun cdv A outer s H vs Q E hr h => ?_)
  · obtain ⟨v, d, rfl, _⟩ := h
    rfl
  · obtain ⟨v, d, rfl, hd, q⟩ := h
    refine ⟨_, pss_one (ps_ret (pe_and (pe_callB call_isi (by rfl) mi (by decide +kernel) (pa_cons (pv 0) (pa_cons (pe_bltn (v := .ty "int") rfl mt (by decide +kernel) rfl) pa_nil)))
      (pe_one (pe_not (pe_callB call_isi (by rfl) mi (by decide +kernel) (pa_cons (pv 0) (pa_cons (pe_bltn (v := .ty "bool") rfl mb (by decide +kernel) rfl) pa_nil))))))), ?_⟩
    refine ⟨v, rfl, v, .ty "int", _, .type "int", _, rfl, .ty _, hd.ty, kInt d, _, rfl, ?_⟩
    have two : ∃ b, PySem.W.kitOne K (.type (tyD d)) (.type "bool") = some b := ⟨_, kBool d⟩
    cases d with
    | int i => exact iteT ⟨v, rfl, v, .ty "bool", _, .type "bool", _, rfl, .ty _, hd.ty, kBool _, _, rfl, q⟩
    | bool b => exact iteT ⟨v, rfl, v, .ty "bool", _, .type "bool", _, rfl, .ty _, hd.ty, kBool _, _, rfl, q⟩
    | _ => exact iteF q
theorem scIV : FnScope ["n", "value"] ["n", "value"] (defScope sIV) := ⟨rfl, rfl, rfl, by decide +kernel, rfl, by decide +kernel, by decide +kernel⟩
theorem ok_iv {f fP : Addr} {fd fdP : FuncData} (F : Fun K "is_vertex" "is_vertex" sIV f fd) (FP : Fun K "is_plain_int" "is_plain_int" sPI fP fdP) (GP : FnOk P w K mg base CX0 1 fP fdP ["value"] spPI) (bP : Binds K fdP ["value"] []) (gP : mg "is_plain_int" = some (.ref fP)) :
    FnOk P w K mg base CX0 2 f fd ["n", "value"] spIV := by
  refine F.ok scIV (fun vs H Q E h => ?_) (fun cdv A outer s H vs Q E hr h => ?_)
  · obtain ⟨n, v, d, rfl, _⟩ := h
    rfl
  · obtain ⟨n, v, d, rfl, hd, q⟩ := h
    refine ⟨_, pss_one (ps_ret (pe_and (pe_call GP hr (by rfl) gP FP.kp bP .nil pass0 (pa_cons (pv 1) pa_nil)) (pe_one (pe_chain op_le op_lt pe_int (pv 1) (pv 0))))), ?_⟩
    refine ⟨v, rfl, v, d, rfl, hd, _, rfl, ?_⟩
    cases hd with
    | int i =>
      refine iteT ⟨.int i, rfl, _, _, rfl, rfl, _, rfl, ?_⟩
      by_cases h0 : 0 ≤ i
      · rw [decide_eq_true h0]
        refine iteT ⟨.int (n : Nat), rfl, _, _, rfl, rfl, ?_⟩
        have e : isV n (.int i) = decide (i < (n : Int)) := by
          show (decide (0 ≤ i) && decide (i < (n : Int))) = _
          rw [decide_eq_true h0, Bool.true_and]
        rw [e] at q
        exact q
      · rw [decide_eq_false h0]
        have e : isV n (.int i) = false := by
          show (decide (0 ≤ i) && decide (i < (n : Int))) = _
          rw [decide_eq_false h0, Bool.false_and]
        rw [e] at q
        exact iteF q
    | _ => exact iteF q
/-- the class of the error, and its __init__ -/
structure Err (P : Program) (w : World) (K : PySem.W.Frag) (mg : Str → Option Value) (base : Heap) (C fI : Addr) (fdI : FuncData) : Prop where
  T : OexC K C
  iC : PySem.W.findIn K (.ref C) "__init__" = some (some (.ref fI))
  tI : PySem.W.typeIn K (.ref fI) = some (.type "function")
  G : FnOk P w K mg base CX0 1 fI fdI ["self", "value"] (spInit K C "value")
  b : Binds K fdI ["self", "value"] []
  g : mg "NoVertex" = some (.ref C)
theorem scCheck : FnScope ["forest", "value"] ["forest", "value"] (defScope sCheck) := ⟨rfl, rfl, rfl, by decide +kernel, rfl, by decide +kernel, by decide +kernel⟩
theorem ok_check {f fV C fI : Addr} {fd fdV fdI : FuncData} (F : Fun K "check_vertex" "check_vertex" sCheck f fd) (FV : Fun K "is_vertex" "is_vertex" sIV fV fdV) (GV : FnOk P w K mg base CX0 2 fV fdV ["n", "value"] spIV) (bV : Binds K fdV ["n", "value"] []) (gV : mg "is_vertex" = some (.ref fV)) (R : Err P w K mg base C fI fdI) (ml : mg "len" = none) :
    FnOk P w K mg base (L2.CX P w) 3 f fd ["forest", "value"] (spCheck K C) := by
  refine F.okX scCheck (fun vs H Q E h => ?_) (fun cdv A outer s H vs Q E hr h => ?_)
  · obtain ⟨p, fs, v, d, rfl, _⟩ := h
    rfl
  · obtain ⟨p, fs, v, d, rfl, hp, rp, qT, qF⟩ := h
    refine ⟨_, pss_one (ps_if (pt_not (pt_val (pe_call GV hr (by rfl) gV FV.kp bV .nil pass0 (pa_cons (pe_callB call_len_seq (by rfl) ml PySem.boot_len (pa_cons (pv 0) pa_nil)) (pa_cons (pv 1) pa_nil)))))
      (pss_one (ps_raise rfl (takes_of rfl rfl rfl rfl) (pmk_oex R.T R.iC R.tI R.G hr R.b .nil pass0 (by rfl) R.g (pa_cons (pv 1) pa_nil)))) pss_nil), ?_⟩
    refine ⟨.ref p, rfl, p, _, rfl, .inr hp, v, rfl, (nv fs).length, v, d, rfl, rp, _, rfl, ?_⟩
    rw [nv_length]
    cases z : isV fs.length d with
    | true => exact iteF (qT z)
    | false => exact iteT ⟨v, rfl, (by show 1 ≤ 1000; decide), fun a na => ⟨a, v, rfl, upd_same, fun dx nd ne => ⟨rfl, made_out (Same.refl H) (qF z) a na dx nd ne⟩⟩⟩
theorem scPath : FnScope ["forest", "vertex", "path"] ["forest", "vertex"] (defScope sPath) := ⟨rfl, rfl, rfl, by decide +kernel, rfl, by decide +kernel, by decide +kernel⟩
theorem ok_path {f fC C : Addr} {fd fdC : FuncData} (F : Fun K "path_of" "path_of" sPath f fd) (FC : Fun K "check_vertex" "check_vertex" sCheck fC fdC) (GC : FnOk P w K mg base (L2.CX P w) 3 fC fdC ["forest", "value"] (spCheck K C)) (bC : Binds K fdC ["forest", "value"] []) (gC : mg "check_vertex" = some (.ref fC)) (mT : mg "tuple" = none) :
    FnOk P w K mg base (L2.CX P w) 4 f fd ["forest", "vertex"] (spPathX K C) := by
  refine F.okX scPath (fun vs H Q E h => ?_) (fun cdv A outer s H vs Q E hr h => ?_)
  · obtain ⟨p, fs, v, d, rfl, _⟩ := h
    rfl
  · obtain ⟨p, fs, v0, d, rfl, hp, hF, rp, q0, qF⟩ := h
    refine ⟨_, pss_cons (ps_expr (pe_callS GC hr (by rfl) gC FC.kp bC (fun σ => passAt (takes_of rfl rfl rfl rfl) σ) (pa_cons (pv 0) (pa_cons (pv 1) pa_nil))))
      (PSs.nox (pss_cons (ps_set (i := 2) scPath.nd rfl (.inl rfl) (pe_lst (pa_cons (pv 1) pa_nil)))
      (pss_cons (ps_while PassesOwn.never (pt_cmpR op_ne (pe_ix ix_tup (pv 0) (pe_ix ix_list (pv 2) (pe_un un_neg pe_int) (fun _ _ => rfl)) (fun _ _ => rfl)) (pe_ix ix_list (pv 2) (pe_un un_neg pe_int) (fun _ _ => rfl)) (nomark _))
        (pss_one (ps_expr (pe_bm PySem.F.plainAttrs_list PySem.F.slot_list_append PySem.F.type_list_append mt_append (pv 2) (pa_cons (pe_ix ix_tup (pv 0) (pe_ix ix_list (pv 2) (pe_un un_neg pe_int) (fun _ _ => rfl)) (fun _ _ => rfl)) pa_nil)))))
      (pss_one (ps_ret (pe_callTy call_tuple_of (by rfl) mT (by decide +kernel) (pa_cons (pv 2) pa_nil))))))), ?_⟩
    refine ⟨.ref p, rfl, v0, rfl, p, fs, v0, d, rfl, hp, rp, fun z => ?_, qF⟩
    obtain ⟨v, rfl, hv⟩ := isV_int z
    cases rp
    have q := q0 v rfl hv
    refine ⟨.int (v : Nat), rfl, (by show 1 ≤ sizeLine; decide), fun qa nq => ?_⟩
    obtain ⟨k, rk⟩ := hF.rch v hv
    obtain ⟨full, pf, nd, lf, _, _, _⟩ := hF.path hv
    refine ⟨fun m σ H1 => ∃ (pre : List Nat) (cur : Nat), σ = [some (.ref p), some (.int (v : Nat)), some (.ref qa)] ∧ Same H H1 ∧ H1 qa = some (.lst (nv (pre ++ [cur]))) ∧ cur < fs.length ∧ Rch fs m cur ∧ ∀ l, Pth fs cur l → Pth fs v (pre ++ l),
      ⟨k, [], v, rfl, same_new nq, upd_same, hv, rk, fun l h => h⟩, ?_⟩
    rintro m σ H1 ⟨pre, cur, rfl, sm, hqa, hc, rc, ext⟩
    have hpp := same_seqT sm hp
    have short : pre.length + 1 + m ≤ 24 := by
      obtain ⟨l, pl, el⟩ := Pth.of rc
      have e := (ext l pl).inj pf
      have := congrArg List.length e
      rw [List.length_append, el] at this
      have := hF.few
      omega
    refine ⟨.ref p, rfl, .ref qa, rfl, 1, rfl, qa, _, -1, _, rfl, rfl, SqL.of hqa, nv_last pre cur, p, _, (cur : Int), .int ((par fs cur : Nat) : Int), rfl, rfl, hpp, atI_nat (nv_get hc), .ref qa, rfl, 1, rfl, qa, _, -1, _, rfl, rfl, SqL.of hqa, nv_last pre cur, rfl, _, rfl, ite2 (fun hn => ?_) (fun hn => ?_)⟩
    · have hn : par fs cur ≠ cur := fun z => by
        rw [decide_eq_true (natV_inj.mpr z)] at hn
        cases hn
      cases rc with
      | root z => exact absurd z hn
      | @step m' _ _ r =>
        refine ⟨fun σ' H' => σ' = [some (.ref p), some (.int (v : Nat)), some (.ref qa)] ∧ Same H H' ∧ H' qa = some (.lst (nv ((pre ++ [cur]) ++ [par fs cur]))), ?_, ?_⟩
        · rintro σ' H' ⟨z1, z2, z3⟩
          refine ⟨m', Nat.lt_succ_self _, pre ++ [cur], par fs cur, z1, z2, z3, hF.rng cur hc, r, fun l hl => ?_⟩
          rw [List.append_assoc]
          exact ext _ (.step hn hl)
        · refine ⟨.ref qa, rfl, .inl ⟨rfl, _, SqL.of hqa⟩, .ref p, rfl, .ref qa, rfl, 1, rfl, qa, _, -1, _, rfl, rfl, SqL.of hqa, nv_last pre cur, p, _, (cur : Int), .int ((par fs cur : Nat) : Int), rfl, rfl, hpp, atI_nat (nv_get hc), qa, _, _, rfl, rfl, hqa, ?_, rfl, fun b o z => ?_, ?_⟩
          · rw [nv_length, List.length_append]
            exact small1000 (by show pre.length + 1 ≤ 1000; omega)
          · rw [upd_ne (ne_of_none z nq)]
            exact sm _ _ z
          · rw [upd_same, nv_append (pre ++ [cur])]
            rfl
    · have hn : par fs cur = cur := Classical.byContradiction fun z => hn (by rw [decide_eq_false (fun y => z (natV_inj.mp y))]; rfl)
      have pt := ext _ (.root hn)
      refine ⟨.ref qa, rfl, qa, _, rfl, .inl ⟨SqL.of hqa, fun p9 n9 => ?_⟩⟩
      exact q _ p9 _ (sm.trans (same_new n9)) pt (by rw [pt.inj pf]; exact lf) (sm.free n9) upd_same
theorem scRoots : FnScope ["forest", "vertex", "parent"] ["forest"] (defScope sRoots) := ⟨rfl, rfl, rfl, by decide +kernel, rfl, by decide +kernel, by decide +kernel⟩
theorem ok_roots {f : Addr} {fd : FuncData} (F : Fun K "roots" "roots" sRoots f fd) (me : mg "enumerate" = none) (mT : mg "tuple" = none) : FnOk P w K mg base CX0 1 f fd ["forest"] (spRoots K) := by
  refine F.ok scRoots (fun vs H Q E h => ?_) (fun cdv A outer s H vs Q E hr h => ?_)
  · obtain ⟨p, fs, rfl, _⟩ := h
    rfl
  · obtain ⟨p, fs, rfl, hp, hlen, q⟩ := h
    refine ⟨_, pss_one (ps_ret (pe_callTy call_tuple_of (by rfl) mT (by decide +kernel) (pa_cons (pe_lc (own := [("vertex", 1), ("parent", 2)]) (g := gTup K 2 (gCons (gName 1) (gCons (gName 2) gNil))) (tt := tTest (tOp rEq (tVar 2) (tVar 1))) (te := tVar 1) (by rfl) scRoots.nd
      (pi_enumT (by rfl) me (pa_cons (pv 0) pa_nil)) (blkOk_by (own := [("vertex", 1), ("parent", 2)]) (N := ["forest", "vertex", "parent"]) (sc := defScope sRoots) (by decide +kernel))
      (fun _ _ _ _ _ => pg_tup rfl (pgs_cons (pg_name (i := 1) scRoots.nd rfl (Or.inl rfl)) (pgs_cons (pg_name (i := 2) scRoots.nd rfl (Or.inl rfl)) pgs_nil))) (fun _ _ _ _ _ => pts_one (pt_cmpR op_eq (pv 2) (pv 1) (nomark _))) (fun _ _ _ _ _ => pv 1)) pa_nil))), ?_⟩
    refine ⟨.ref p, rfl, p, _, rfl, hp, fun D nD => lc_it (walkT (K := K) (a := p) (xs := nv fs)) (fun k H2 => Same H H2 ∧ H2 D = some (.lst (nv ((List.range k).filter fun v => decide (par fs v = v))))) ⟨same_new nD, upd_same⟩ (fun k H2 _ z => same_seqT z.1 hp) ?_ ?_⟩
    · rintro k x H2 H2' hk ⟨sm, hD⟩ ⟨t, v1, v2, rfl, nt, rfl, z1, z2⟩
      obtain ⟨hk', rfl⟩ := nv_some z2
      cases z1
      have St := same_new (o := .tup [V.int (k : Nat), V.int ((fs.getD k 0 : Nat) : Int)]) nt
      refine ⟨t, _, rfl, SqT.of upd_same, rfl, _, _, rfl, _, _, rfl, rfl, rfl, ?_⟩
      refine ⟨.int ((fs.getD k 0 : Nat) : Int), rfl, .int (k : Nat), rfl, rfl, _, rfl, ite2 (fun hc => ?_) (fun hc => ?_)⟩
      · have hc : par fs k = k := natV_inj.mp (of_decide_eq_true hc)
        refine ⟨.int (k : Nat), rfl, _, St _ _ hD, ?_, fun b o z => ?_, ?_⟩
        · rw [nv_length]
          exact small1000 (Nat.le_trans (range_filter_le _ _) (by omega))
        · rw [upd_ne (ne_of_none z nD)]
          exact St _ _ (sm _ _ z)
        · rw [upd_same, range_filter_succ, if_pos (decide_eq_true hc), nv_append]
          rfl
      · refine ⟨sm.trans St, ?_⟩
        rw [St _ _ hD, range_filter_succ, if_neg]
        intro z
        exact hc (decide_eq_true (natV_inj.mpr (of_decide_eq_true z)))
    · rintro H2 ⟨sm, hD⟩
      rw [nv_length] at hD
      refine ⟨D, _, rfl, .inl ⟨SqL.of hD, fun p9 n9 => ?_⟩⟩
      exact q p9 _ (sm.trans (same_new n9)) (sm.free n9) upd_same
theorem scSingle : FnScope ["n"] ["n"] (defScope sSingle) := ⟨rfl, rfl, rfl, by decide +kernel, rfl, by decide +kernel, by decide +kernel⟩
theorem ok_single {f : Addr} {fd : FuncData} (F : Fun K "single" "single" sSingle f fd) (mr : mg "range" = none) (mT : mg "tuple" = none) : FnOk P w K mg base CX0 1 f fd ["n"] spSingle := by
  refine F.ok scSingle (fun vs H Q E h => ?_) (fun cdv A outer s H vs Q E hr h => ?_)
  · obtain ⟨n, rfl, _⟩ := h
    rfl
  · obtain ⟨n, rfl, few, q⟩ := h
    refine ⟨_, pss_one (ps_ret (pe_tupRg rfl (by rfl) mT (prg_1 (by rfl) mr (pv 0)))), ?_⟩
    refine ⟨.int (n : Nat), rfl, (n : Int), rfl, RgOk.of_le (by omega) (by omega) (by omega) (by omega), fun r nr => ?_⟩
    rw [rgV_nv]
    exact q r nr
theorem scKids : FnScope ["forest", "vertex", "child", "parent"] ["forest", "vertex"] (defScope sKidsOf) := ⟨rfl, rfl, rfl, by decide +kernel, rfl, by decide +kernel, by decide +kernel⟩
theorem ok_kidsOf {f fC C : Addr} {fd fdC : FuncData} (F : Fun K "children_of" "children_of" sKidsOf f fd) (FC : Fun K "check_vertex" "check_vertex" sCheck fC fdC) (GC : FnOk P w K mg base (L2.CX P w) 3 fC fdC ["forest", "value"] (spCheck K C)) (bC : Binds K fdC ["forest", "value"] []) (gC : mg "check_vertex" = some (.ref fC)) (mT : mg "tuple" = none) (me : mg "enumerate" = none) :
    FnOk P w K mg base (L2.CX P w) 4 f fd ["forest", "vertex"] (spKidsX K C) := by
  refine F.okX scKids (fun vs H Q E h => ?_) (fun cdv A outer s H vs Q E hr h => ?_)
  · obtain ⟨p, fs, v, d, rfl, _⟩ := h
    rfl
  · obtain ⟨p, fs, v0, d, rfl, hp, hF, rp, q0, qF⟩ := h
    refine ⟨_, pss_cons (ps_expr (pe_callS GC hr (by rfl) gC FC.kp bC (fun σ => passAt (takes_of rfl rfl rfl rfl) σ) (pa_cons (pv 0) (pa_cons (pv 1) pa_nil))))
      (PSs.nox (pss_one (ps_ret (pe_callTy call_tuple_of (by rfl) mT (by decide +kernel) (pa_cons (pe_lc (own := [("child", 2), ("parent", 3)]) (g := gTup K 2 (gCons (gName 2) (gCons (gName 3) gNil))) (tt := tAnd (tTest (tOp rEq (tVar 3) (tVar 1))) (tTest (tOp rNe (tVar 2) (tVar 1)))) (te := tVar 2) (by rfl) scKids.nd
      (pi_enumT (by rfl) me (pa_cons (pv 0) pa_nil)) (blkOk_by (own := [("child", 2), ("parent", 3)]) (N := ["forest", "vertex", "child", "parent"]) (sc := defScope sKidsOf) (by decide +kernel))
      (fun _ _ _ _ _ => pg_tup rfl (pgs_cons (pg_name (i := 2) scKids.nd rfl (Or.inl rfl)) (pgs_cons (pg_name (i := 3) scKids.nd rfl (Or.inl rfl)) pgs_nil)))
      (fun _ _ _ _ _ => pts_one (PW.pt (pw_and (pt_cmpR op_eq (pv 3) (pv 1) (nomark _)) (pw_and1 (pt_cmpR op_ne (pv 2) (pv 1) (nomark _)))))) (fun _ _ _ _ _ => pv 2)) pa_nil))))), ?_⟩
    refine ⟨.ref p, rfl, v0, rfl, p, fs, v0, d, rfl, hp, rp, fun z => ?_, qF⟩
    obtain ⟨v, rfl, hv⟩ := isV_int z
    cases rp
    have q := q0 v rfl hv
    have few := hF.few
    refine ⟨.ref p, rfl, p, _, rfl, hp, fun D nD => lc_it (walkT (K := K) (a := p) (xs := nv fs)) (fun k H2 => Same H H2 ∧ H2 D = some (.lst (nv ((List.range k).filter fun u => decide (par fs u = v) && decide (u ≠ v))))) ⟨same_new nD, upd_same⟩ (fun k H2 _ z => same_seqT z.1 hp) ?_ ?_⟩
    · rintro k x H2 H2' hk ⟨sm, hD⟩ ⟨t, v1, v2, rfl, nt, rfl, z1, z2⟩
      obtain ⟨hk', rfl⟩ := nv_some z2
      cases z1
      have St := same_new (o := .tup [V.int (k : Nat), V.int ((fs.getD k 0 : Nat) : Int)]) nt
      have stay : ¬ (decide (par fs k = v) && decide (k ≠ v)) = true → Same H (upd H2 t (.tup [V.int (k : Nat), V.int ((fs.getD k 0 : Nat) : Int)])) ∧ (upd H2 t (.tup [V.int (k : Nat), V.int ((fs.getD k 0 : Nat) : Int)])) D = some (.lst (nv ((List.range (k + 1)).filter fun u => decide (par fs u = v) && decide (u ≠ v)))) := fun hc => by
        refine ⟨sm.trans St, ?_⟩
        rw [St _ _ hD, range_filter_succ, if_neg hc]
      refine ⟨t, _, rfl, SqT.of upd_same, rfl, _, _, rfl, _, _, rfl, rfl, rfl, ?_⟩
      refine ⟨.int ((fs.getD k 0 : Nat) : Int), rfl, .int (v : Nat), rfl, rfl, _, rfl, ite2 (fun h1 => ?_) (fun h1 => iteF ?_)⟩
      · have h1 : par fs k = v := natV_inj.mp (of_decide_eq_true h1)
        refine ⟨.int (k : Nat), rfl, .int (v : Nat), rfl, rfl, _, rfl, ite2 (fun h2 => ?_) (fun h2 => ?_)⟩
        · have h2 : k ≠ v := fun y => by
            rw [y, decide_eq_true rfl] at h2
            cases h2
          have hc : (decide (par fs k = v) && decide (k ≠ v)) = true := by rw [decide_eq_true h1, decide_eq_true h2]; rfl
          refine ⟨.int (k : Nat), rfl, _, St _ _ hD, ?_, fun b o z => ?_, ?_⟩
          · rw [nv_length]
            exact small1000 (Nat.le_trans (range_filter_le _ _) (by omega))
          · rw [upd_ne (ne_of_none z nD)]
            exact St _ _ (sm _ _ z)
          · rw [upd_same, range_filter_succ, if_pos hc, nv_append]
            rfl
        · refine stay fun y => ?_
          have : k ≠ v := of_decide_eq_true (Bool.and_eq_true_iff.mp y).2
          exact h2 (by rw [decide_eq_false (fun e => this (natV_inj.mp e))]; rfl)
      · refine stay fun y => ?_
        exact h1 (decide_eq_true (natV_inj.mpr (of_decide_eq_true (Bool.and_eq_true_iff.mp y).1)))
    · rintro H2 ⟨sm, hD⟩
      rw [nv_length] at hD
      refine ⟨D, _, rfl, .inl ⟨SqL.of hD, fun p9 n9 => ?_⟩⟩
      exact q p9 _ (sm.trans (same_new n9)) (sm.free n9) upd_same
theorem scTree : FnScope ["forest", "vertex", "below"] ["forest", "vertex"] (defScope sTree) := ⟨rfl, rfl, rfl, by decide +kernel, rfl, by decide +kernel, by decide +kernel⟩
theorem ok_tree {f fC fA C : Addr} {fd fdC fdA : FuncData} (F : Fun K "tree_of" "tree_of" sTree f fd) (FC : Fun K "check_vertex" "check_vertex" sCheck fC fdC) (GC : FnOk P w K mg base (L2.CX P w) 3 fC fdC ["forest", "value"] (spCheck K C)) (bC : Binds K fdC ["forest", "value"] []) (gC : mg "check_vertex" = some (.ref fC))
    (FA : Fun K "path_of" "path_of" sPath fA fdA) (GA : FnOk P w K mg base (L2.CX P w) 4 fA fdA ["forest", "vertex"] (spPathX K C)) (bA : Binds K fdA ["forest", "vertex"] []) (gA : mg "path_of" = some (.ref fA)) (mT : mg "tuple" = none) (mr : mg "range" = none) (ml : mg "len" = none) :
    FnOk P w K mg base (L2.CX P w) 5 f fd ["forest", "vertex"] (spTreeX K C) := by
  refine F.okX scTree (fun vs H Q E h => ?_) (fun cdv A outer s H vs Q E hr h => ?_)
  · obtain ⟨p, fs, v, d, rfl, _⟩ := h
    rfl
  · obtain ⟨p, fs, v0, d, rfl, hp, hF, rp, q0, qF⟩ := h
    have hr3 : Room 3 _ := hr.mono (by decide)
    refine ⟨_, pss_cons (ps_expr (pe_callS GC hr3 (by rfl) gC FC.kp bC (fun σ => passAt (takes_of rfl rfl rfl rfl) σ) (pa_cons (pv 0) (pa_cons (pv 1) pa_nil))))
      (PSs.nox (pss_one (ps_ret (pe_callTy call_tuple_of (by rfl) mT (by decide +kernel) (pa_cons (pe_lc (own := [("below", 2)]) (g := gName 2) (tt := tTest (tOp (rIn K false) (tVar 1) (tCall (spPathX K C) [] E0 (tCons (tVar 0) (tCons (tVar 2) tNil))))) (te := tVar 2) (by rfl) scTree.nd
      (pi_range1 (by rfl) mr (pa_cons (pe_callB call_len_seq (by rfl) ml PySem.boot_len (pa_cons (pv 0) pa_nil)) pa_nil)) (blkOk_by (own := [("below", 2)]) (N := ["forest", "vertex", "below"]) (sc := defScope sTree) (by decide +kernel))
      (fun _ _ _ _ _ => pg_name (i := 2) scTree.nd rfl (Or.inl rfl))
      (fun _ _ _ _ _ => pts_one (pt_cmpR op_in_seq (pv 1) (pe_call GA hr (by rfl) gA FA.kp bA .nil passL (pa_cons (pv 0) (pa_cons (pv 2) pa_nil))) (by rfl))) (fun _ _ _ _ _ => pv 2)) pa_nil))))), ?_⟩
    refine ⟨.ref p, rfl, v0, rfl, p, fs, v0, d, rfl, hp, rp, fun z => ?_, qF⟩
    obtain ⟨v, rfl, hv⟩ := isV_int z
    cases rp
    have q := q0 v rfl hv
    have few := hF.few
    classical
    refine ⟨.ref p, rfl, p, _, rfl, .inr hp, _, rfl, ?_, ?_, fun D nD => lc_range (lo := 0) (n := ((nv fs).length : Int).toNat) (fun k H2 => Same H H2 ∧ H2 D = some (.lst (nv ((List.range k).filter fun u => decide (Bel fs v u))))) ⟨same_new nD, upd_same⟩ ?_ ?_⟩
    · rw [nv_length]
      omega
    · rw [nv_length]
      omega
    · rintro k H2 hk ⟨sm, hD⟩
      rw [nv_length] at hk
      have hk' : k < fs.length := by omega
      refine ⟨rfl, .int (v : Nat), rfl, .ref p, rfl, .int (0 + (k : Int)), rfl, p, fs, .int (0 + (k : Int)), .int (0 + (k : Int)), rfl, same_seqT sm hp, hF, .int _, fun x ex hx ln qa H3 s3 pl ll nq hqa => ?_, fun z => ?_⟩
      · have ekx : k = x := by
          have := PyData.int.inj ex
          omega
        subst ekx
        refine ⟨qa, _, rfl, .inr (SqT.of hqa), rfl, flat_nv _, _, rfl, ?_⟩
        rw [if_neg Bool.false_ne_true, in_nv]
        have iff := pl.bel v
        refine ite2 (fun h2 => ?_) (fun h2 => ?_)
        · have hc : decide (Bel fs v k) = true := decide_eq_true (iff.mp (of_decide_eq_true h2))
          refine ⟨.int (0 + (k : Int)), rfl, _, s3 _ _ hD, ?_, fun b o z => ?_, ?_⟩
          · rw [nv_length]
            exact small1000 (Nat.le_trans (range_filter_le _ _) (by omega))
          · rw [upd_ne (ne_of_none z nD)]
            exact s3 _ _ (sm _ _ z)
          · rw [upd_same, range_filter_succ, if_pos hc, nv_append, Int.zero_add]
            rfl
        · refine ⟨sm.trans s3, ?_⟩
          rw [s3 _ _ hD, range_filter_succ, if_neg (fun z => h2 (decide_eq_true (iff.mpr (of_decide_eq_true z))))]
      · rw [Int.zero_add, isV_nat hk'] at z
        cases z
    · rintro H2 ⟨sm, hD⟩
      rw [nv_length, Int.toNat_natCast] at hD
      refine ⟨D, _, rfl, .inl ⟨SqL.of hD, fun p9 n9 => ?_⟩⟩
      refine q p9 _ (sm.trans (same_new n9)) (sm.free n9) ?_
      rw [upd_same]
      rfl
end
end Lf
namespace Lf
open PySem PySem.Spec PyProof.Rows L2
/-! ### weights -/
def spWeights (K : PySem.W.Frag) : Sp := fun vs H Q _ => ∃ (p : Addr) (fs : List Nat), vs = [.ref p] ∧ SqT K H p (nv fs) ∧ Forest fs ∧
  ∀ (ws : List Nat) (q : Addr) (H' : Hp), Same H H' → ws.length = fs.length → (∀ v, v < fs.length → ws.getD v 0 = cnt fs v fs.length) → H q = none → H' q = some (.tup (nv ws)) → Q (.ref q) H'
theorem getD_set {ws : List Nat} {y x v : Nat} (h : y < ws.length) : (ws.set y x).getD v 0 = if v = y then x else ws.getD v 0 := par_set h
section
variable {P : Program} {w : World} {K : PySem.W.Frag} {mg : Str → Option Value} {base : Heap}
theorem scWeights : FnScope ["forest", "counts", "vertex", "above"] ["forest"] (defScope sWeights) := ⟨rfl, rfl, rfl, by decide +kernel, rfl, by decide +kernel, by decide +kernel⟩
theorem ok_weights {f fA C : Addr} {fd fdA : FuncData} (F : Fun K "weights" "weights" sWeights f fd) (FA : Fun K "path_of" "path_of" sPath fA fdA) (GA : FnOk P w K mg base (L2.CX P w) 4 fA fdA ["forest", "vertex"] (spPathX K C)) (bA : Binds K fdA ["forest", "vertex"] []) (gA : mg "path_of" = some (.ref fA))
    (ml : mg "len" = none) (mr : mg "range" = none) (mT : mg "tuple" = none) : FnOk P w K mg base CX0 5 f fd ["forest"] (spWeights K) := by
  refine F.ok scWeights (fun vs H Q E h => ?_) (fun cdv A outer s H vs Q E hr h => ?_)
  · obtain ⟨p, fs, rfl, _⟩ := h
    rfl
  · obtain ⟨p, fs, rfl, hp, hF, q⟩ := h
    refine ⟨_, pss_cons (ps_set (i := 1) scWeights.nd rfl (.inl rfl) (pe_op op_rep (pe_lst (pa_cons pe_int pa_nil)) (pe_callB call_len_seq (by rfl) ml PySem.boot_len (pa_cons (pv 0) pa_nil))))
      (pss_cons (ps_for PassesOwn.never rfl (pi_range1 (by rfl) mr (pa_cons (pe_callB call_len_seq (by rfl) ml PySem.boot_len (pa_cons (pv 0) pa_nil)) pa_nil)) (pg_name (i := 2) scWeights.nd rfl (.inl rfl))
        (pss_one (ps_for PassesOwn.never rfl (pi_tup (pe_call GA hr (by rfl) gA FA.kp bA .nil passL (pa_cons (pv 0) (pa_cons (pv 2) pa_nil)))) (pg_name (i := 3) scWeights.nd rfl (.inl rfl))
          (pss_one (ps_augS (pv 1) (pv 3) get_listN pe_int ip_add set_list)))))
      (pss_one (ps_ret (pe_callTy call_tuple_of (by rfl) mT (by decide +kernel) (pa_cons (pv 1) pa_nil))))), ?_⟩
    have few := hF.few
    refine ⟨(by show 1 ≤ sizeLine; decide), fun z1 nz1 => ⟨.ref p, rfl, p, _, rfl, .inr (same_seqT (same_new nz1) hp), z1, _, _, rfl, rfl, upd_same, ?_, ?_, ?_, fun cq ncq => ?_⟩⟩
    · rw [nv_length]
      omega
    · rw [nv_length]
      omega
    · show 1 * Int.toNat ((nv fs).length : Int) ≤ sizeLine
      rw [sizeLine_eq, nv_length]
      omega
    rw [show (List.replicate (Int.toNat ((nv fs).length : Int)) [V.int 0]).flatten = nv (List.replicate fs.length 0) from by rw [nv_length, Int.toNat_natCast]; exact rep_nv _]
    have Z1 := same_new (o := .lst [V.int 0]) nz1
    have Z2 := same_new (o := .lst (nv (List.replicate fs.length 0))) ncq
    have cn : H cq = none := Z1.free ncq
    refine ⟨.ref p, rfl, p, _, rfl, .inr (same_seqT (Z1.trans Z2) hp), _, rfl, ?_, ?_, for_range (lo := 0) (n := Int.toNat ((nv fs).length : Int)) (fun k σ H1 => ∃ (ws : List Nat) (c2 c3 : Option V), σ = [some (.ref p), some (.ref cq), c2, c3] ∧ Same H H1 ∧ H1 cq = some (.lst (nv ws)) ∧ ws.length = fs.length ∧ ∀ v, v < fs.length → ws.getD v 0 = cnt fs v k)
      ⟨List.replicate fs.length 0, none, none, rfl, Z1.trans Z2, upd_same, List.length_replicate, fun v hv => ?_⟩ ?_ ?_⟩
    · rw [nv_length]
      omega
    · rw [nv_length]
      omega
    · rw [cnt_zero, List.getD_eq_getElem?_getD, List.getElem?_replicate, if_pos hv]
      rfl
    · rintro k σ H1 hk ⟨ws, c2, c3, rfl, sm, hcq, lw, hws⟩
      rw [nv_length] at hk
      have hk' : k < fs.length := by omega
      refine ⟨.ref p, rfl, .int (0 + (k : Int)), rfl, p, fs, .int (0 + (k : Int)), .int (0 + (k : Int)), rfl, same_seqT sm hp, hF, .int _, fun x ex hx ln qa H2 s2 pl ll nq hqa => ?_, fun z => by rw [Int.zero_add, isV_nat hk'] at z; cases z⟩
      have ekx : k = x := by
        have := PyData.int.inj ex
        omega
      subst ekx
      have nd : ln.Nodup := pl.nodup hF.rch hF.rng hk'
      have inn : ∀ {x : Nat}, x ∈ ln → x < fs.length := fun hx => ((pl.bel _).mp hx).lt hF.rng hk'
      have qc : qa ≠ cq := fun z => by
        rw [z, hcq] at nq
        cases nq
      refine ⟨qa, rfl, ⟨_, SqT.of hqa⟩, for_tup (K := K) (a := qa) (xs := nv ln) (fun j σ H3 => ∃ (us : List Nat) (c3 : Option V), σ = [some (.ref p), some (.ref cq), some (.int (0 + (k : Int))), c3] ∧ Same H H3 ∧ H3 qa = some (.tup (nv ln)) ∧ H3 cq = some (.lst (nv us)) ∧ us.length = fs.length ∧ ∀ v, v < fs.length → us.getD v 0 = ws.getD v 0 + (if v ∈ ln.take j then 1 else 0))
        ⟨ws, c3, rfl, sm.trans s2, hqa, s2 _ _ hcq, lw, fun v _ => by rw [List.take_zero, if_neg List.not_mem_nil]; rfl⟩ (fun j σ H3 _ ⟨_, _, _, _, z, _⟩ => SqT.of z) ?_ ?_⟩
      · rintro j y σ H3 hj ⟨us, d3, rfl, s3, hq3, hc3, lu, hus⟩
        obtain ⟨hjl, rfl⟩ := nv_some hj
        generalize hy : ln.getD j 0 = y
        have ey : ln[j]? = some y := by rw [← hy, List.getD_eq_getElem?_getD, List.getElem?_eq_getElem hjl]; rfl
        have yl : y < fs.length := inn (List.mem_of_getElem? ey)
        have yu : y < us.length := by omega
        refine ⟨.ref cq, rfl, .int (y : Nat), rfl, cq, _, y, _, rfl, rfl, SqL.of hc3, nv_get yu, _, 1, rfl, rfl, cq, _, (y : Int), y, rfl, rfl, hc3, ?_, us.set y (us.getD y 0 + 1), some (.int (y : Nat)), rfl, fun b o z => ?_, ?_, ?_, ?_, ?_⟩
        · unfold ixN
          rw [nv_length, if_pos (by omega), if_pos (by omega), Int.toNat_natCast]
        · rw [upd_ne (ne_of_none z cn)]
          exact s3 _ _ z
        · rw [upd_ne qc]
          exact hq3
        · rw [upd_same]
          unfold nv
          rw [List.map_set]
          rfl
        · rw [List.length_set]
          exact lu
        · intro v hv
          rw [getD_set yu, List.take_add_one, ey]
          have notin : y ∉ ln.take j := fun z => by
            obtain ⟨i, hi, ei⟩ := List.getElem_of_mem z
            rw [List.length_take] at hi
            rw [List.getElem_take] at ei
            have e2 : ln[i]? = ln[j]? := by rw [ey, List.getElem?_eq_getElem (by omega), ei]
            have := (List.getElem?_inj (by omega) nd).mp e2
            omega
          by_cases z : v = y
          · subst z
            rw [if_pos rfl, hus v hv, if_neg notin, if_pos (by simp)]
          · rw [if_neg z, hus v hv]
            have e3 : (v ∈ ln.take j ++ (some y).toList) ↔ v ∈ ln.take j := by simp [z]
            by_cases z2 : v ∈ ln.take j
            · rw [if_pos z2, if_pos (e3.mpr z2)]
            · rw [if_neg z2, if_neg (fun y => z2 (e3.mp y))]
      · rintro σ H3 ⟨us, d3, rfl, s3, hq3, hc3, lu, hus⟩
        rw [nv_length, List.take_length] at hus
        refine ⟨us, _, _, rfl, s3, hc3, lu, fun v hv => ?_⟩
        rw [hus v hv, hws v hv, cnt_succ]
        by_cases z : v ∈ ln
        · rw [if_pos z, if_pos ((pl.bel v).mp z)]
        · rw [if_neg z, if_neg (fun y => z ((pl.bel v).mpr y))]
    · rintro σ H1 ⟨ws, c2, c3, rfl, sm, hcq, lw, hws⟩
      rw [nv_length, Int.toNat_natCast] at hws
      refine ⟨.ref cq, rfl, cq, _, rfl, .inl ⟨SqL.of hcq, fun p9 n9 => ?_⟩⟩
      exact q ws p9 _ (sm.trans (same_new n9)) lw hws (sm.free n9) upd_same
end
end Lf
namespace Lf
open PySem PySem.Spec PyProof.Rows L2
/-! ### walking a tuple, a list, a range, whatever the body does -/
theorem it_tup {K : PySem.W.Frag} {a : Addr} {xs : List V} {H0 : Hp} {Qd : Hp → Prop} {body : V → Hp → (Hp → Prop) → Prop} (Pv : Nat → Hp → Prop) (h0 : Pv 0 H0) (hl : ∀ i H, i ≤ xs.length → Pv i H → SqT K H a xs)
    (hs : ∀ i x H, xs[i]? = some x → Pv i H → body x H (Pv (i + 1))) (hd : ∀ H, Pv xs.length H → Qd H) :
    ∃ W : Nat → Nat → Hp → Prop, (∃ m, W 0 m H0) ∧ ∀ i m H, W i m H →
      ((Itt K a).stop i H ∧ Qd H) ∨ ((Itt K a).go i H ∧ ∃ Nx : Hp → Prop, (∀ H', Nx H' → ∃ m', m' < m ∧ W (i + 1) m' H') ∧ ∀ x H', (Itt K a).yld i H x H' → body x H' Nx) := by
  refine ⟨fun i m H => m = xs.length - i ∧ i ≤ xs.length ∧ Pv i H, ⟨xs.length, by simp, Nat.zero_le _, h0⟩, ?_⟩
  rintro i m H ⟨rfl, hi, p⟩
  have q := hl i H hi p
  by_cases hlt : i < xs.length
  · refine .inr ⟨⟨xs, xs[i], q, by simp [hlt]⟩, Pv (i + 1), fun H' p' => ⟨xs.length - (i + 1), by omega, rfl, hlt, p'⟩, fun x H' y => ?_⟩
    obtain ⟨e, y⟩ := y
    subst e
    exact hs i x _ (y xs q) p
  · have e : i = xs.length := by omega
    exact .inl ⟨⟨xs, q, by omega⟩, hd H (e ▸ p)⟩
theorem it_list {K : PySem.W.Frag} {a : Addr} {xs : List V} {H0 : Hp} {Qd : Hp → Prop} {body : V → Hp → (Hp → Prop) → Prop} (Pv : Nat → Hp → Prop) (h0 : Pv 0 H0) (hl : ∀ i H, i ≤ xs.length → Pv i H → SqL K H a xs)
    (hs : ∀ i x H, xs[i]? = some x → Pv i H → body x H (Pv (i + 1))) (hd : ∀ H, Pv xs.length H → Qd H) :
    ∃ W : Nat → Nat → Hp → Prop, (∃ m, W 0 m H0) ∧ ∀ i m H, W i m H →
      ((Itl K a).stop i H ∧ Qd H) ∨ ((Itl K a).go i H ∧ ∃ Nx : Hp → Prop, (∀ H', Nx H' → ∃ m', m' < m ∧ W (i + 1) m' H') ∧ ∀ x H', (Itl K a).yld i H x H' → body x H' Nx) := by
  refine ⟨fun i m H => m = xs.length - i ∧ i ≤ xs.length ∧ Pv i H, ⟨xs.length, by simp, Nat.zero_le _, h0⟩, ?_⟩
  rintro i m H ⟨rfl, hi, p⟩
  have q := hl i H hi p
  by_cases hlt : i < xs.length
  · refine .inr ⟨⟨xs, xs[i], q, by simp [hlt]⟩, Pv (i + 1), fun H' p' => ⟨xs.length - (i + 1), by omega, rfl, hlt, p'⟩, fun x H' y => ?_⟩
    obtain ⟨e, y⟩ := y
    subst e
    exact hs i x _ (y xs q) p
  · have e : i = xs.length := by omega
    exact .inl ⟨⟨xs, q, by omega⟩, hd H (e ▸ p)⟩
/-! ### defs by name -/
/-- the def st stands under its name, with these parameters -/
def Mk (K : PySem.W.Frag) (mg : Str → Option Value) (x : Str) (st : Stmt) (ps : List Str) : Prop := ∃ (f : Addr) (fd : FuncData), Fun K x x st f fd ∧ Binds K fd ps [] ∧ mg x = some (.ref f)
/-- .. and keeps its promise, at level k -/
def Df (P : Program) (w : World) (K : PySem.W.Frag) (mg : Str → Option Value) (base : Heap) (CX : CXT) (k : Nat) (x : Str) (ps : List Str) (sp : Sp) : Prop :=
  ∃ (f : Addr) (fd : FuncData), FnOk P w K mg base CX k f fd ps sp ∧ Binds K fd ps [] ∧ mg x = some (.ref f) ∧ PySem.W.keepIn K (.ref f) = true
/-- the same for a caller whose repr guard is empty -/
def DfG (P : Program) (w : World) (K : PySem.W.Frag) (mg : Str → Option Value) (base : Heap) (k : Nat) (x : Str) (ps : List Str) (sp : Sp) : Prop :=
  ∃ (f : Addr) (fd : FuncData), RunG P w K mg base k f fd ps sp ∧ Binds K fd ps [] ∧ mg x = some (.ref f) ∧ PySem.W.keepIn K (.ref f) = true ∧ ∀ vs H Q E, sp vs H Q E → vs.length = ps.length
theorem Df.of {P : Program} {w : World} {K : PySem.W.Frag} {mg : Str → Option Value} {base : Heap} {CX : CXT} {k : Nat} {x : Str} {ps : List Str} {sp : Sp} {st : Stmt} {f : Addr} {fd : FuncData} (F : Fun K x x st f fd) (b : Binds K fd ps []) (g : mg x = some (.ref f)) (G : FnOk P w K mg base CX k f fd ps sp) : Df P w K mg base CX k x ps sp := ⟨f, fd, G, b, g, F.kp⟩
section
variable {X : Cx} {k : Nat} {ps : List Str} {sp : Sp} {x : Str} {p pos : Pos} {e : Expr} {es : List Expr} {t : TA} {j : Nat} {CX : CXT} {E : XK}
/-- x(e, ..), x lets nothing out -/
theorem pe_dD (D : Df X.prog X.w X.K X.mg X.base CX k x ps sp) (hx : Passes CX X E) (hr : Room j X.A) (ha : PA X (e :: es) t) (hj : k ≤ j := by decide) (hg : Gl X x := by rfl)
    (hdb : (x == ("__debug__" : Str)) = false := by decide) (he : starEach (e :: es) X.env = (false, eval e X.env) :: starEach es X.env := by rfl) (hpl : (backTo pos (starEach es X.env)).any (·.1) = false := by rfl) :
    PE X (.Call (.Name x p) (e :: es) [] pos) (tCall sp [] E t) := by
  obtain ⟨f, fd, G, b, g, kp⟩ := D
  exact pe_call G (hr.mono hj) hg g kp b .nil hx ha hdb he hpl
theorem pe_d (D : Df X.prog X.w X.K X.mg X.base CX0 k x ps sp) (hr : Room j X.A) (ha : PA X (e :: es) t) (hj : k ≤ j := by decide) (hg : Gl X x := by rfl)
    (hdb : (x == ("__debug__" : Str)) = false := by decide) (he : starEach (e :: es) X.env = (false, eval e X.env) :: starEach es X.env := by rfl) (hpl : (backTo pos (starEach es X.env)).any (·.1) = false := by rfl) :
    PE X (.Call (.Name x p) (e :: es) [] pos) (tCall sp [] E0 t) := pe_dD D pass0 hr ha hj hg hdb he hpl
/-- x(e, ..), x may raise: the error goes on -/
theorem pe_dS {E : L2.St → XK} (D : Df X.prog X.w X.K X.mg X.base CX k x ps sp) (hr : Room j X.A) (hx : ∀ σ, PassesAt CX X σ (E σ)) (ha : PA X (e :: es) t) (hj : k ≤ j := by decide) (hg : Gl X x := by rfl)
    (hdb : (x == ("__debug__" : Str)) = false := by decide) (he : starEach (e :: es) X.env = (false, eval e X.env) :: starEach es X.env := by rfl) (hpl : (backTo pos (starEach es X.env)).any (·.1) = false := by rfl) :
    PE X (.Call (.Name x p) (e :: es) [] pos) (tCallS sp E t) := by
  obtain ⟨f, fd, G, b, g, kp⟩ := D
  exact pe_callS G (hr.mono hj) hg g kp b hx ha hdb he hpl
/-- x(e, ..), x shows data -/
theorem pe_dG (D : DfG X.prog X.w X.K X.mg X.base k x ps sp) (hgu : X.A.guards = some []) (hr : Room j X.A) (ha : PA X (e :: es) t) (hj : k ≤ j := by decide) (hg : Gl X x := by rfl)
    (hdb : (x == ("__debug__" : Str)) = false := by decide) (he : starEach (e :: es) X.env = (false, eval e X.env) :: starEach es X.env := by rfl) (hpl : (backTo pos (starEach es X.env)).any (·.1) = false := by rfl) :
    PE X (.Call (.Name x p) (e :: es) [] pos) (tCall sp [] E0 t) := by
  obtain ⟨f, fd, G, b, g, kp, len⟩ := D
  refine ⟨fun pins s σ H Q I h => ?_⟩
  refine wpAny_Call_Name_kw (ld_glob I hg g ?_ hdb)
  refine PySem.W.callWith_K (h₀ := X.base) I.ok.mod.kin kp (thn (ha.run pos pins s σ H _ I h) fun us s1 ⟨vs, H1, I1, r, q⟩ => ⟨I1.kIn, ?_⟩) he hpl
  have r2 : Vals (vs ++ []) (us ++ []) := r.append .nil
  have hl : (us ++ []).length = ps.length := by rw [← r2.length]; exact len _ _ _ _ q
  refine wpAny_call (codeAny_mono (G X.A X.stack s1 H1 ⟨us, []⟩ (us ++ []) (vs ++ []) Q E0 hgu (hr.mono hj) I1.env0 (b s1 us I1.kIn hl) r2 q) fun r s' hq => ?_)
  cases r with
  | error e => exact hq.elim
  | ok fl =>
    cases fl with
    | ret u => exact I1.after hq
    | next => exact False.elim hq
    | brk => exact False.elim hq
    | cont => exact False.elim hq
end
/-! ### an own error class with one field -/
structure ErrF (P : Program) (w : World) (K : PySem.W.Frag) (mg : Str → Option Value) (base : Heap) (nm f : Str) (C : Addr) : Prop where
  ex : ∃ (fI : Addr) (fdI : FuncData), PySem.W.findIn K (.ref C) "__init__" = some (some (.ref fI)) ∧ PySem.W.typeIn K (.ref fI) = some (.type "function") ∧ FnOk P w K mg base CX0 1 fI fdI ["self", f] (spInit K C f) ∧ Binds K fdI ["self", f] []
  T : OexC K C
  g : mg nm = some (.ref C)
section
variable {X : Cx} {nm f : Str} {p pos : Pos} {e : Expr} {es : List Expr} {ta : TA} {j : Nat} {C : Addr}
theorem pmk_err (R : ErrF X.prog X.w X.K X.mg X.base nm f C) (hr : Room j X.A) (ha : PA X (e :: es) ta) (hj : 2 ≤ j := by decide) (hg : Gl X nm := by rfl)
    (hdb : (nm == ("__debug__" : Str)) = false := by decide) (he : starEach (e :: es) X.env = (false, eval e X.env) :: starEach es X.env := by rfl) (hpl : (backTo pos (starEach es X.env)).any (·.1) = false := by rfl) :
    PMk X (.Call (.Name nm p) (e :: es) [] pos) (tMkO C (spInit X.K C f) [] ta) := by
  obtain ⟨fI, fdI, iC, tI, G, b⟩ := R.ex
  exact pmk_oex R.T iC tI G (hr.mono hj) b .nil pass0 hg R.g ha hdb he hpl
end
/-- the error with the value in its field f leaves -/
def OutF (f : Str) (C : Addr) (H : Hp) (v : V) (E : XK) : Prop := ∀ (dx : Addr) (H' : Hp), Same H H' → H dx = none → H' dx = some (.xd [(f, v)]) → E (.ref C) (some dx) H'
theorem OutF.same {f : Str} {C : Addr} {H H' : Hp} {v : V} {E : XK} (h : OutF f C H v E) (s : Same H H') : OutF f C H' v E := fun dx G sG n e => h dx G (s.trans sG) (s.free n) e
/-! ### tuples of numbers in a list under way -/
/-- tuples stand as they stood -/
def TK (H H' : Hp) : Prop := ∀ b xs, H b = some (.tup xs) → H' b = some (.tup xs)
theorem TK.refl {H : Hp} : TK H H := fun _ _ h => h
theorem TK.trans {H H1 H2 : Hp} (a : TK H H1) (b : TK H1 H2) : TK H H2 := fun c xs h => b c xs (a c xs h)
theorem TK.of {H H' : Hp} (s : Same H H') : TK H H' := fun b xs h => s _ _ h
theorem TK.lst {H : Hp} {D : Addr} {l : List V} {o : HO} (h : H D = some (.lst l)) : TK H (upd H D o) := fun b xs e => by
  rw [upd_ne fun z => by rw [z, h] at e; cases e]
  exact e
theorem TK.keep {w l : Addr} {H H' : Hp} (W : Well w l H) (k : Keep w l H H') : TK H H' := fun b xs e => by
  obtain ⟨_, _, _, hw, hl, _⟩ := W
  exact k b _ (fun z => by rw [z, hw] at e; cases e) (fun z => by rw [z, hl] at e; cases e) e
/-- rows of numbers, each a tuple -/
inductive Rows (H : Hp) : List V → List (List Nat) → Prop
  | nil : Rows H [] []
  | cons {q : Addr} {r : List Nat} {vs : List V} {rs : List (List Nat)} : H q = some (.tup (nv r)) → Rows H vs rs → Rows H (.ref q :: vs) (r :: rs)
theorem Rows.mono {H H' : Hp} (k : TK H H') : ∀ {vs : List V} {rs : List (List Nat)}, Rows H vs rs → Rows H' vs rs
  | _, _, .nil => .nil
  | _, _, .cons h q => .cons (k _ _ h) (q.mono k)
theorem Rows.append {H : Hp} : ∀ {vs us : List V} {rs ts : List (List Nat)}, Rows H vs rs → Rows H us ts → Rows H (vs ++ us) (rs ++ ts)
  | _, _, _, _, .nil, q => q
  | _, _, _, _, .cons h q, q' => .cons h (q.append q')
theorem Rows.snoc {H : Hp} {vs : List V} {rs : List (List Nat)} {q : Addr} {r : List Nat} (h : Rows H vs rs) (e : H q = some (.tup (nv r))) : Rows H (vs ++ [.ref q]) (rs ++ [r]) := h.append (.cons e .nil)
theorem Rows.length {H : Hp} : ∀ {vs : List V} {rs : List (List Nat)}, Rows H vs rs → vs.length = rs.length
  | _, _, .nil => rfl
  | _, _, .cons _ q => congrArg (· + 1) q.length
theorem Rows.get {H : Hp} : ∀ {vs : List V} {rs : List (List Nat)} {i : Nat} {v : V}, Rows H vs rs → vs[i]? = some v → ∃ q r, v = .ref q ∧ rs[i]? = some r ∧ H q = some (.tup (nv r))
  | _, _, 0, _, .cons h q, e => by cases e; exact ⟨_, _, rfl, rfl, h⟩
  | _, _, i + 1, _, .cons h q, e => q.get (i := i) e
  | _, _, 0, _, .nil, e => by cases e
  | _, _, _ + 1, _, .nil, e => by cases e
def nD (l : List Nat) : List PyData := l.map fun x => PyData.int ((x : Nat) : Int)
theorem rpN {H : Hp} : ∀ l : List Nat, RpAll H (nv l) (nD l)
  | [] => .nil
  | _ :: l => .cons (.int _) (rpN l)
def rowD (r : List Nat) : PyData := .tuple (nD r)
theorem Rows.rp {H : Hp} : ∀ {vs : List V} {rs : List (List Nat)}, Rows H vs rs → RpAll H vs (rs.map rowD)
  | _, _, .nil => .nil
  | _, _, .cons h q => .cons (.tup h (rpN _)) q.rp
theorem Rows.dp {K : PySem.W.Frag} {H : Hp} : ∀ {vs : List V} {rs : List (List Nat)}, Rows H vs rs → DpAll K H vs (rs.map rowD)
  | _, _, .nil => .nil
  | _, _, .cons (r := r) h q => .cons (.tup (SqT.of h) (by have := dpNv (K := K) (H := H) r; rw [List.map_map] at this; exact this)) q.dp
/-! ### a caught own error -/
structure CauN (K : PySem.W.Frag) (mg : Str → Option Value) (nm fld n1 n2 n3 : Str) (C L A1 A2 A3 : Addr) : Prop where
  ex : ExK K C
  no : PySem.W.findIn K (.ref C) fld = some none
  gC : mg nm = some (.ref C)
  gL : mg "LinkError" = some (.ref L)
  g1 : mg n1 = some (.ref A1)
  g2 : mg n2 = some (.ref A2)
  g3 : mg n3 = some (.ref A3)
  te : PySem.W.exmOne K (.ref C) (.ref L) = some true
  kV : PySem.W.kitOne K (.ref C) (.type "ValueError") = some true
  kC : PySem.W.kitOne K (.ref C) (.ref C) = some true
  k1 : PySem.W.kitOne K (.ref C) (.ref A1) = some false
  k2 : PySem.W.kitOne K (.ref C) (.ref A2) = some false
  k3 : PySem.W.kitOne K (.ref C) (.ref A3) = some false
theorem ExK.xf {K : PySem.W.Frag} {C : Addr} (T : ExK K C) : XfC K C := ⟨T.ga, T.gg, T.sb, T.hd⟩
theorem CauN.any3 {K : PySem.W.Frag} {mg : Str → Option Value} {nm fld n1 n2 n3 : Str} {C L A1 A2 A3 : Addr} (T : CauN K mg nm fld n1 n2 n3 C L A1 A2 A3) : ∀ its, Vals [V.ref A1, V.ref A2, V.ref A3] its → PySem.W.kitAny K (.ref C) its = some false := fun its r => by
  rw [ClsV.all (.cons (.own _) (.cons (.own _) (.cons (.own _) .nil))) r]
  simp only [PySem.W.kitAny, T.k1, T.k2, T.k3]
def exB (K : PySem.W.Frag) (C : Addr) : Bool :=
  (PySem.W.clsIn K C).isSome && (decide (PySem.W.findIn K (.ref C) "__getattribute__" = some (some (.builtin "BaseException.__getattribute__"))) && (decide (PySem.W.findIn K (.ref C) "__getattr__" = some none) && (decide (PySem.W.subIn K (.ref C) (.type "BaseException") = some true) &&
  (decide (PySem.W.findIn K (.ref C) "__class__" = some (some (.builtin "object.__class__"))) && (decide (PySem.W.specialIn K (.builtin "object.__class__") "__get__" = some (some (.builtin "getset_descriptor.__get__"))) && (decide (PySem.W.takesIn K (.builtin "object.__class__") = some true) && (decide (PySem.W.mroIn K C (.type "object") = some true) && PySem.W.hasDictIn K C)))))))
theorem exB_ok {K : PySem.W.Frag} {C : Addr} (h : exB K C = true) : ExK K C := by
  obtain ⟨h1, h⟩ := Bool.and_eq_true_iff.mp h
  obtain ⟨h2, h⟩ := Bool.and_eq_true_iff.mp h
  obtain ⟨h3, h⟩ := Bool.and_eq_true_iff.mp h
  obtain ⟨h4, h⟩ := Bool.and_eq_true_iff.mp h
  obtain ⟨h5, h⟩ := Bool.and_eq_true_iff.mp h
  obtain ⟨h6, h⟩ := Bool.and_eq_true_iff.mp h
  obtain ⟨h7, h⟩ := Bool.and_eq_true_iff.mp h
  obtain ⟨h8, h9⟩ := Bool.and_eq_true_iff.mp h
  exact ⟨h1, of_decide_eq_true h2, of_decide_eq_true h3, of_decide_eq_true h4, of_decide_eq_true h5, of_decide_eq_true h6, of_decide_eq_true h7, of_decide_eq_true h8, h9⟩
def cauB (K : PySem.W.Frag) (C L A1 A2 A3 : Addr) : Bool := exB K C && (decide (PySem.W.exmOne K (.ref C) (.ref L) = some true) && (decide (PySem.W.kitOne K (.ref C) (.type "ValueError") = some true) && (decide (PySem.W.kitOne K (.ref C) (.ref C) = some true) && (decide (PySem.W.kitOne K (.ref C) (.ref A1) = some false) && (decide (PySem.W.kitOne K (.ref C) (.ref A2) = some false) && decide (PySem.W.kitOne K (.ref C) (.ref A3) = some false))))))
theorem cau_ok {K : PySem.W.Frag} {mg : Str → Option Value} {nm fld n1 n2 n3 : Str} {C L A1 A2 A3 : Addr} (h : cauB K C L A1 A2 A3 = true) (no : PySem.W.findIn K (.ref C) fld = some none) (gC : mg nm = some (.ref C)) (gL : mg "LinkError" = some (.ref L)) (g1 : mg n1 = some (.ref A1)) (g2 : mg n2 = some (.ref A2)) (g3 : mg n3 = some (.ref A3)) : CauN K mg nm fld n1 n2 n3 C L A1 A2 A3 := by
  obtain ⟨h1, h⟩ := Bool.and_eq_true_iff.mp h
  obtain ⟨h2, h⟩ := Bool.and_eq_true_iff.mp h
  obtain ⟨h3, h⟩ := Bool.and_eq_true_iff.mp h
  obtain ⟨h4, h⟩ := Bool.and_eq_true_iff.mp h
  obtain ⟨h5, h⟩ := Bool.and_eq_true_iff.mp h
  obtain ⟨h6, h7⟩ := Bool.and_eq_true_iff.mp h
  exact ⟨exB_ok h1, no, gC, gL, g1, g2, g3, of_decide_eq_true h2, of_decide_eq_true h3, of_decide_eq_true h4, of_decide_eq_true h5, of_decide_eq_true h6, of_decide_eq_true h7⟩
theorem RpAll.get {H : Hp} : ∀ {vs : List V} {ds : List PyData} {i : Nat} {v : V}, RpAll H vs ds → vs[i]? = some v → ∃ d, ds[i]? = some d ∧ Rp H v d
  | _, _, 0, _, .cons h q, e => by cases e; exact ⟨_, rfl, h⟩
  | _, _, i + 1, _, .cons h q, e => q.get (i := i) e
  | _, _, 0, _, .nil, e => by cases e
  | _, _, _ + 1, _, .nil, e => by cases e
theorem RpAll.length {H : Hp} : ∀ {vs : List V} {ds : List PyData}, RpAll H vs ds → vs.length = ds.length
  | _, _, .nil => rfl
  | _, _, .cons _ q => congrArg (· + 1) q.length
/-- a value that is a tuple -/
theorem Rp.tupOf {K : PySem.W.Frag} {H : Hp} {v : V} {ds : List PyData} (h : Rp H v (.tuple ds)) : ∃ (a : Addr) (xs : List V), v = .ref a ∧ SqT K H a xs ∧ RpAll H xs ds := by
  cases h with
  | tup e q => exact ⟨_, _, rfl, SqT.of e, q⟩
  | ftp e q => exact ⟨_, _, rfl, .inl (.inr ⟨_, e⟩), q⟩
def kdI : PyData → Bool
  | .int _ => true
  | .bool _ => true
  | _ => false
def kdB : PyData → Bool
  | .bool _ => true
  | _ => false
def kdT : PyData → Bool
  | .tuple _ => true
  | _ => false
theorem m1_kit {K : PySem.W.Frag} (d : PyData) : PySem.W.kitOne K (.type (tyD d)) (.type "int") = some (kdI d) := by
  rw [kInt]
  cases d <;> rfl
theorem m2_kit {K : PySem.W.Frag} (d : PyData) : PySem.W.kitOne K (.type (tyD d)) (.type "bool") = some (kdB d) := by
  rw [kBool]
  cases d <;> rfl
theorem m3_kit {K : PySem.W.Frag} (d : PyData) : PySem.W.kitOne K (.type (tyD d)) (.type "tuple") = some (kdT d) := by
  rw [kTup]
  cases d <;> rfl
theorem m12 {d : PyData} (h : kdI d = true) (g : kdB d = false) : ∃ i, d = .int i := by
  cases d with
  | int i => exact ⟨i, rfl⟩
  | bool _ => cases g
  | _ => cases h
theorem RpAll.two {H : Hp} {xs : List V} {ds : List PyData} (h : RpAll H xs ds) (e : ds.length = 2) : ∃ x0 x1 d0 d1, xs = [x0, x1] ∧ ds = [d0, d1] ∧ Rp H x0 d0 ∧ Rp H x1 d1 := by
  match ds, e, h with
  | [_, _], _, .cons r0 (.cons r1 .nil) => exact ⟨_, _, _, _, rfl, rfl, r0, r1⟩
theorem kdT_of {d : PyData} (h : kdT d = true) : ∃ ds, d = .tuple ds := by
  cases d with
  | tuple ds => exact ⟨ds, rfl⟩
  | _ => cases h
theorem nat_ne {a b : Nat} (h : (!decide (V.int (a : Int) = V.int (b : Int))) = true) : a ≠ b := fun z => by
  rw [z, decide_eq_true rfl] at h
  cases h
theorem nat_eq {a b : Nat} (h : ¬ (!decide (V.int (a : Int) = V.int (b : Int))) = true) : a = b := Classical.byContradiction fun z => h (by rw [decide_eq_false (fun y => z (by have := V.int.inj y; omega))]; rfl)
theorem take_snoc {α : Type} {l : List α} {i : Nat} {x : α} (h : l[i]? = some x) : l.take (i + 1) = l.take i ++ [x] := by
  rw [List.take_add_one, h]
  rfl
end Lf
namespace Lf
open PySem PySem.Spec PyProof.Rows L2
/-! ### builds.py: is_root, is_join, with_parent -/
abbrev sIsRoot : Stmt := topS (21)
abbrev sIsJoin : Stmt := topS (23)
abbrev sWithP : Stmt := topS (24)
def isRt (fs : List Nat) (d : PyData) : Bool := isV fs.length d && decide (par fs (unD d) = unD d)
theorem unD_nat (x : Nat) : unD (.int (x : Nat)) = x := Int.toNat_natCast x
theorem isRt_iff {fs : List Nat} {d : PyData} : isRt fs d = true ↔ ∃ x : Nat, d = .int (x : Nat) ∧ x < fs.length ∧ par fs x = x := by
  constructor
  · intro h
    obtain ⟨h1, h2⟩ := Bool.and_eq_true_iff.mp h
    obtain ⟨x, rfl, hx⟩ := isV_int h1
    have h2 := of_decide_eq_true h2
    rw [unD_nat] at h2
    exact ⟨x, rfl, hx, h2⟩
  · rintro ⟨x, rfl, hx, h⟩
    unfold isRt
    rw [isV_nat hx, unD_nat, decide_eq_true h]
    rfl
theorem isRt_nat {fs : List Nat} {x : Nat} (hx : x < fs.length) (h : par fs x = x) : isRt fs (.int (x : Nat)) = true := isRt_iff.mpr ⟨x, rfl, hx, h⟩
noncomputable def isJn (fs : List Nat) (d e : PyData) : Bool := isRt fs d && (isRt fs e && (!decide (unD d = unD e) && decide (cnt fs (unD d) fs.length ≤ cnt fs (unD e) fs.length)))
theorem isJn_iff {fs : List Nat} {d e : PyData} : isJn fs d e = true ↔ ∃ a b : Nat, d = .int (a : Nat) ∧ e = .int (b : Nat) ∧ Jn fs a b := by
  constructor
  · intro h
    obtain ⟨h1, h⟩ := Bool.and_eq_true_iff.mp h
    obtain ⟨h2, h⟩ := Bool.and_eq_true_iff.mp h
    obtain ⟨h3, h4⟩ := Bool.and_eq_true_iff.mp h
    obtain ⟨x, rfl, hx, px⟩ := isRt_iff.mp h1
    obtain ⟨y, rfl, hy, py⟩ := isRt_iff.mp h2
    have h4 := of_decide_eq_true h4
    rw [unD_nat, unD_nat] at h3 h4
    refine ⟨x, y, rfl, rfl, hx, px, hy, py, fun z => ?_, h4⟩
    rw [decide_eq_true z] at h3
    cases h3
  · rintro ⟨a, b, rfl, rfl, h1, h2, h3, h4, h5, h6⟩
    unfold isJn
    rw [isRt_nat h1 h2, isRt_nat h3 h4, unD_nat, unD_nat, decide_eq_false h5, decide_eq_true h6]
    rfl
theorem isJn_nat {fs : List Nat} {a b : Nat} : isJn fs (.int (a : Nat)) (.int (b : Nat)) = true ↔ Jn fs a b := by
  rw [isJn_iff]
  constructor
  · rintro ⟨x, y, e1, e2, h⟩
    have e1 : a = x := by have := PyData.int.inj e1; omega
    have e2 : b = y := by have := PyData.int.inj e2; omega
    subst e1 e2
    exact h
  · exact fun h => ⟨a, b, rfl, rfl, h⟩
noncomputable def lawJn (fs : List Nat) : PyData → Bool
  | .tuple [a, b] => isJn fs a b
  | _ => false
theorem lawJn_no {fs : List Nat} {ds : List PyData} (h : ds.length ≠ 2) : lawJn fs (.tuple ds) = false := by
  match ds, h with
  | [], _ => rfl
  | [_], _ => rfl
  | [_, _], h => exact absurd rfl h
  | _ :: _ :: _ :: _, _ => rfl
def isTwo (fs : List Nat) (d e : PyData) : Bool := isRt fs d && (isRt fs e && !decide (unD d = unD e))
theorem isJn_two (fs : List Nat) (d e : PyData) : isJn fs d e = (isTwo fs d e && decide (cnt fs (unD d) fs.length ≤ cnt fs (unD e) fs.length)) := by
  unfold isJn isTwo
  cases isRt fs d <;> cases isRt fs e <;> cases decide (unD d = unD e) <;> cases decide (cnt fs (unD d) fs.length ≤ cnt fs (unD e) fs.length) <;> rfl
def spTwoR (K : PySem.W.Frag) : Sp := fun vs H Q _ => ∃ (p : Addr) (fs : List Nat) (v u : V) (d e : PyData), vs = [.ref p, v, u] ∧ SqT K H p (nv fs) ∧ Rp H v d ∧ Rp H u e ∧ Q (.bl (isTwo fs d e)) H
def spRoot (K : PySem.W.Frag) : Sp := fun vs H Q _ => ∃ (p : Addr) (fs : List Nat) (v : V) (d : PyData), vs = [.ref p, v] ∧ SqT K H p (nv fs) ∧ Rp H v d ∧ Q (.bl (isRt fs d)) H
def spJoin (K : PySem.W.Frag) : Sp := fun vs H Q _ => ∃ (p : Addr) (fs : List Nat) (v u : V) (d e : PyData), vs = [.ref p, v, u] ∧ SqT K H p (nv fs) ∧ Forest fs ∧ Rp H v d ∧ Rp H u e ∧ ∀ H', Same H H' → Q (.bl (isJn fs d e)) H'
def spWithP : Sp := fun vs H Q _ => ∃ (p : Addr) (fs : List Nat) (c u : Nat), vs = [.ref p, .int (c : Nat), .int (u : Nat)] ∧ H p = some (.tup (nv fs)) ∧ fs.length ≤ 100 ∧ c < fs.length ∧ ∀ (q : Addr) (H' : Hp), Same H H' → H' q = some (.tup (nv (fs.set c u))) → Q (.ref q) H'
section
variable {P : Program} {w : World} {K : PySem.W.Frag} {mg : Str → Option Value} {base : Heap}
theorem scIsRoot : FnScope ["forest", "value"] ["forest", "value"] (defScope sIsRoot) := ⟨rfl, rfl, rfl, by decide +kernel, rfl, by decide +kernel, by decide +kernel⟩
theorem ok_isRoot (M : Mk K mg "is_root" sIsRoot ["forest", "value"]) (dV : Df P w K mg base CX0 2 "is_vertex" ["n", "value"] spIV) (ml : mg "len" = none) : Df P w K mg base CX0 3 "is_root" ["forest", "value"] (spRoot K) := by
  obtain ⟨f, fd, F, b, g⟩ := M
  refine Df.of F b g (F.ok scIsRoot (fun vs H Q E h => ?_) (fun cdv A outer s H vs Q E hr h => ?_))
  · obtain ⟨p, fs, v, d, rfl, _⟩ := h
    rfl
  · obtain ⟨p, fs, v, d, rfl, hp, rp, q⟩ := h
    refine ⟨_, pss_one (ps_ret (pe_and (pe_d dV hr (pa_cons (pe_callB call_len_seq (by rfl) ml PySem.boot_len (pa_cons (pv 0) pa_nil)) (pa_cons (pv 1) pa_nil))) (pe_one (pe_cmpR op_eq (pe_ix ix_tup (pv 0) (pv 1) (fun _ _ => rfl)) (pv 1) (nomark _))))), ?_⟩
    refine ⟨.ref p, rfl, p, _, rfl, .inr hp, v, rfl, (nv fs).length, v, d, rfl, rp, _, rfl, ?_⟩
    rw [nv_length]
    cases z : isV fs.length d with
    | false =>
      have e : isRt fs d = false := by unfold isRt; rw [z]; rfl
      rw [e] at q
      exact iteF q
    | true =>
      obtain ⟨x, rfl, hx⟩ := isV_int z
      cases rp
      refine iteT ⟨.ref p, rfl, .int (x : Nat), rfl, p, _, x, .int ((par fs x : Nat) : Int), rfl, rfl, hp, atI_nat (nv_get hx), .int (x : Nat), rfl, rfl, ?_⟩
      have e : isRt fs (.int (x : Nat)) = decide (V.int ((par fs x : Nat) : Int) = V.int ((x : Nat) : Int)) := by
        unfold isRt
        rw [z, unD_nat, Bool.true_and]
        exact decide_eq_decide.mpr natV_inj.symm
      rw [e] at q
      exact q
abbrev sTwoR : Stmt := topS (22)
theorem scTwoR : FnScope ["forest", "one", "other"] ["forest", "one", "other"] (defScope sTwoR) := ⟨rfl, rfl, rfl, by decide +kernel, rfl, by decide +kernel, by decide +kernel⟩
theorem ok_twoR (M : Mk K mg "are_two_roots" sTwoR ["forest", "one", "other"]) (dR : Df P w K mg base CX0 3 "is_root" ["forest", "value"] (spRoot K)) : Df P w K mg base CX0 4 "are_two_roots" ["forest", "one", "other"] (spTwoR K) := by
  obtain ⟨f, fd, F, b, g⟩ := M
  refine Df.of F b g (F.ok scTwoR (fun vs H Q E h => ?_) (fun cdv A outer s H vs Q E hr h => ?_))
  · obtain ⟨p, fs, v, u, d, e, rfl, _⟩ := h
    rfl
  · obtain ⟨p, fs, v, u, d, e, rfl, hp, rv, ru, q⟩ := h
    refine ⟨_, pss_one (ps_ret (pe_and (pe_d dR hr (pa_cons (pv 0) (pa_cons (pv 1) pa_nil))) (pe_and (pe_d dR hr (pa_cons (pv 0) (pa_cons (pv 2) pa_nil))) (pe_one (pe_cmpR op_ne (pv 1) (pv 2) (nomark _)))))), ?_⟩
    refine ⟨.ref p, rfl, v, rfl, p, fs, v, d, rfl, hp, rv, _, rfl, ?_⟩
    unfold isTwo at q
    cases z1 : isRt fs d with
    | false =>
      rw [z1] at q
      exact iteF q
    | true =>
      rw [z1] at q
      refine iteT ⟨.ref p, rfl, u, rfl, p, fs, u, e, rfl, hp, ru, _, rfl, ?_⟩
      cases z2 : isRt fs e with
      | false =>
        rw [z2] at q
        exact iteF q
      | true =>
        rw [z2] at q
        obtain ⟨x, rfl, hx, px⟩ := isRt_iff.mp z1
        obtain ⟨y, rfl, hy, py⟩ := isRt_iff.mp z2
        cases rv
        cases ru
        refine iteT ⟨.int (x : Nat), rfl, .int (y : Nat), rfl, rfl, ?_⟩
        rw [unD_nat, unD_nat] at q
        rw [show decide (V.int ((x : Nat) : Int) = V.int ((y : Nat) : Int)) = decide (x = y) from decide_eq_decide.mpr natV_inj]
        exact q
theorem scIsJoin : FnScope ["forest", "child", "parent", "loads"] ["forest", "child", "parent"] (defScope sIsJoin) := ⟨rfl, rfl, rfl, by decide +kernel, rfl, by decide +kernel, by decide +kernel⟩
theorem ok_isJoin (M : Mk K mg "is_join" sIsJoin ["forest", "child", "parent"]) (dT : Df P w K mg base CX0 4 "are_two_roots" ["forest", "one", "other"] (spTwoR K)) (dW : Df P w K mg base CX0 5 "weights" ["forest"] (spWeights K)) : Df P w K mg base CX0 6 "is_join" ["forest", "child", "parent"] (spJoin K) := by
  obtain ⟨f, fd, F, b, g⟩ := M
  refine Df.of F b g (F.ok scIsJoin (fun vs H Q E h => ?_) (fun cdv A outer s H vs Q E hr h => ?_))
  · obtain ⟨p, fs, v, u, d, e, rfl, _⟩ := h
    rfl
  · obtain ⟨p, fs, v, u, d, e, rfl, hp, hF, rv, ru, q⟩ := h
    refine ⟨_, pss_cons (ps_if (pt_not (pt_val (pe_d dT hr (pa_cons (pv 0) (pa_cons (pv 1) (pa_cons (pv 2) pa_nil)))))) (pss_one (ps_ret pe_bl)) pss_nil)
      (pss_cons (ps_set (i := 3) scIsJoin.nd rfl (.inl rfl) (pe_d dW hr (pa_cons (pv 0) pa_nil)))
      (pss_one (ps_ret (pe_cmpR op_le (pe_ix ix_tup (pv 3) (pv 1) (fun _ _ => rfl)) (pe_ix ix_tup (pv 3) (pv 2) (fun _ _ => rfl)) (nomark _))))), ?_⟩
    have q0 := q H (Same.refl H)
    refine ⟨.ref p, rfl, v, rfl, u, rfl, p, fs, v, u, d, e, rfl, hp, rv, ru, _, rfl, ?_⟩
    cases z : isTwo fs d e with
    | false =>
      rw [isJn_two, z] at q0
      exact iteT q0
    | true =>
      obtain ⟨z1, z2⟩ := Bool.and_eq_true_iff.mp z
      obtain ⟨z2a, z3⟩ := Bool.and_eq_true_iff.mp z2
      obtain ⟨x, rfl, hx, px⟩ := isRt_iff.mp z1
      obtain ⟨y, rfl, hy, py⟩ := isRt_iff.mp z2a
      cases rv
      cases ru
      refine iteF ⟨.ref p, rfl, p, fs, rfl, hp, hF, fun ws qa H' sm lw hws nq hq => ?_⟩
      refine ⟨.ref qa, rfl, .int (x : Nat), rfl, qa, _, x, _, rfl, rfl, SqT.of hq, atI_nat (nv_get (by omega)), .ref qa, rfl, .int (y : Nat), rfl, qa, _, y, _, rfl, rfl, SqT.of hq, atI_nat (nv_get (by omega)), _, _, rfl, rfl, ?_⟩
      have q1 := q H' sm
      rw [isJn_two, z, Bool.true_and, unD_nat, unD_nat, ← hws x hx, ← hws y hy, show decide (ws.getD x 0 ≤ ws.getD y 0) = decide (((ws.getD x 0 : Nat) : Int) ≤ ((ws.getD y 0 : Nat) : Int)) from decide_eq_decide.mpr ⟨fun z => by omega, fun z => by omega⟩] at q1
      exact q1
theorem scWithP : FnScope ["forest", "child", "parent"] ["forest", "child", "parent"] (defScope sWithP) := ⟨rfl, rfl, rfl, by decide +kernel, rfl, by decide +kernel, by decide +kernel⟩
theorem ok_withP (M : Mk K mg "with_parent" sWithP ["forest", "child", "parent"]) : Df P w K mg base CX0 1 "with_parent" ["forest", "child", "parent"] spWithP := by
  obtain ⟨f, fd, F, b, g⟩ := M
  refine Df.of F b g (F.ok scWithP (fun vs H Q E h => ?_) (fun cdv A outer s H vs Q E hr h => ?_))
  · obtain ⟨p, fs, c, u, rfl, _⟩ := h
    rfl
  · obtain ⟨p, fs, c, u, rfl, hp, few, hc, q⟩ := h
    refine ⟨_, pss_one (ps_ret (pe_op op_catW (pe_op op_catW (pe_slice sl_tupW (pv 0) po_none (po_some (pv 1))) (pe_tup (pa_cons (pv 2) pa_nil))) (pe_slice sl_tupW (pv 0) (po_some (pe_op op_add (pv 1) pe_int)) po_none))), ?_⟩
    refine ⟨.ref p, rfl, .int (c : Nat), rfl, _, rfl, p, _, rfl, hp, fun r1 H1 s1 h1 => ?_⟩
    rw [cut_upto (Nat.le_of_lt hc)] at h1
    refine ⟨.int (u : Nat), rfl, (by show 1 ≤ sizeLine; decide), fun p2 n2 => ⟨r1, p2, _, _, rfl, rfl, same_new n2 _ _ h1, upd_same, ?_, fun r3 H3 s3 h3 => ?_⟩⟩
    · rw [nv_length, List.length_take]
      exact Nat.le_of_lt (small1000 (by show min c fs.length + 1 ≤ 1000; omega))
    · have S3 := s1.trans ((same_new n2).trans s3)
      have ec : cutV (nv fs) (some ((c : Int) + 1)) none = nv (fs.drop (c + 1)) := cut_from (i := c + 1) hc
      refine ⟨.ref p, rfl, .int (c : Nat), rfl, _, _, rfl, rfl, _, rfl, p, _, rfl, S3 _ _ hp, fun r5 H5 s5 h5 => ?_⟩
      rw [ec] at h5
      refine ⟨r3, r5, _, _, rfl, rfl, s5 _ _ h3, h5, ?_, fun r6 H6 s6 h6 => q r6 H6 (S3.trans (s5.trans s6)) ?_⟩
      · rw [List.length_append, nv_length, nv_length, List.length_take, List.length_drop]
        exact Nat.le_of_lt (small1000 (by show min c fs.length + 1 + (fs.length - (c + 1)) ≤ 1000; omega))
      · rw [h6, set_cut hc, nv_append, nv_append]
        rfl
end
end Lf
namespace Lf
open PySem PySem.Spec PyProof.Rows L2
/-! ### courses.py: the class Course, begun at single vertices -/
abbrev sCI : Stmt := inClass (topS (16)) 0
abbrev sCAl : Stmt := inClass (topS (16)) 1
abbrev sCPo : Stmt := inClass (topS (16)) 2
abbrev sCTa : Stmt := inClass (topS (16)) 3
theorem f10 : ¬ (("full" : Str) = "parents") := by decide +kernel
theorem f20 : ¬ (("grown" : Str) = "parents") := by decide +kernel
theorem f21 : ¬ (("grown" : Str) = "full") := by decide +kernel
theorem f30 : ¬ (("lower" : Str) = "parents") := by decide +kernel
theorem f31 : ¬ (("lower" : Str) = "full") := by decide +kernel
theorem f32 : ¬ (("lower" : Str) = "grown") := by decide +kernel
theorem f40 : ¬ (("joined" : Str) = "parents") := by decide +kernel
theorem f41 : ¬ (("joined" : Str) = "full") := by decide +kernel
theorem f42 : ¬ (("joined" : Str) = "grown") := by decide +kernel
theorem f43 : ¬ (("joined" : Str) = "lower") := by decide +kernel
def cf (p f g l j : Addr) : List (Str × V) := putF "joined" (.ref j) (putF "lower" (.ref l) (putF "grown" (.ref g) (putF "full" (.ref f) (putF "parents" (.ref p) []))))
theorem cf_p (p f g l j : Addr) : (cf p f g l j).lookup ("parents" : Str) = some (.ref p) := by
  unfold cf
  rw [lookup_putF, if_neg (fun z => f40 z.symm), lookup_putF, if_neg (fun z => f30 z.symm), lookup_putF, if_neg (fun z => f20 z.symm), lookup_putF, if_neg (fun z => f10 z.symm), lookup_putF, if_pos rfl]
theorem cf_f (p f g l j : Addr) : (cf p f g l j).lookup ("full" : Str) = some (.ref f) := by
  unfold cf
  rw [lookup_putF, if_neg (fun z => f41 z.symm), lookup_putF, if_neg (fun z => f31 z.symm), lookup_putF, if_neg (fun z => f21 z.symm), lookup_putF, if_pos rfl]
theorem cf_g (p f g l j : Addr) : (cf p f g l j).lookup ("grown" : Str) = some (.ref g) := by
  unfold cf
  rw [lookup_putF, if_neg (fun z => f42 z.symm), lookup_putF, if_neg (fun z => f32 z.symm), lookup_putF, if_pos rfl]
theorem cf_l (p f g l j : Addr) : (cf p f g l j).lookup ("lower" : Str) = some (.ref l) := by
  unfold cf
  rw [lookup_putF, if_neg (fun z => f43 z.symm), lookup_putF, if_pos rfl]
theorem cf_j (p f g l j : Addr) : (cf p f g l j).lookup ("joined" : Str) = some (.ref j) := by
  unfold cf
  rw [lookup_putF, if_pos rfl]
theorem cf_no (p f g l j : Addr) {m : Str} (h0 : ¬ m = "parents") (h1 : ¬ m = "full") (h2 : ¬ m = "grown") (h3 : ¬ m = "lower") (h4 : ¬ m = "joined") : (cf p f g l j).lookup m = none := by
  unfold cf
  rw [lookup_putF, if_neg h4, lookup_putF, if_neg h3, lookup_putF, if_neg h2, lookup_putF, if_neg h1, lookup_putF, if_neg h0]
  rfl
structure CTx (K : PySem.W.Frag) (mg : Str → Option Value) (C : Addr) : Prop where
  cl : Cls K C
  nP : NoAttr K C "parents"
  nF : NoAttr K C "full"
  nG : NoAttr K C "grown"
  nL : NoAttr K C "lower"
  nJ : NoAttr K C "joined"
  mgC : mg "Course" = some (.ref C)
/-- a method of the class at C -/
def DfM (P : Program) (w : World) (K : PySem.W.Frag) (mg : Str → Option Value) (base : Heap) (CX : CXT) (C : Addr) (k : Nat) (m : Str) (ps : List Str) (sp : Sp) : Prop :=
  ∃ (f : Addr) (fd : FuncData), FnOk P w K mg base CX k f fd ps sp ∧ Binds K fd ps [] ∧ Meth K C m f
def MkM (K : PySem.W.Frag) (C : Addr) (m q : Str) (st : Stmt) (ps : List Str) : Prop := ∃ (f : Addr) (fd : FuncData), Fun K m q st f fd ∧ Binds K fd ps [] ∧ Meth K C m f
/-- the making of an instance, by an __init__ with defaults -/
def DfI (P : Program) (w : World) (K : PySem.W.Frag) (mg : Str → Option Value) (base : Heap) (CX : CXT) (C : Addr) (k : Nat) (ps : List Str) (dvs : List V) (sp : Sp) : Prop :=
  ∃ (f : Addr) (fd : FuncData) (ds : List Value), FnOk P w K mg base CX k f fd ps sp ∧ Vals dvs ds ∧ Binds K fd ps ds ∧ L2.Mk K C f
def MkI (K : PySem.W.Frag) (C : Addr) (q : Str) (st : Stmt) (ps : List Str) (dvs : List V) : Prop := ∃ (f : Addr) (fd : FuncData), FunD K "__init__" q (defArgs st) (defBody st) (defScope st) dvs [] f fd ∧ (∃ ds, Vals dvs ds ∧ Binds K fd ps ds) ∧ L2.Mk K C f
theorem FunD.okN {P : Program} {w : World} {K : PySem.W.Frag} {mg : Str → Option Value} {base : Heap} {x qual : Str} {params : Arguments} {body : List Stmt} {scope : Scope} {dvs : List V} {kws : List (Str × V)} {f : Addr} {fd : FuncData} {N ps : List Str} {k : Nat} {sp : Sp} (F : FunD K x qual params body scope dvs kws f fd) (S : FnScope N ps scope) (len : ∀ vs H Q E, sp vs H Q E → vs.length = ps.length)
    (hbody : ∀ (cdv : Value) (A : Around) (outer : List Env) (s : Shared) (H : Hp) (vs : List V) (Q : VK) (E : XK), Room k (A.deeper (envOfC qual scope s.heap.objs.size f cdv)) → sp vs H Q E →
      ∃ t, PSs (cxOf CX0 P w K mg base N qual scope f cdv A outer s H E).nox body t ∧ t { nx := fun _ H' => Q .non H', rt := Q } (start N vs) H) : FnOk P w K mg base CX0 (k + 1) f fd ps sp :=
  F.ok S len fun cdv A outer s H vs Q E hr hsp => by
    obtain ⟨t, h, q⟩ := hbody cdv A outer s H vs Q E hr hsp
    exact ⟨t, h.nox, q⟩
/-- a course at c: the forest fs, of which S is joined -/
structure Crs (K : PySem.W.Frag) (C : Addr) (H : Hp) (c p f g l j : Addr) (fs S : List Nat) : Prop where
  F : Forest fs
  ob : ∃ dx, H c = some (.ins C dx (cf p f g l j))
  pa : SqT K H p (nv fs)
  fu : ∃ ws, H f = some (.tup (nv ws)) ∧ ws.length = fs.length ∧ ∀ v, v < fs.length → ws.getD v 0 = wt fs v
  gr : ∃ gs, H g = some (.lst (nv gs)) ∧ gs.length = fs.length ∧ ∀ v, v < fs.length → gs.getD v 0 = grown fs S v
  lw : H l = some (.lst (nv (lowers fs)))
  jo : H j = some (.lst (nv S))
  low : ∀ v ∈ S, v < fs.length ∧ par fs v ≠ v
  nd : S.Nodup
theorem Crs.few {K : PySem.W.Frag} {C : Addr} {H : Hp} {c p f g l j : Addr} {fs S : List Nat} (R : Crs K C H c p f g l j fs S) : S.length ≤ 24 := Nat.le_trans (nodup_le R.nd fun v hv => (R.low v hv).1) R.F.few
theorem Crs.same {K : PySem.W.Frag} {C : Addr} {H H' : Hp} {c p f g l j : Addr} {fs S : List Nat} (R : Crs K C H c p f g l j fs S) (s : Same H H') : Crs K C H' c p f g l j fs S := by
  obtain ⟨dx, h1⟩ := R.ob
  obtain ⟨ws, h2, h3⟩ := R.fu
  obtain ⟨gs, h4, h5⟩ := R.gr
  exact ⟨R.F, ⟨dx, s _ _ h1⟩, same_seqT s R.pa, ⟨ws, s _ _ h2, h3⟩, ⟨gs, s _ _ h4, h5⟩, s _ _ R.lw, s _ _ R.jo, R.low, R.nd⟩
noncomputable def posB (fs S : List Nat) (v : Nat) : Bool := @decide (Can fs S v) (Classical.propDecidable _)
theorem posB_iff {fs S : List Nat} {v : Nat} : posB fs S v = true ↔ Can fs S v := by
  unfold posB
  exact @decide_eq_true_iff _ (Classical.propDecidable _)
theorem posB_no {fs S : List Nat} {v : Nat} (h : ¬ Can fs S v) : posB fs S v = false := by
  cases z : posB fs S v with
  | false => rfl
  | true => exact absurd (posB_iff.mp z) h
theorem keep_upd {c : Addr} {H : Hp} {o : HO} : Keep c c H (upd H c o) := fun b u h1 _ e => by
  rw [upd_ne h1]
  exact e
theorem wt_single {fs : List Nat} (F : Forest fs) {v : Nat} (hv : v < fs.length) : cnt (List.range fs.length) v (List.range fs.length).length = grown fs [] v := by
  have := there_out F (S := []) ⟨fun _ h => (nomatch h), fun _ h => (nomatch h)⟩ hv
  rw [there_nil] at this
  exact this
def spCI (K : PySem.W.Frag) (C : Addr) : Sp := fun vs H Q _ => ∃ (c dx p : Addr) (fs : List Nat), vs = [.ref c, .ref p, .non] ∧ H c = some (.ins C dx []) ∧ SqT K H p (nv fs) ∧ c ≠ p ∧ Forest fs ∧ ∀ (f g l j : Addr) (H' : Hp), Keep c c H H' → H f = none → H g = none → H l = none → H j = none → Crs K C H' c p f g l j fs [] → g ≠ j → g ≠ l → l ≠ j → Q .non H'
def spCAl (K : PySem.W.Frag) (C : Addr) : Sp := fun vs H Q _ => ∃ (c p f g l j : Addr) (fs S : List Nat) (v : Nat), vs = [.ref c, .int (v : Nat)] ∧ Crs K C H c p f g l j fs S ∧ v < fs.length ∧ Q (.bl (posB fs S v)) H
def spCPo (K : PySem.W.Frag) (C : Addr) : Sp := fun vs H Q _ => ∃ (c p f g l j : Addr) (fs S : List Nat), vs = [.ref c] ∧ Crs K C H c p f g l j fs S ∧ ∀ (q : Addr) (H' : Hp), Same H H' → H q = none → H' q = some (.lst (nv ((lowers fs).filter (posB fs S)))) → Q (.ref q) H'
def spCTa (K : PySem.W.Frag) (C : Addr) : Sp := fun vs H Q _ => ∃ (c p f g l j : Addr) (fs S : List Nat) (v : Nat), vs = [.ref c, .int (v : Nat)] ∧ Crs K C H c p f g l j fs S ∧ g ≠ j ∧ g ≠ l ∧ l ≠ j ∧ v < fs.length ∧ par fs v ≠ v ∧ v ∉ S ∧ ∀ (H' : Hp), Keep g j H H' → Crs K C H' c p f g l j fs (S ++ [v]) → Q .non H'
section
variable {P : Program} {w : World} {K : PySem.W.Frag} {mg : Str → Option Value} {base : Heap} {C : Addr}
theorem scCI : FnScope ["self", "parents", "start", "begun", "vertex", "parent"] ["self", "parents", "start"] (defScope sCI) := ⟨rfl, rfl, rfl, by decide +kernel, rfl, by decide +kernel, by decide +kernel⟩
theorem ok_CI (M : MkI K C "Course.__init__" sCI ["self", "parents", "start"] [.non]) (T : CTx K mg C) (dS : Df P w K mg base CX0 1 "single" ["n"] spSingle) (dW : Df P w K mg base CX0 5 "weights" ["forest"] (spWeights K)) (ml : mg "len" = none) (mL : mg "list" = none) (me : mg "enumerate" = none) : DfI P w K mg base CX0 C 6 ["self", "parents", "start"] [.non] (spCI K C) := by
  obtain ⟨f0, fd0, F0, ⟨ds, hds, b0⟩, m0⟩ := M
  refine ⟨f0, fd0, ds, FunD.okN F0 scCI (fun vs H Q E h => ?_) (fun cdv A outer s H vs Q E hr h => ?_), hds, b0, m0⟩
  · obtain ⟨c, dx, p, fs, rfl, _⟩ := h
    rfl
  · obtain ⟨c, dx, p, fs, rfl, hc, hp, cp, hF, q⟩ := h
    have nd := scCI.nd
    refine ⟨_, pss_cons (ps_set (i := 3) nd rfl (.inr rfl) (pe_ifExp (pt_cmpR op_isN (pv 2) pe_non (nomark _)) (pe_d dS hr (pa_cons (pe_callB call_len_seq (by rfl) ml PySem.boot_len (pa_cons (pv 1) pa_nil)) pa_nil)) (pv 2)))
      (pss_cons (ps_fld (pv 0) (pv 1) rfl) (pss_cons (ps_fld (pv 0) (pe_d dW hr (pa_cons (pv 1) pa_nil)) rfl)
      (pss_cons (ps_fld (pv 0) (pe_callTy call_list_of (by rfl) mL (by decide +kernel) (pa_cons (pe_d dW hr (pa_cons (pv 3) pa_nil)) pa_nil)) rfl)
      (pss_cons (ps_fld (pv 0) (pe_lc (own := [("vertex", 4), ("parent", 5)]) (g := gTup K 2 (gCons (gName 4) (gCons (gName 5) gNil))) (tt := tAnd (tTest (tOp rNe (tVar 5) (tVar 4))) (tTest (tOp rEq (tOp (rIxT K) (tVar 3) (tVar 4)) (tVar 4)))) (te := tVar 4) (by rfl) nd
        (pi_enumT (by rfl) me (pa_cons (pv 1) pa_nil)) (blkOk_by (own := [("vertex", 4), ("parent", 5)]) (N := ["self", "parents", "start", "begun", "vertex", "parent"]) (sc := defScope sCI) (by decide +kernel))
        (fun _ _ _ _ _ => pg_tup rfl (pgs_cons (pg_name (i := 4) nd rfl (Or.inl rfl)) (pgs_cons (pg_name (i := 5) nd rfl (Or.inl rfl)) pgs_nil)))
        (fun _ _ _ _ _ => pts_one (PW.pt (pw_and (pt_cmpR op_ne (pv 5) (pv 4) (nomark _)) (pw_and1 (pt_cmpR op_eq (pe_ix ix_tup (pv 3) (pv 4) (fun _ _ => rfl)) (pv 4) (nomark _)))))) (fun _ _ _ _ _ => pv 4)) rfl)
      (pss_one (ps_fld (pv 0) (pe_lst pa_nil) rfl)))))), ?_⟩
    have few := hF.few
    have npos := hF.pos
    have seq : ∀ {G : Hp}, Keep c c H G → SqT K G p (nv fs) := fun k => by
      rcases hp with (h | ⟨o, h⟩) | h
      · exact .inl (.inl (k _ _ cp.symm cp.symm h))
      · exact .inl (.inr ⟨o, k _ _ cp.symm cp.symm h⟩)
      · exact .inr h
    have out : ∀ {G : Hp} {a : Addr} {o : HO}, Keep c c H G → G c = some o → G a = none → H a = none ∧ a ≠ c := fun {G a o} k hc na => by
      have ac : a ≠ c := fun y => by
        rw [y, hc] at na
        cases na
      refine ⟨?_, ac⟩
      cases z : H a with
      | none => rfl
      | some o =>
        rw [k _ _ ac ac z] at na
        cases na
    refine ⟨.non, rfl, rfl, _, rfl, ?_⟩
    rw [decide_eq_true rfl]
    refine iteT ⟨.ref p, rfl, p, _, rfl, .inr hp, (nv fs).length, rfl, by rw [nv_length]; omega, fun b nb => ?_⟩
    rw [nv_length]
    have bc : b ≠ c := fun y => by
      rw [y, hc] at nb
      cases nb
    have k0 : Keep c c H (upd H b (.tup (nv (List.range fs.length)))) := Keep.of (same_new nb)
    have c0 : (upd H b (.tup (nv (List.range fs.length)))) c = some (.ins C dx []) := same_new nb _ _ hc
    have b0 : (upd H b (.tup (nv (List.range fs.length)))) b = some (.tup (nv (List.range fs.length))) := upd_same
    generalize upd H b (.tup (nv (List.range fs.length))) = G0 at *
    refine ⟨.ref p, rfl, .ref c, rfl, c, C, dx, [], rfl, c0, T.cl, T.nP, (by show 0 < 1000; decide), ?_⟩
    have k1 : Keep c c H (upd G0 c (.ins C dx (putF "parents" (.ref p) []))) := k0.trans keep_upd
    have c1 : (upd G0 c (.ins C dx (putF "parents" (.ref p) []))) c = some (.ins C dx (putF "parents" (.ref p) [])) := upd_same
    have b1 : (upd G0 c (.ins C dx (putF "parents" (.ref p) []))) b = some (.tup (nv (List.range fs.length))) := by rw [upd_ne bc]; exact b0
    generalize upd G0 c (.ins C dx (putF "parents" (.ref p) [])) = G1 at *
    refine ⟨.ref p, rfl, p, fs, rfl, seq k1, hF, fun ws f G2 s2 lw hws nf hf => ?_⟩
    obtain ⟨nfH, fc⟩ := out k1 c1 nf
    refine ⟨.ref c, rfl, c, C, dx, _, rfl, s2 _ _ c1, T.cl, T.nF, (by show 1 < 1000; decide), ?_⟩
    have k3 : Keep c c H (upd G2 c (.ins C dx (putF "full" (.ref f) (putF "parents" (.ref p) [])))) := k1.trans ((Keep.of s2).trans keep_upd)
    have c3 : (upd G2 c (.ins C dx (putF "full" (.ref f) (putF "parents" (.ref p) [])))) c = some (.ins C dx (putF "full" (.ref f) (putF "parents" (.ref p) []))) := upd_same
    have b3 : (upd G2 c (.ins C dx (putF "full" (.ref f) (putF "parents" (.ref p) [])))) b = some (.tup (nv (List.range fs.length))) := by rw [upd_ne bc]; exact s2 _ _ b1
    have f3 : (upd G2 c (.ins C dx (putF "full" (.ref f) (putF "parents" (.ref p) [])))) f = some (.tup (nv ws)) := by rw [upd_ne fc]; exact hf
    generalize upd G2 c (.ins C dx (putF "full" (.ref f) (putF "parents" (.ref p) []))) = G3 at *
    refine ⟨.ref b, rfl, b, List.range fs.length, rfl, SqT.of b3, Forest.range npos few, fun gs b2 G4 s4 lg hgs nb2 hb2 => ⟨b2, _, rfl, .inr (SqT.of hb2), fun g ng => ?_⟩⟩
    rw [List.length_range] at lg hgs
    have k4 := k3.trans (Keep.of s4)
    obtain ⟨ngH, gc⟩ := out k4 (s4 _ _ c3) ng
    have S5 := s4.trans (same_new (o := .lst (nv gs)) ng)
    have g5 : (upd G4 g (.lst (nv gs))) g = some (.lst (nv gs)) := upd_same
    generalize upd G4 g (.lst (nv gs)) = G5 at *
    refine ⟨.ref c, rfl, c, C, dx, _, rfl, S5 _ _ c3, T.cl, T.nG, (by show 2 < 1000; decide), ?_⟩
    have k6 : Keep c c H (upd G5 c (.ins C dx (putF "grown" (.ref g) (putF "full" (.ref f) (putF "parents" (.ref p) []))))) := k3.trans ((Keep.of S5).trans keep_upd)
    have c6 : (upd G5 c (.ins C dx (putF "grown" (.ref g) (putF "full" (.ref f) (putF "parents" (.ref p) []))))) c = some (.ins C dx (putF "grown" (.ref g) (putF "full" (.ref f) (putF "parents" (.ref p) [])))) := upd_same
    have b6 : (upd G5 c (.ins C dx (putF "grown" (.ref g) (putF "full" (.ref f) (putF "parents" (.ref p) []))))) b = some (.tup (nv (List.range fs.length))) := by rw [upd_ne bc]; exact S5 _ _ b3
    have f6 : (upd G5 c (.ins C dx (putF "grown" (.ref g) (putF "full" (.ref f) (putF "parents" (.ref p) []))))) f = some (.tup (nv ws)) := by rw [upd_ne fc]; exact S5 _ _ f3
    have g6 : (upd G5 c (.ins C dx (putF "grown" (.ref g) (putF "full" (.ref f) (putF "parents" (.ref p) []))))) g = some (.lst (nv gs)) := by rw [upd_ne gc]; exact g5
    generalize upd G5 c (.ins C dx (putF "grown" (.ref g) (putF "full" (.ref f) (putF "parents" (.ref p) [])))) = G6 at *
    have p6 := seq k6
    refine ⟨.ref p, rfl, p, _, rfl, p6, fun l nl => lc_it (walkT (K := K) (a := p) (xs := nv fs)) (fun k H2 => Same G6 H2 ∧ H2 l = some (.lst (nv ((List.range k).filter fun v => !decide (par fs v = v))))) ⟨same_new nl, upd_same⟩ (fun k H2 _ z => same_seqT z.1 p6) ?_ ?_⟩
    · rintro k x H2 H2' hk ⟨sm, hD⟩ ⟨t, v1, v2, rfl, nt, rfl, z1, z2⟩
      obtain ⟨hk', rfl⟩ := nv_some z2
      cases z1
      have St := same_new (o := .tup [V.int (k : Nat), V.int ((fs.getD k 0 : Nat) : Int)]) nt
      refine ⟨t, _, rfl, SqT.of upd_same, rfl, _, _, rfl, _, _, rfl, rfl, rfl, ?_⟩
      refine ⟨.int ((fs.getD k 0 : Nat) : Int), rfl, .int (k : Nat), rfl, rfl, _, rfl, ite2 (fun h1 => ?_) (fun h1 => iteF ?_)⟩
      · have h1 : par fs k ≠ k := fun y => by
          rw [decide_eq_true (natV_inj.mpr (show fs.getD k 0 = k from y))] at h1
          cases h1
        have hk2 : k < (List.range fs.length).length := by rw [List.length_range]; exact hk'
        have eg : (List.range fs.length).getD k 0 = k := by rw [List.getD_eq_getElem?_getD, List.getElem?_range hk']; rfl
        have bt := SqT.of (K := K) (St _ _ (sm _ _ b6))
        refine ⟨.ref b, rfl, .int (k : Nat), rfl, b, _, k, .int (k : Nat), rfl, rfl, bt, (by have := atI_nat (nv_get hk2); rw [eg] at this; exact this), .int (k : Nat), rfl, rfl, _, rfl, ?_⟩
        rw [decide_eq_true rfl]
        refine iteT ⟨.int (k : Nat), rfl, _, St _ _ hD, ?_, fun b o z => ?_, ?_⟩
        · rw [nv_length]
          exact small1000 (Nat.le_trans (range_filter_le _ _) (by omega))
        · rw [upd_ne (ne_of_none z nl)]
          exact St _ _ (sm _ _ z)
        · rw [upd_same, range_filter_succ, if_pos (by rw [decide_eq_false h1]; rfl), nv_append]
          rfl
      · have h1 : par fs k = k := by
          cases Nat.decEq (par fs k) k with
          | isTrue y => exact y
          | isFalse y => exact absurd (by rw [decide_eq_false (p := V.int ((fs.getD k 0 : Nat) : Int) = V.int (k : Nat)) (fun z => y (natV_inj.mp z))]; rfl) h1
        refine ⟨sm.trans St, ?_⟩
        rw [St _ _ hD, range_filter_succ, if_neg (by rw [decide_eq_true h1]; exact Bool.false_ne_true)]
    · rintro G7 ⟨s7, l7⟩
      rw [nv_length] at l7
      obtain ⟨nlH, lc⟩ := out k6 c6 nl
      have gl : g ≠ l := ne_of_none g6 nl
      refine ⟨.ref c, rfl, c, C, dx, _, rfl, s7 _ _ c6, T.cl, T.nL, (by show 3 < 1000; decide), ?_⟩
      have k8 : Keep c c H (upd G7 c (.ins C dx (putF "lower" (.ref l) (putF "grown" (.ref g) (putF "full" (.ref f) (putF "parents" (.ref p) [])))))) := k6.trans ((Keep.of s7).trans keep_upd)
      have c8 : (upd G7 c (.ins C dx (putF "lower" (.ref l) (putF "grown" (.ref g) (putF "full" (.ref f) (putF "parents" (.ref p) [])))))) c = some (.ins C dx (putF "lower" (.ref l) (putF "grown" (.ref g) (putF "full" (.ref f) (putF "parents" (.ref p) []))))) := upd_same
      have f8 : (upd G7 c (.ins C dx (putF "lower" (.ref l) (putF "grown" (.ref g) (putF "full" (.ref f) (putF "parents" (.ref p) [])))))) f = some (.tup (nv ws)) := by rw [upd_ne fc]; exact s7 _ _ f6
      have g8 : (upd G7 c (.ins C dx (putF "lower" (.ref l) (putF "grown" (.ref g) (putF "full" (.ref f) (putF "parents" (.ref p) [])))))) g = some (.lst (nv gs)) := by rw [upd_ne gc]; exact s7 _ _ g6
      have l8 : (upd G7 c (.ins C dx (putF "lower" (.ref l) (putF "grown" (.ref g) (putF "full" (.ref f) (putF "parents" (.ref p) [])))))) l = some (.lst (nv (lowers fs))) := by rw [upd_ne lc]; exact l7
      generalize upd G7 c (.ins C dx (putF "lower" (.ref l) (putF "grown" (.ref g) (putF "full" (.ref f) (putF "parents" (.ref p) []))))) = G8 at *
      refine ⟨(by show 0 ≤ sizeLine; decide), fun j nj => ?_⟩
      have Sj := same_new (o := .lst []) nj
      obtain ⟨njH, jc⟩ := out k8 c8 nj
      have gj : g ≠ j := ne_of_none g8 nj
      have lj : l ≠ j := ne_of_none l8 nj
      refine ⟨.ref c, rfl, c, C, dx, _, rfl, Sj _ _ c8, T.cl, T.nJ, (by show 4 < 1000; decide), ?_⟩
      have k9 : Keep c c H (upd (upd G8 j (.lst [])) c (.ins C dx (cf p f g l j))) := k8.trans ((Keep.of Sj).trans keep_upd)
      refine q f g l j _ k9 nfH ngH nlH njH ⟨hF, ⟨dx, upd_same⟩, seq k9, ⟨ws, ?_, lw, hws⟩, ⟨gs, ?_, lg, fun v hv => ?_⟩, ?_, ?_, (fun v hv => nomatch hv), List.nodup_nil⟩ gj gl lj
      · rw [upd_ne fc]
        exact Sj _ _ f8
      · rw [upd_ne gc]
        exact Sj _ _ g8
      · rw [hgs v hv, ← wt_single hF hv, List.length_range]
      · rw [upd_ne lc]
        exact Sj _ _ l8
      · rw [upd_ne jc, upd_same]
        rfl
theorem scCAl : FnScope ["self", "vertex"] ["self", "vertex"] (defScope sCAl) := ⟨rfl, rfl, rfl, by decide +kernel, rfl, by decide +kernel, by decide +kernel⟩
theorem ok_CAl (M : MkM K C "allows" "Course.allows" sCAl ["self", "vertex"]) (T : CTx K mg C) : DfM P w K mg base CX0 C 1 "allows" ["self", "vertex"] (spCAl K C) := by
  obtain ⟨f0, fd0, F0, b0, m0⟩ := M
  refine ⟨f0, fd0, F0.ok scCAl (fun vs H Q E h => ?_) (fun cdv A outer s H vs Q E hr h => ?_), b0, m0⟩
  · obtain ⟨c, p, f, g, l, j, fs, S, v, rfl, _⟩ := h
    rfl
  · obtain ⟨c, p, f, g, l, j, fs, S, v, rfl, R, hv, q⟩ := h
    have nd := scCAl.nd
    refine ⟨_, pss_cons (ps_if (PW.pt (pw_or (pt_cmpR op_notIn_seq (pv 1) (pe_fld (pv 0) rfl) (by rfl)) (pw_or1 (pt_cmpR op_in_seq (pv 1) (pe_fld (pv 0) rfl) (by rfl))))) (pss_one (ps_ret pe_bl)) pss_nil)
      (pss_one (ps_ret (pe_and (pe_cmpR op_eq (pe_ix ix_list (pe_fld (pv 0) rfl) (pv 1) (fun _ _ => rfl)) (pe_ix ix_tup (pe_fld (pv 0) rfl) (pv 1) (fun _ _ => rfl)) (nomark _)) (pe_one (pe_cmpR op_le (pe_ix ix_tup (pe_fld (pv 0) rfl) (pv 1) (fun _ _ => rfl)) (pe_ix ix_list (pe_fld (pv 0) rfl) (pe_ix ix_tup (pe_fld (pv 0) rfl) (pv 1) (fun _ _ => rfl)) (fun _ _ => rfl)) (nomark _)))))), ?_⟩
    obtain ⟨dx, hc⟩ := R.ob
    obtain ⟨ws, hf, lw, hws⟩ := R.fu
    obtain ⟨gs, hg, lg, hgs⟩ := R.gr
    have pl := R.F.rng v hv
    have few := R.F.few
    refine ⟨.int (v : Nat), rfl, .ref c, rfl, c, C, dx, _, _, rfl, hc, T.cl, T.nL, cf_l _ _ _ _ _, l, _, rfl, .inl (SqL.of R.lw), rfl, flat_nv _, _, rfl, ?_⟩
    rw [if_pos rfl, in_nv]
    refine ite2 (fun h1 => iteT ?_) (fun h1 => ?_)
    · rw [posB_no fun z => by rw [decide_eq_true (mem_lowers.mpr ⟨z.low, z.lo⟩)] at h1; cases h1] at q
      exact q
    have h1 : par fs v ≠ v := by
      cases Nat.decEq (par fs v) v with
      | isFalse y => exact y
      | isTrue y => exact absurd (by rw [decide_eq_false (fun z => (mem_lowers.mp z).2 y)]; rfl) h1
    refine ⟨.int (v : Nat), rfl, .ref c, rfl, c, C, dx, _, _, rfl, hc, T.cl, T.nJ, cf_j _ _ _ _ _, j, _, rfl, .inl (SqL.of R.jo), rfl, flat_nv _, _, rfl, ?_⟩
    rw [if_neg Bool.false_ne_true, in_nv]
    refine ite2 (fun h2 => ?_) (fun h2 => ?_)
    · rw [posB_no fun z => z.new (of_decide_eq_true h2)] at q
      exact q
    have h2 : v ∉ S := fun z => h2 (decide_eq_true z)
    refine ⟨.ref c, rfl, c, C, dx, _, _, rfl, hc, T.cl, T.nG, cf_g _ _ _ _ _, .int (v : Nat), rfl, g, _, v, _, rfl, rfl, SqL.of hg, atI_nat (nv_get (by omega)), .ref c, rfl, c, C, dx, _, _, rfl, hc, T.cl, T.nF, cf_f _ _ _ _ _, .int (v : Nat), rfl, f, _, v, _, rfl, rfl, SqT.of hf, atI_nat (nv_get (by omega)), rfl, _, rfl, ?_⟩
    rw [hgs v hv, hws v hv]
    refine ite2 (fun h3 => ?_) (fun h3 => ?_)
    · have h3 : grown fs S v = wt fs v := natV_inj.mp (of_decide_eq_true h3)
      refine ⟨.ref c, rfl, c, C, dx, _, _, rfl, hc, T.cl, T.nF, cf_f _ _ _ _ _, .int (v : Nat), rfl, f, _, v, _, rfl, rfl, SqT.of hf, atI_nat (nv_get (by omega)), .ref c, rfl, c, C, dx, _, _, rfl, hc, T.cl, T.nG, cf_g _ _ _ _ _, .ref c, rfl, c, C, dx, _, _, rfl, hc, T.cl, T.nP, cf_p _ _ _ _ _, .int (v : Nat), rfl, p, _, v, .int ((par fs v : Nat) : Int), rfl, rfl, R.pa, atI_nat (nv_get hv), g, _, (par fs v : Nat), _, rfl, rfl, SqL.of hg, atI_nat (nv_get (by omega)), _, _, rfl, rfl, ?_⟩
      rw [hws v hv, hgs _ pl]
      have e : posB fs S v = decide (((wt fs v : Nat) : Int) ≤ ((grown fs S (par fs v) : Nat) : Int)) := by
        rw [Bool.eq_iff_iff, posB_iff, decide_eq_true_iff, Int.ofNat_le]
        exact ⟨fun z => z.fit, fun z => ⟨hv, h1, h2, (grown_all R.F hv).mp h3, z⟩⟩
      rw [e] at q
      exact q
    · rw [posB_no fun z => h3 (decide_eq_true (natV_inj.mpr ((grown_all R.F hv).mpr z.all)))] at q
      exact q
theorem scCTa : FnScope ["self", "vertex"] ["self", "vertex"] (defScope sCTa) := ⟨rfl, rfl, rfl, by decide +kernel, rfl, by decide +kernel, by decide +kernel⟩
theorem ok_CTa (M : MkM K C "take" "Course.take" sCTa ["self", "vertex"]) (T : CTx K mg C) : DfM P w K mg base CX0 C 1 "take" ["self", "vertex"] (spCTa K C) := by
  obtain ⟨f0, fd0, F0, b0, m0⟩ := M
  refine ⟨f0, fd0, F0.ok scCTa (fun vs H Q E h => ?_) (fun cdv A outer s H vs Q E hr h => ?_), b0, m0⟩
  · obtain ⟨c, p, f, g, l, j, fs, S, v, rfl, _⟩ := h
    rfl
  · obtain ⟨c, p, f, g, l, j, fs, S, v, rfl, R, gj, gl, lj, hv, lo, new, q⟩ := h
    refine ⟨_, pss_cons (ps_expr (pe_bm PySem.F.plainAttrs_list PySem.F.slot_list_append PySem.F.type_list_append mt_append (pe_fld (pv 0) rfl) (pa_cons (pv 1) pa_nil)))
      (pss_one (ps_augS (pe_fld (pv 0) rfl) (pe_ix ix_tup (pe_fld (pv 0) rfl) (pv 1) (fun _ _ => rfl)) get_listN (pe_ix ix_tup (pe_fld (pv 0) rfl) (pv 1) (fun _ _ => rfl)) ip_add set_list)), ?_⟩
    obtain ⟨dx, hc⟩ := R.ob
    obtain ⟨ws, hf, lw, hws⟩ := R.fu
    obtain ⟨gs, hg, lg, hgs⟩ := R.gr
    have pl := R.F.rng v hv
    have few := R.few
    have cj : c ≠ j := fun z => by
      have := R.jo
      rw [← z, hc] at this
      cases this
    have cg : c ≠ g := fun z => by
      rw [← z, hc] at hg
      cases hg
    have fj : f ≠ j := fun z => by
      have := R.jo
      rw [← z, hf] at this
      cases this
    have fg : f ≠ g := fun z => by
      rw [← z, hf] at hg
      cases hg
    have seq : ∀ {a : Addr} {xs : List V} {G : Hp}, G a = some (.lst xs) → ∀ {o : List V}, SqT K G p (nv fs) → SqT K (upd G a (.lst o)) p (nv fs) := fun {a xs G} ha o h => by
      rcases h with (h | ⟨u, h⟩) | h
      · exact .inl (.inl (by rw [upd_ne fun z => by rw [z, ha] at h; cases h]; exact h))
      · exact .inl (.inr ⟨u, by rw [upd_ne fun z => by rw [z, ha] at h; cases h]; exact h⟩)
      · exact .inr h
    refine ⟨.ref c, rfl, c, C, dx, _, _, rfl, hc, T.cl, T.nJ, cf_j _ _ _ _ _, .inl ⟨rfl, _, SqL.of R.jo⟩, .int (v : Nat), rfl, j, _, _, rfl, rfl, R.jo, ?_, ?_⟩
    · rw [nv_length]
      exact small1000 (by omega)
    have hc1 : (upd H j (.lst (nv S ++ [.int (v : Nat)]))) c = some (.ins C dx (cf p f g l j)) := by rw [upd_ne cj]; exact hc
    have hf1 : (upd H j (.lst (nv S ++ [.int (v : Nat)]))) f = some (.tup (nv ws)) := by rw [upd_ne fj]; exact hf
    have hg1 : (upd H j (.lst (nv S ++ [.int (v : Nat)]))) g = some (.lst (nv gs)) := by rw [upd_ne gj]; exact hg
    have hj1 : (upd H j (.lst (nv S ++ [.int (v : Nat)]))) j = some (.lst (nv (S ++ [v]))) := by rw [upd_same, nv_append]; rfl
    have hl1 : (upd H j (.lst (nv S ++ [.int (v : Nat)]))) l = some (.lst (nv (lowers fs))) := by rw [upd_ne lj]; exact R.lw
    have hp1 : SqT K (upd H j (.lst (nv S ++ [.int (v : Nat)]))) p (nv fs) := seq R.jo R.pa
    have k1 : Keep g j H (upd H j (.lst (nv S ++ [.int (v : Nat)]))) := fun b o _ h2 e => by rw [upd_ne h2]; exact e
    generalize hG : upd H j (.lst (nv S ++ [.int (v : Nat)])) = G at *
    clear hG
    refine ⟨.ref c, rfl, c, C, dx, _, _, rfl, hc1, T.cl, T.nG, cf_g _ _ _ _ _, .ref c, rfl, c, C, dx, _, _, rfl, hc1, T.cl, T.nP, cf_p _ _ _ _ _, .int (v : Nat), rfl, p, _, v, .int ((par fs v : Nat) : Int), rfl, rfl, hp1, atI_nat (nv_get hv), g, _, par fs v, _, rfl, rfl, SqL.of hg1, nv_get (by omega), .ref c, rfl, c, C, dx, _, _, rfl, hc1, T.cl, T.nF, cf_f _ _ _ _ _, .int (v : Nat), rfl, f, _, v, _, rfl, rfl, SqT.of hf1, atI_nat (nv_get (by omega)), _, _, rfl, rfl, g, _, (par fs v : Nat), par fs v, rfl, rfl, hg1, ?_, ?_⟩
    · unfold ixN
      rw [nv_length, if_pos (by omega), if_pos (by omega), Int.toNat_natCast]
    · refine q _ (k1.trans fun b o h1 _ e => by rw [upd_ne h1]; exact e) ⟨R.F, ⟨dx, by rw [upd_ne cg]; exact hc1⟩, seq hg1 hp1, ⟨ws, by rw [upd_ne fg]; exact hf1, lw, hws⟩, ⟨gs.set (par fs v) (gs.getD (par fs v) 0 + ws.getD v 0), ?_, by rw [List.length_set]; exact lg, fun u hu => ?_⟩, by rw [upd_ne gl.symm]; exact hl1, by rw [upd_ne gj.symm]; exact hj1, fun u hu => ?_, ?_⟩
      · rw [upd_same]
        unfold nv
        rw [List.map_set]
        rfl
      · rw [getD_set (by omega), grown_snoc hv lo new, hws v hv, hgs _ pl]
        by_cases z : u = par fs v
        · rw [if_pos z, if_pos z, z]
        · rw [if_neg z, if_neg z, hgs u hu]
          rfl
      · rcases List.mem_append.mp hu with z | z
        · exact R.low u z
        · rw [List.mem_singleton.mp z]
          exact ⟨hv, lo⟩
      · refine List.nodup_append.mpr ⟨R.nd, List.nodup_cons.mpr ⟨List.not_mem_nil, List.nodup_nil⟩, fun a ha b hb e => ?_⟩
        rw [List.mem_singleton.mp hb] at e
        exact new (e ▸ ha)
end
end Lf
namespace Lf
open PySem PySem.Spec PyProof.Rows L2
/-! ### courses.py: follows, finishes, is_whole -/
abbrev sFollow : Stmt := topS (17)
abbrev sFinish : Stmt := topS (18)
abbrev sWhole : Stmt := topS (19)
theorem nD_inj : ∀ {r s : List Nat}, nD r = nD s → r = s
  | [], [], _ => rfl
  | [], _ :: _, h => by cases h
  | _ :: _, [], h => by cases h
  | x :: r, y :: s, h => by
    obtain ⟨h1, h2⟩ := List.cons.inj (show PyData.int ((x : Nat) : Int) :: nD r = PyData.int ((y : Nat) : Int) :: nD s from h)
    have := PyData.int.inj h1
    rw [nD_inj h2, show x = y by omega]
theorem nD_length (r : List Nat) : (nD r).length = r.length := List.length_map ..
theorem nD_get {r : List Nat} {i : Nat} {d : PyData} (h : (nD r)[i]? = some d) : ∃ v, r[i]? = some v ∧ d = .int ((v : Nat) : Int) := by
  unfold nD at h
  rw [List.getElem?_map] at h
  cases e : r[i]? with
  | none => rw [e] at h; cases h
  | some v => rw [e] at h; exact ⟨v, rfl, (Option.some.inj h).symm⟩
theorem nD_take (r : List Nat) (k : Nat) : nD (r.take k) = (nD r).take k := by
  unfold nD
  rw [List.map_take]
theorem nD_snoc (r : List Nat) (v : Nat) : nD (r ++ [v]) = nD r ++ [.int ((v : Nat) : Int)] := by
  unfold nD
  rw [List.map_append]
  rfl
noncomputable def wholeD (fs : List Nat) (d : PyData) : Bool := @decide (∃ S, d = .tuple (nD S) ∧ Hs fs S) (Classical.propDecidable _)
theorem wholeD_iff {fs : List Nat} {d : PyData} : wholeD fs d = true ↔ ∃ S, d = .tuple (nD S) ∧ Hs fs S := by
  unfold wholeD
  exact @decide_eq_true_iff _ (Classical.propDecidable _)
theorem wholeD_row {fs S : List Nat} : wholeD fs (.tuple (nD S)) = true ↔ Hs fs S := by
  rw [wholeD_iff]
  exact ⟨fun ⟨T, e, h⟩ => by rw [nD_inj (PyData.tuple.inj e)]; exact h, fun h => ⟨S, rfl, h⟩⟩
def spFollow (K : PySem.W.Frag) (C : Addr) : Sp := fun vs H Q _ => ∃ (c p f g l j : Addr) (fs S0 : List Nat) (v : V) (d : PyData), vs = [.ref c, v] ∧ Crs K C H c p f g l j fs S0 ∧ g ≠ j ∧ g ≠ l ∧ l ≠ j ∧ Bg fs S0 ∧ (∀ H', Keep g j H H' → Rp H' v d) ∧
  (∀ (S : List Nat) (H' : Hp), d = .tuple (nD S) → Bg fs (S0 ++ S) → Keep g j H H' → Crs K C H' c p f g l j fs (S0 ++ S) → Q (.bl true) H') ∧
  ((∀ S, d = .tuple (nD S) → ¬ Bg fs (S0 ++ S)) → ∀ (S : List Nat) (H' : Hp), Keep g j H H' → Crs K C H' c p f g l j fs S → Q (.bl false) H')
def spFinish (K : PySem.W.Frag) (C : Addr) : Sp := fun vs H Q _ => ∃ (c p f g l j : Addr) (fs : List Nat) (v : V) (d : PyData), vs = [.ref c, v] ∧ Crs K C H c p f g l j fs [] ∧ g ≠ j ∧ g ≠ l ∧ l ≠ j ∧ (∀ H', Keep g j H H' → Rp H' v d) ∧ ∀ (H' : Hp), Keep g j H H' → Q (.bl (wholeD fs d)) H'
def spWhole : Sp := fun vs H Q _ => ∃ (p : Addr) (fs : List Nat) (v : V) (d : PyData), vs = [.ref p, v] ∧ H p = some (.tup (nv fs)) ∧ Forest fs ∧ Rp H v d ∧ ∀ H', Same H H' → Q (.bl (wholeD fs d)) H'
section
variable {P : Program} {w : World} {K : PySem.W.Frag} {mg : Str → Option Value} {base : Heap} {C : Addr}
theorem scFollow : FnScope ["course", "value", "item"] ["course", "value"] (defScope sFollow) := ⟨rfl, rfl, rfl, by decide +kernel, rfl, by decide +kernel, by decide +kernel⟩
theorem ok_follows (M : Mk K mg "follows" sFollow ["course", "value"]) (T : CTx K mg C) (dA : DfM P w K mg base CX0 C 1 "allows" ["self", "vertex"] (spCAl K C)) (dT : DfM P w K mg base CX0 C 1 "take" ["self", "vertex"] (spCTa K C)) (dV : Df P w K mg base CX0 2 "is_vertex" ["n", "value"] spIV)
    (mi : mg "isinstance" = none) (mT : mg "tuple" = none) (ml : mg "len" = none) : Df P w K mg base CX0 3 "follows" ["course", "value"] (spFollow K C) := by
  obtain ⟨f0, fd0, F, b, g0⟩ := M
  obtain ⟨fA, fdA, GA, bA, mA⟩ := dA
  obtain ⟨fT, fdT, GT, bT, mTk⟩ := dT
  refine Df.of F b g0 (F.ok scFollow (fun vs H Q E h => ?_) (fun cdv A outer s H vs Q E hr h => ?_))
  · obtain ⟨c, p, f, g, l, j, fs, S0, v, d, rfl, _⟩ := h
    rfl
  · obtain ⟨c, p, f, g, l, j, fs, S0, v, d, rfl, R0, gj, gl, lj, b0, rp, qY, qN⟩ := h
    have nd := scFollow.nd
    have hr1 : Room 1 _ := hr.mono (by decide)
    refine ⟨_, pss_cons (ps_if (pt_not (pt_val (pe_callB call_isi (by rfl) mi (by decide +kernel) (pa_cons (pv 1) (pa_cons (pe_bltn (v := .ty "tuple") rfl mT (by decide +kernel) rfl) pa_nil))))) (pss_one (ps_ret pe_bl)) pss_nil)
      (pss_cons (ps_for PassesOwn.never rfl (pi_tup (pv 1)) (pg_name (i := 2) nd rfl (.inl rfl))
        (pss_cons (ps_if (PW.pt (pw_or (pt_not (pt_val (pe_d dV hr (pa_cons (pe_callB call_len_seq (by rfl) ml PySem.boot_len (pa_cons (pe_fld (pv 0) rfl) pa_nil)) (pa_cons (pv 2) pa_nil))))) (pw_or1 (pt_not (pt_val (pe_meth (pv 0) T.cl mA GA hr1 bA .nil pass0 (pa_cons (pv 2) pa_nil))))))) (pss_one (ps_ret pe_bl)) pss_nil)
        (pss_one (ps_expr (pe_meth (pv 0) T.cl mTk GT hr1 bT .nil pass0 (pa_cons (pv 2) pa_nil))))))
      (pss_one (ps_ret pe_bl))), ?_⟩
    have rp0 := rp H (Keep.of (Same.refl H))
    refine ⟨v, rfl, v, .ty "tuple", _, .type "tuple", _, rfl, .ty _, rp0.ty, m3_kit d, _, rfl, ?_⟩
    cases e0 : kdT d with
    | false =>
      refine iteT (qN (fun S e => ?_) S0 H (Keep.of (Same.refl H)) R0)
      rw [e] at e0
      cases e0
    | true =>
      obtain ⟨ds, rfl⟩ := kdT_of e0
      obtain ⟨t, xs, o, rfl, h0, no, hG, rx⟩ : ∃ (t : Addr) (xs : List V) (o : HO), v = .ref t ∧ H t = some o ∧ (∀ ys, o ≠ .lst ys) ∧ (∀ G, G t = some o → SqT K G t xs ∧ (Rp G (.ref t) (.tuple ds) → RpAll G xs ds)) ∧ RpAll H xs ds := by
        cases rp0 with
        | tup e q =>
          exact ⟨_, _, _, rfl, e, fun _ z => (nomatch z), fun G eG => ⟨SqT.of eG, fun r => by
            cases r with
            | tup e' q' => rw [eG] at e'; cases e'; exact q'
            | ftp e' q' => rw [eG] at e'; cases e'⟩, q⟩
        | ftp e q =>
          exact ⟨_, _, _, rfl, e, fun _ z => (nomatch z), fun G eG => ⟨.inl (.inr ⟨_, eG⟩), fun r => by
            cases r with
            | tup e' q' => rw [eG] at e'; cases e'
            | ftp e' q' => rw [eG] at e'; cases e'; exact q'⟩, q⟩
      have ht := (hG H h0).1
      have tup : ∀ G, Keep g j H G → SqT K G t xs ∧ ∀ (i : Nat) (x : V), xs[i]? = some x → ∃ d, ds[i]? = some d ∧ Rp G x d := fun G kG => by
        obtain ⟨gs, hg, _⟩ := R0.gr
        have e1 : G t = some o := kG _ _ (fun z => by rw [z, hg] at h0; exact no _ (Option.some.inj h0).symm) (fun z => by rw [z, R0.jo] at h0; exact no _ (Option.some.inj h0).symm) h0
        exact ⟨(hG G e1).1, fun i x hx => ((hG G e1).2 (rp G kG)).get hx⟩
      refine iteF ⟨.ref t, rfl, t, rfl, ⟨_, ht⟩, for_tup (K := K) (a := t) (xs := xs) (fun i σ G => ∃ (S : List Nat) (c3 : Option V), σ = [some (.ref c), some (.ref t), c3] ∧ Keep g j H G ∧ Crs K C G c p f g l j fs (S0 ++ S) ∧ ds.take i = nD S ∧ Bg fs (S0 ++ S)) ⟨[], none, rfl, Keep.of (Same.refl H), by rw [List.append_nil]; exact R0, rfl, by rw [List.append_nil]; exact b0⟩ (fun i σ G _ ⟨_, _, _, z, _⟩ => (tup G z).1) ?_ ?_⟩
      · rintro i x σ G hx ⟨S, c3, rfl, kG, R, eS, bS⟩
        obtain ⟨d, hd, rd⟩ := (tup G kG).2 i x hx
        have bad : (∀ m : Nat, d = .int (m : Nat) → m < fs.length → ¬ Can fs (S0 ++ S) m) → ∀ S', PyData.tuple ds = .tuple (nD S') → ¬ Bg fs (S0 ++ S') := fun h S' e b' => by
          have e := PyData.tuple.inj e
          rw [e] at hd
          obtain ⟨m, em, rfl⟩ := nD_get hd
          have p' := b'.at (k := S0.length + i) (v := m) (by rw [List.getElem?_append_right (by omega), show S0.length + i - S0.length = i from by omega]; exact em)
          have : S'.take i = S := nD_inj (by rw [nD_take, ← e, eS])
          rw [List.take_length_add_append, this] at p'
          exact h m rfl p'.low p'
        obtain ⟨dx', hc⟩ := R.ob
        refine ⟨.ref c, rfl, c, C, dx', _, _, rfl, hc, T.cl, T.nP, cf_p _ _ _ _ _, p, _, rfl, .inr R.pa, x, rfl, (nv fs).length, x, d, rfl, rd, _, rfl, ?_⟩
        rw [nv_length]
        cases z : isV fs.length d with
        | false =>
          refine iteT (iteT (qN (bad fun m em hm => ?_) _ G kG R))
          rw [em, isV_nat hm] at z
          cases z
        | true =>
          obtain ⟨m, rfl, hm⟩ := isV_int z
          cases rd
          refine iteF ⟨.ref c, rfl, c, dx', _, rfl, hc, cf_no _ _ _ _ _ (by decide +kernel) (by decide +kernel) (by decide +kernel) (by decide +kernel) (by decide +kernel), .int (m : Nat), rfl, c, p, f, g, l, j, fs, S0 ++ S, m, rfl, R, hm, _, rfl, ?_⟩
          cases y : posB fs (S0 ++ S) m with
          | false =>
            refine iteT (qN (bad fun m' em hm' pm => ?_) _ G kG R)
            have : m = m' := by have := PyData.int.inj em; omega
            subst this
            rw [posB_iff.mpr pm] at y
            cases y
          | true =>
            have pm := posB_iff.mp y
            refine iteF ⟨.ref c, rfl, c, dx', _, rfl, hc, cf_no _ _ _ _ _ (by decide +kernel) (by decide +kernel) (by decide +kernel) (by decide +kernel) (by decide +kernel), .int (m : Nat), rfl, c, p, f, g, l, j, fs, S0 ++ S, m, rfl, R, gj, gl, lj, hm, pm.lo, pm.new, fun G' k' R' => ?_⟩
            refine ⟨S ++ [m], _, rfl, kG.trans k', by rw [← List.append_assoc]; exact R', ?_, by rw [← List.append_assoc]; exact bS.snoc pm⟩
            rw [take_snoc hd, eS, nD_snoc]
      · rintro σ G ⟨S, c3, rfl, kG, R, eS, bS⟩
        rw [rx.length, List.take_length] at eS
        exact qY S G (by rw [eS]) bS kG R
theorem scFinish : FnScope ["course", "value"] ["course", "value"] (defScope sFinish) := ⟨rfl, rfl, rfl, by decide +kernel, rfl, by decide +kernel, by decide +kernel⟩
theorem ok_finishes (M : Mk K mg "finishes" sFinish ["course", "value"]) (T : CTx K mg C) (dF : Df P w K mg base CX0 3 "follows" ["course", "value"] (spFollow K C)) (ml : mg "len" = none) : Df P w K mg base CX0 4 "finishes" ["course", "value"] (spFinish K C) := by
  obtain ⟨f0, fd0, F, b, g0⟩ := M
  refine Df.of F b g0 (F.ok scFinish (fun vs H Q E h => ?_) (fun cdv A outer s H vs Q E hr h => ?_))
  · obtain ⟨c, p, f, g, l, j, fs, v, d, rfl, _⟩ := h
    rfl
  · obtain ⟨c, p, f, g, l, j, fs, v, d, rfl, R0, gj, gl, lj, rp, q⟩ := h
    refine ⟨_, pss_one (ps_ret (pe_and (pe_d dF hr (pa_cons (pv 0) (pa_cons (pv 1) pa_nil))) (pe_one (pe_cmpR op_eq (pe_callB call_len_seq (by rfl) ml PySem.boot_len (pa_cons (pe_fld (pv 0) rfl) pa_nil)) (pe_callB call_len_seq (by rfl) ml PySem.boot_len (pa_cons (pe_fld (pv 0) rfl) pa_nil)) (nomark _))))), ?_⟩
    refine ⟨.ref c, rfl, v, rfl, c, p, f, g, l, j, fs, [], v, d, rfl, R0, gj, gl, lj, .nil, rp, fun S H1 ed bS k1 R => ?_, fun no S H1 k1 R => ?_⟩
    · obtain ⟨dx, hc⟩ := R.ob
      rw [List.nil_append] at bS
      have jo : H1 j = some (.lst (nv S)) := R.jo
      refine ⟨_, rfl, iteT ⟨.ref c, rfl, c, C, dx, _, _, rfl, hc, T.cl, T.nJ, cf_j _ _ _ _ _, j, _, rfl, .inl (SqL.of jo), .ref c, rfl, c, C, dx, _, _, rfl, hc, T.cl, T.nL, cf_l _ _ _ _ _, l, _, rfl, .inl (SqL.of R.lw), rfl, ?_⟩⟩
      rw [nv_length, nv_length]
      have e : wholeD fs d = decide (V.int (S.length : Int) = V.int (((lowers fs).length : Nat) : Int)) := by
        rw [ed, Bool.eq_iff_iff, wholeD_row, decide_eq_true_iff, natV_inj]
        exact ⟨fun h => h.2, fun h => ⟨bS, h⟩⟩
      have := q H1 k1
      rw [e] at this
      exact this
    · have e : wholeD fs d = false := by
        cases z : wholeD fs d with
        | false => rfl
        | true =>
          obtain ⟨S, h1, h2⟩ := wholeD_iff.mp z
          exact absurd h2.1 (no S h1)
      have := q H1 k1
      rw [e] at this
      exact ⟨_, rfl, iteF this⟩
theorem scWhole : FnScope ["forest", "value"] ["forest", "value"] (defScope sWhole) := ⟨rfl, rfl, rfl, by decide +kernel, rfl, by decide +kernel, by decide +kernel⟩
theorem ok_whole (M : Mk K mg "is_whole" sWhole ["forest", "value"]) (T : CTx K mg C) (dI : DfI P w K mg base CX0 C 6 ["self", "parents", "start"] [.non] (spCI K C)) (dF : Df P w K mg base CX0 4 "finishes" ["course", "value"] (spFinish K C)) : Df P w K mg base CX0 9 "is_whole" ["forest", "value"] spWhole := by
  obtain ⟨f0, fd0, F, b, g0⟩ := M
  obtain ⟨fI, fdI, dsI, GI, vI, bI, mI⟩ := dI
  refine Df.of F b g0 (F.ok scWhole (fun vs H Q E h => ?_) (fun cdv A outer s H vs Q E hr h => ?_))
  · obtain ⟨p, fs, v, d, rfl, _⟩ := h
    rfl
  · obtain ⟨p, fs, v, d, rfl, hp, hF, rp, q⟩ := h
    have hr7 : Room 7 _ := hr.mono (by decide)
    refine ⟨_, pss_one (ps_ret (pe_d dF hr (pa_cons (pe_make mI GI hr7 (by rfl) T.mgC bI vI pass0 (pa_cons (pv 0) pa_nil)) (pa_cons (pv 1) pa_nil)))), ?_⟩
    refine ⟨.ref p, rfl, fun c dx nc ndx ncd => ?_⟩
    have Sx : Same H (upd (upd H dx (.own c)) c (.ins C dx [])) := fun a o z => by
      rw [upd_ne (ne_of_none z nc), upd_ne (ne_of_none z ndx)]
      exact z
    refine ⟨c, dx, p, fs, rfl, upd_same, SqT.of (Sx _ _ hp), fun z => ?_, hF, fun f g l j G kG nf ng nl nj R gj gl lj => ⟨rfl, ?_⟩⟩
    · rw [z, hp] at nc
      cases nc
    have sG : Same H G := fun a o z => by
      have ac : a ≠ c := ne_of_none z nc
      exact kG _ _ ac ac (Sx _ _ z)
    have ngH := Sx.free ng
    have njH := Sx.free nj
    have all : ∀ G', Keep g j G G' → Same H G' := fun G' k' a o z => k' _ _ (ne_of_none z ngH) (ne_of_none z njH) (sG _ _ z)
    exact ⟨v, rfl, c, p, f, g, l, j, fs, v, d, rfl, R, gj, gl, lj, fun G' k' => rp.mono (all G' k'), fun G' k' => q G' (all G' k')⟩
end
end Lf
namespace Lf
open PySem PySem.Spec PyProof.Rows L2
/-! ### builds.py: heavy_children, is_built -/
abbrev sHeavyC : Stmt := topS (28)
abbrev sBuilt : Stmt := topS (29)
theorem kidsL_eq (fs : List Nat) (x : Nat) : kidsL fs x = kids fs x := by
  unfold kidsL kids
  refine List.filter_congr fun u _ => ?_
  by_cases h : par fs u = x
  · subst h
    rfl
  · rw [decide_eq_false h]
    rfl
noncomputable def hvB (fs : List Nat) (c : Nat) : Bool := @decide (Heavy fs c) (Classical.propDecidable _)
theorem hvB_iff {fs : List Nat} {c : Nat} : hvB fs c = true ↔ Heavy fs c := by
  unfold hvB
  exact @decide_eq_true_iff _ (Classical.propDecidable _)
noncomputable def heavyL (fs : List Nat) : List Nat := (List.range fs.length).filter (hvB fs)
theorem mem_heavyL {fs : List Nat} {c : Nat} : c ∈ heavyL fs ↔ Heavy fs c := by
  unfold heavyL
  rw [List.mem_filter, List.mem_range, hvB_iff]
  exact ⟨fun h => h.2, fun h => ⟨h.1, h⟩⟩
theorem nvI (l : List Nat) : nv l = (l.map fun x => ((x : Nat) : Int)).map V.int := by
  unfold nv
  rw [List.map_map]
  rfl
theorem sumI : ∀ l : List Nat, (l.map fun x => ((x : Nat) : Int)).sum = ((l.sum : Nat) : Int)
  | [] => rfl
  | x :: l => by
    have := sumI l
    simp only [List.map_cons, List.sum_cons]
    omega
/-- the weights of the children of x that are lighter than w -/
noncomputable def lighterL (fs : List Nat) (x w : Nat) (ds : List Nat) : List Nat := (ds.filter fun d => decide (wt fs d < w)).map (wt fs)
theorem heavy_sum {fs : List Nat} {c : Nat} : (Heavy fs c) ↔ c < fs.length ∧ par fs c ≠ c ∧ 1 + (lighterL fs (par fs c) (wt fs c) (kids fs (par fs c))).sum < wt fs c := by
  unfold Heavy lighterL
  rw [filter_sum]
  have e : ((kids fs (par fs c)).map fun d => if wt fs d < wt fs c then wt fs d else 0).sum = ((kids fs (par fs c)).map fun d => if decide (wt fs d < wt fs c) = true then wt fs d else 0).sum := sum_congr fun d _ => by
    by_cases z : wt fs d < wt fs c
    · rw [if_pos z, if_pos (decide_eq_true z)]
    · rw [if_neg z, if_neg (fun y => z (of_decide_eq_true y))]
  rw [e]
def spHeavyC (K : PySem.W.Frag) : Sp := fun vs H Q _ => ∃ (p : Addr) (fs : List Nat), vs = [.ref p] ∧ SqT K H p (nv fs) ∧ Forest fs ∧ ∀ (q : Addr) (H' : Hp), Same H H' → H' q = some (.tup (nv (heavyL fs))) → Q (.ref q) H'
def spBuilt (K : PySem.W.Frag) : Sp := fun vs H Q _ => ∃ (p : Addr) (fs : List Nat), vs = [.ref p] ∧ SqT K H p (nv fs) ∧ Forest fs ∧ ∀ (H' : Hp), Same H H' → Q (.bl (heavyL fs).isEmpty) H'
theorem nv_empty (l : List Nat) : (nv l).isEmpty = l.isEmpty := by cases l <;> rfl
section
variable {P : Program} {w : World} {K : PySem.W.Frag} {mg : Str → Option Value} {base : Heap}
abbrev NHC : List Str := ["forest", "loads", "heavy", "child", "parent", "lighter", "other"]
theorem scHeavyC : FnScope NHC ["forest"] (defScope sHeavyC) := ⟨rfl, rfl, rfl, by decide +kernel, rfl, by decide +kernel, by decide +kernel⟩
theorem ok_heavyC {C : Addr} (M : Mk K mg "heavy_children" sHeavyC ["forest"]) (dW : Df P w K mg base CX0 5 "weights" ["forest"] (spWeights K)) (dK : Df P w K mg base (L2.CX P w) 4 "children_of" ["forest", "vertex"] (spKidsX K C)) (me : mg "enumerate" = none) (ms : mg "sum" = none) (mT : mg "tuple" = none) :
    Df P w K mg base CX0 6 "heavy_children" ["forest"] (spHeavyC K) := by
  obtain ⟨f, fd, F, b, g⟩ := M
  refine Df.of F b g (F.ok scHeavyC (fun vs H Q E h => ?_) (fun cdv A outer s H vs Q E hr h => ?_))
  · obtain ⟨p, fs, rfl, _⟩ := h
    rfl
  · obtain ⟨p, fs, rfl, hp, hF, q⟩ := h
    have nd := scHeavyC.nd
    refine ⟨_, pss_cons (ps_set (i := 1) nd rfl (.inr rfl) (pe_d dW hr (pa_cons (pv 0) pa_nil)))
      (pss_cons (ps_set (i := 2) nd rfl (.inl rfl) (pe_lst pa_nil))
      (pss_cons (ps_for PassesOwn.never rfl (pi_enumT (by rfl) me (pa_cons (pv 0) pa_nil)) (pg_tup rfl (pgs_cons (pg_name (i := 3) nd rfl (.inr rfl)) (pgs_cons (pg_name (i := 4) nd rfl (.inl rfl)) pgs_nil)))
        (pss_cons (ps_setLc (i := 5) (own := [("other", 6)]) (g := gName 6) (tt := tTest (tOp (rI0 fun i j => .bl (decide (i < j))) (tOp (rIxT K) (tVar 1) (tVar 6)) (tOp (rIxT K) (tVar 1) (tVar 3)))) (te := tOp (rIxT K) (tVar 1) (tVar 6)) (by rfl) nd rfl rfl (sw_true rfl rfl rfl rfl)
            (pi_tup (pe_dD dK passL hr (pa_cons (pv 0) (pa_cons (pv 4) pa_nil)))) (blkOk_by (own := [("other", 6)]) (N := NHC) (sc := defScope sHeavyC) (by decide +kernel)) (fun _ _ _ _ _ => pg_name (i := 6) nd rfl (Or.inl rfl))
            (fun _ _ _ _ _ => pts_one (pt_cmpR op_lt (pe_ix ix_tup (pv 1) (pv 6) (fun _ _ => rfl)) (pe_ix ix_tup (pv 1) (pv 3) (fun _ _ => rfl)) (nomark _))) (fun _ _ _ _ _ => pe_ix ix_tup (pv 1) (pv 6) (fun _ _ => rfl)))
        (pss_one (ps_if (PW.pt (pw_and (pt_cmpR op_ne (pv 3) (pv 4) (nomark _)) (pw_and1 (pt_cmpR op_gt (pe_ix ix_tup (pv 1) (pv 3) (fun _ _ => rfl)) (pe_op op_add pe_int (pe_callB (cr_sum rfl) (by rfl) ms (by decide +kernel) (pa_cons (pv 5) pa_nil))) (nomark _)))))
          (pss_one (ps_expr (pe_bm PySem.F.plainAttrs_list PySem.F.slot_list_append PySem.F.type_list_append mt_append (pv 2) (pa_cons (pv 3) pa_nil)))) pss_nil))))
      (pss_one (ps_ret (pe_callTy call_tuple_of (by rfl) mT (by decide +kernel) (pa_cons (pv 2) pa_nil)))))), ?_⟩
    have few := hF.few
    refine ⟨.ref p, rfl, p, fs, rfl, hp, hF, fun ws qw H1 s1 lw hws nqw hqw => ⟨(by show 0 ≤ sizeLine; decide), fun hq nhq => ?_⟩⟩
    have S2 := same_new (o := .lst []) nhq
    have S02 := s1.trans S2
    have nhqH : H hq = none := s1.free nhq
    refine ⟨.ref p, rfl, p, _, rfl, same_seqT S02 hp, for_it (walkT (K := K) (a := p) (xs := nv fs)) (fun k σ G => ∃ c3 c4 c5 : Option V, σ = [some (.ref p), some (.ref qw), some (.ref hq), c3, c4, c5, none] ∧ Same H1 G ∧ G hq = some (.lst (nv ((List.range k).filter (hvB fs)))))
      ⟨none, none, none, rfl, S2, upd_same⟩ (fun k σ G _ ⟨_, _, _, _, z, _⟩ => same_seqT (s1.trans z) hp) ?_ ?_⟩
    · rintro k x σ G G' hk ⟨c3, c4, c5, rfl, sG, hG⟩ ⟨t, v1, v2, rfl, nt, rfl, z1, z2⟩
      obtain ⟨hk', rfl⟩ := nv_some z2
      cases z1
      have St := same_new (o := .tup [V.int (k : Nat), V.int ((fs.getD k 0 : Nat) : Int)]) nt
      have pk : par fs k < fs.length := hF.rng k hk'
      refine ⟨t, _, rfl, SqT.of upd_same, rfl, _, _, rfl, _, _, rfl, rfl, ?_⟩
      have sGt := sG.trans St
      have hGt := St _ _ hG
      generalize hGG : upd G t (.tup [V.int (k : Nat), V.int ((fs.getD k 0 : Nat) : Int)]) = Gt at *
      clear hGG
      have epar : fs.getD k 0 = par fs k := rfl
      rw [epar]
      refine ⟨.ref p, rfl, .int ((par fs k : Nat) : Int), rfl, p, fs, .int ((par fs k : Nat) : Int), .int ((par fs k : Nat) : Int), rfl, same_seqT (s1.trans sGt) hp, hF, .int _, fun y ey hy qk G2 s2 nq hqk => ?_, fun z => ?_⟩
      · have ey : par fs k = y := by have := PyData.int.inj ey; omega
        subst ey
        rw [kidsL_eq] at hqk
        refine ⟨qk, rfl, ⟨_, SqT.of hqk⟩, fun D nD9 => lc_tup (K := K) (a := qk) (xs := nv (kids fs (par fs k))) (fun j G3 => Same G2 G3 ∧ G3 D = some (.lst (nv (lighterL fs (par fs k) (wt fs k) ((kids fs (par fs k)).take j))))) ⟨same_new nD9, upd_same⟩ (fun j G3 _ z => SqT.of (z.1 _ _ hqk)) ?_ ?_⟩
        · rintro j x G3 hx ⟨s3, hD⟩
          obtain ⟨hj, rfl⟩ := nv_some hx
          have ed : (kids fs (par fs k))[j]? = some ((kids fs (par fs k)).getD j 0) := by rw [List.getD_eq_getElem?_getD, List.getElem?_eq_getElem hj]; rfl
          generalize (kids fs (par fs k)).getD j 0 = d at *
          have dl := (mem_kids.mp (List.mem_of_getElem? ed)).1
          have hqw3 := s3 _ _ (s2 _ _ (sGt _ _ hqw))
          have step : lighterL fs (par fs k) (wt fs k) ((kids fs (par fs k)).take (j + 1)) = lighterL fs (par fs k) (wt fs k) ((kids fs (par fs k)).take j) ++ (if wt fs d < wt fs k then [wt fs d] else []) := by
            unfold lighterL
            rw [take_snoc ed, List.filter_append, List.map_append]
            by_cases z : wt fs d < wt fs k
            · rw [List.filter_cons_of_pos (p := fun d => decide (wt fs d < wt fs k)) (decide_eq_true z), if_pos z]; rfl
            · rw [List.filter_cons_of_neg (p := fun d => decide (wt fs d < wt fs k)) (fun y => z (of_decide_eq_true y)), if_neg z]; rfl
          refine ⟨rfl, .ref qw, rfl, .int (d : Nat), rfl, qw, _, d, _, rfl, rfl, SqT.of hqw3, atI_nat (nv_get (by omega)), .ref qw, rfl, .int (k : Nat), rfl, qw, _, k, _, rfl, rfl, SqT.of hqw3, atI_nat (nv_get (by omega)), _, _, rfl, rfl, _, rfl, ite2 (fun h1 => ?_) (fun h1 => ?_)⟩
          · have h1 : wt fs d < wt fs k := by
              have h1 := of_decide_eq_true h1
              rw [hws d dl, hws k hk'] at h1
              exact Int.ofNat_lt.mp h1
            refine ⟨.ref qw, rfl, .int (d : Nat), rfl, qw, _, d, _, rfl, rfl, SqT.of hqw3, atI_nat (nv_get (by omega)), _, hD, ?_, fun c o z => ?_, ?_⟩
            · rw [nv_length]
              unfold lighterL
              rw [List.length_map]
              refine small1000 (Nat.le_trans (List.length_filter_le _ _) ?_)
              rw [List.length_take]
              have : (kids fs (par fs k)).length ≤ fs.length := range_filter_le _ _
              omega
            · rw [upd_ne (ne_of_none z nD9)]
              exact s3 _ _ z
            · rw [upd_same, step, if_pos h1, nv_append, hws d dl]
              rfl
          · refine ⟨s3, ?_⟩
            rw [step, if_neg (fun z => h1 (decide_eq_true ?_)), List.append_nil]
            · exact hD
            · rw [hws d dl, hws k hk']
              exact Int.ofNat_lt.mpr z
        · rintro G3 ⟨s3, hD⟩
          rw [nv_length, List.take_length] at hD
          have S13 := sGt.trans (s2.trans s3)
          have hG3 := s3 _ _ (s2 _ _ hGt)
          have stay : ¬ Heavy fs k → G3 hq = some (.lst (nv ((List.range (k + 1)).filter (hvB fs)))) := fun z => by
            rw [range_filter_succ, if_neg (fun y => z (hvB_iff.mp y))]
            exact hG3
          refine ⟨.int (k : Nat), rfl, .int ((par fs k : Nat) : Int), rfl, rfl, _, rfl, ite2 (fun h1 => ?_) (fun h1 => iteF ⟨_, _, _, rfl, S13, stay fun z => z.2.1 (nat_eq h1).symm⟩)⟩
          have h1 : k ≠ par fs k := nat_ne h1
          refine ⟨.ref qw, rfl, .int (k : Nat), rfl, qw, _, k, _, rfl, rfl, SqT.of (S13 _ _ hqw), atI_nat (nv_get (by omega)), .ref D, rfl, D, (lighterL fs (par fs k) (wt fs k) (kids fs (par fs k))).map (fun x => ((x : Nat) : Int)), rfl, by rw [← nvI]; exact SqL.of hD, _, _, rfl, rfl, _, _, rfl, rfl, _, rfl, ?_⟩
          rw [sumI, hws k hk']
          refine ite2 (fun h2 => ?_) (fun h2 => ?_)
          · have h2 := of_decide_eq_true h2
            have hv : Heavy fs k := heavy_sum.mpr ⟨hk', fun e => h1 e.symm, by show 1 + _ < cnt fs k fs.length; omega⟩
            refine ⟨.ref hq, rfl, .inl ⟨rfl, _, SqL.of hG3⟩, .int (k : Nat), rfl, hq, _, _, rfl, rfl, hG3, ?_, _, _, _, rfl, fun c o z => ?_, ?_⟩
            · rw [nv_length]
              exact small1000 (Nat.le_trans (range_filter_le _ _) (by omega))
            · rw [upd_ne (ne_of_none z nhq)]
              exact S13 _ _ z
            · rw [upd_same, range_filter_succ, if_pos (hvB_iff.mpr hv), nv_append]
              rfl
          · refine ⟨_, _, _, rfl, S13, stay fun z => h2 (decide_eq_true ?_)⟩
            have := (heavy_sum.mp z).2.2
            have this : 1 + _ < cnt fs k fs.length := this
            omega
      · rw [isV_nat pk] at z
        cases z
    · rintro σ G ⟨c3, c4, c5, rfl, sG, hG⟩
      rw [nv_length] at hG
      exact ⟨.ref hq, rfl, hq, _, rfl, .inl ⟨SqL.of hG, fun p9 n9 => q p9 _ (s1.trans (sG.trans (same_new n9))) upd_same⟩⟩
theorem scBuilt : FnScope ["forest"] ["forest"] (defScope sBuilt) := ⟨rfl, rfl, rfl, by decide +kernel, rfl, by decide +kernel, by decide +kernel⟩
theorem ok_built (M : Mk K mg "is_built" sBuilt ["forest"]) (dH : Df P w K mg base CX0 6 "heavy_children" ["forest"] (spHeavyC K)) : Df P w K mg base CX0 7 "is_built" ["forest"] (spBuilt K) := by
  obtain ⟨f, fd, F, b, g⟩ := M
  refine Df.of F b g (F.ok scBuilt (fun vs H Q E h => ?_) (fun cdv A outer s H vs Q E hr h => ?_))
  · obtain ⟨p, fs, rfl, _⟩ := h
    rfl
  · obtain ⟨p, fs, rfl, hp, hF, q⟩ := h
    refine ⟨_, pss_one (ps_ret (pe_cmpR (op_eqE hr.units0) (pe_d dH hr (pa_cons (pv 0) pa_nil)) (pe_tup pa_nil) (nomark _))), ?_⟩
    refine ⟨.ref p, rfl, p, fs, rfl, hp, hF, fun q1 H1 s1 h1 => ⟨(by show 0 ≤ sizeLine; decide), fun t nt => ⟨q1, t, _, rfl, rfl, SqT.of (same_new nt _ _ h1), upd_same, ?_⟩⟩⟩
    rw [nv_empty]
    exact q _ (s1.trans (same_new nt))
end
end Lf
namespace Lf
open PySem PySem.Spec PyProof.Rows L2
/-! ### builds.py: run_joins, certificate_holds -/
abbrev sRun : Stmt := topS (27)
abbrev sRunB : Stmt := topS (26)
abbrev sCert : Stmt := topS (30)
def jA : PyData → Nat
  | .tuple [a, _] => unD a
  | _ => 0
def jB : PyData → Nat
  | .tuple [_, b] => unD b
  | _ => 0
noncomputable def runJ (fs : List Nat) : List PyData → Nat → Option Nat × List Nat
  | [], _ => (none, fs)
  | d :: ds, i => if lawJn fs d = true then runJ (fs.set (jA d) (jB d)) ds (i + 1) else (some i, fs)
def spRun (K : PySem.W.Frag) (C : Addr) : Sp := fun vs H Q E => ∃ (n : Nat) (v : V) (d : PyData), vs = [.int (n : Nat), v] ∧ 0 < n ∧ n ≤ 24 ∧ Rp H v d ∧
  (∀ ds, d = .tuple ds → (runJ (List.range n) ds 0).1 = none → ∀ (q : Addr) (H' : Hp), Same H H' → H' q = some (.tup (nv (runJ (List.range n) ds 0).2)) → Q (.ref q) H') ∧
  (∀ ds i, d = .tuple ds → (runJ (List.range n) ds 0).1 = some i → OutF "index" C H (.int ((i : Nat) : Int)) E) ∧ ((∀ ds, d ≠ .tuple ds) → OutF "index" C H .non E)
def spRunB (K : PySem.W.Frag) (C fJ : Addr) : Sp := fun vs H Q E => ∃ (n : Nat) (v : V) (d : PyData), vs = [.ref fJ, .int (n : Nat), v] ∧ 0 < n ∧ n ≤ 24 ∧ Rp H v d ∧
  (∀ ds, d = .tuple ds → (runJ (List.range n) ds 0).1 = none → ∀ (q : Addr) (H' : Hp), Same H H' → H' q = some (.tup (nv (runJ (List.range n) ds 0).2)) → Q (.ref q) H') ∧
  (∀ ds i, d = .tuple ds → (runJ (List.range n) ds 0).1 = some i → OutF "index" C H (.int ((i : Nat) : Int)) E) ∧ ((∀ ds, d ≠ .tuple ds) → OutF "index" C H .non E)
noncomputable def certS (fs : List Nat) (word : Str) (d : PyData) : Bool := if word = Str.ofString "history" then wholeD fs d else if word = Str.ofString "heavy" then isV fs.length d && decide (unD d ∈ heavyL fs) else false
def spCert : Sp := fun vs H Q _ => ∃ (p t : Addr) (fs : List Nat) (word : Str) (v : V) (d : PyData), vs = [.ref p, .ref t] ∧ H p = some (.tup (nv fs)) ∧ Forest fs ∧ H t = some (.tup [.str word, v]) ∧ Rp H v d ∧ ∀ H', Same H H' → Q (.bl (certS fs word d)) H'
theorem rp_nth {H : Hp} {xs : List V} {ds : List PyData} (h : RpAll H xs ds) : ∀ {i : Nat} {d : PyData}, ds[i]? = some d → ∃ x, xs[i]? = some x ∧ Rp H x d := by
  intro i d e
  have hl := h.length
  have hi : i < xs.length := by
    rw [hl]
    exact (List.getElem?_eq_some_iff.mp e).1
  obtain ⟨d', e', r⟩ := h.get (i := i) (v := xs[i]) (List.getElem?_eq_getElem hi)
  rw [e] at e'
  cases e'
  exact ⟨_, List.getElem?_eq_getElem hi, r⟩
section
variable {P : Program} {w : World} {K : PySem.W.Frag} {mg : Str → Option Value} {base : Heap} {C : Addr}
theorem scRunB : FnScope ["rule", "n", "joins", "forest", "index", "item"] ["rule", "n", "joins"] (defScope sRunB) := ⟨rfl, rfl, rfl, by decide +kernel, rfl, by decide +kernel, by decide +kernel⟩
theorem ok_runB {fJ : Addr} {fdJ : FuncData} (M : Mk K mg "run_by" sRunB ["rule", "n", "joins"]) (dS : Df P w K mg base CX0 1 "single" ["n"] spSingle) (GJ : FnOk P w K mg base CX0 6 fJ fdJ ["forest", "child", "parent"] (spJoin K)) (bJ : Binds K fdJ ["forest", "child", "parent"] []) (kJ : PySem.W.keepIn K (.ref fJ) = true) (dP : Df P w K mg base CX0 1 "with_parent" ["forest", "child", "parent"] spWithP) (R : ErrF P w K mg base "BadJoin" "index" C)
    (mi : mg "isinstance" = none) (mT : mg "tuple" = none) (ml : mg "len" = none) (me : mg "enumerate" = none) : Df P w K mg base (L2.CX P w) 7 "run_by" ["rule", "n", "joins"] (spRunB K C fJ) := by
  obtain ⟨f, fd, F, b, g⟩ := M
  refine Df.of F b g (F.okX scRunB (fun vs H Q E h => ?_) (fun cdv A outer s H vs Q E hr h => ?_))
  · obtain ⟨n, v, d, rfl, _⟩ := h
    rfl
  · obtain ⟨n, v, d, rfl, n0, n24, rp, qY, qI, qN⟩ := h
    have nd := scRunB.nd
    refine ⟨_, pss_cons (ps_if (pt_not (pt_val (pe_callB call_isi (by rfl) mi (by decide +kernel) (pa_cons (pv 2) (pa_cons (pe_bltn (v := .ty "tuple") rfl mT (by decide +kernel) rfl) pa_nil))))) (pss_one (ps_raise rfl (takes_of rfl rfl rfl rfl) (pmk_err R hr (pa_cons pe_non pa_nil)))) pss_nil)
      (pss_cons (ps_set (i := 3) nd rfl (.inl rfl) (pe_d dS hr (pa_cons (pv 1) pa_nil)))
      (pss_cons (ps_for (passes_of rfl) rfl (pi_enumT (by rfl) me (pa_cons (pv 2) pa_nil)) (pg_tup rfl (pgs_cons (pg_name (i := 4) nd rfl (.inl rfl)) (pgs_cons (pg_name (i := 5) nd rfl (.inl rfl)) pgs_nil)))
        (pss_cons (ps_if (PW.pt (pw_or (pt_not (pt_val (pe_callB call_isi (by rfl) mi (by decide +kernel) (pa_cons (pv 5) (pa_cons (pe_bltn (v := .ty "tuple") rfl mT (by decide +kernel) rfl) pa_nil))))) (pw_or (pt_cmpR op_ne (pe_callB call_len_seq (by rfl) ml PySem.boot_len (pa_cons (pv 5) pa_nil)) pe_int (nomark _)) (pw_or1 (pt_not (pt_val (pe_callL (i := 0) GJ hr rfl (.inl rfl) kJ bJ .nil pass0 (pa_cons (pv 3) (pa_cons (pe_ix ix_tup (pv 5) pe_int (fun _ _ => rfl)) (pa_cons (pe_ix ix_tup (pv 5) pe_int (fun _ _ => rfl)) pa_nil))))))))))
            (pss_one (ps_raise rfl (takes_of rfl rfl rfl rfl) (pmk_err R hr (pa_cons (pv 4) pa_nil)))) pss_nil)
        (pss_one (ps_set (i := 3) nd rfl (.inl rfl) (pe_d dP hr (pa_cons (pv 3) (pa_cons (pe_ix ix_tup (pv 5) pe_int (fun _ _ => rfl)) (pa_cons (pe_ix ix_tup (pv 5) pe_int (fun _ _ => rfl)) pa_nil))))))))
      (pss_one (ps_ret (pv 3))))), ?_⟩
    refine ⟨v, rfl, v, .ty "tuple", _, .type "tuple", _, rfl, .ty _, rp.ty, m3_kit d, _, rfl, ?_⟩
    cases e0 : kdT d with
    | false => exact iteT ⟨(by show 1 ≤ 1000; decide), fun a na => ⟨a, .non, rfl, upd_same, fun dx nd ne => ⟨rfl, made_out (Same.refl H) (qN fun ds e => by rw [e] at e0; cases e0) a na dx nd ne⟩⟩⟩
    | true =>
      obtain ⟨ds, rfl⟩ := kdT_of e0
      obtain ⟨t, xs, rfl, ht, rx⟩ := rp.tupOf (K := K)
      refine iteF ⟨.int (n : Nat), rfl, n, rfl, by omega, fun q1 nq1 => ?_⟩
      have S1 := same_new (o := .tup (nv (List.range n))) nq1
      refine ⟨.ref t, rfl, t, _, rfl, same_seqT S1 ht, for_it (walkT (K := K) (a := t) (xs := xs)) (fun k σ G => ∃ (fs : List Nat) (pf : Addr) (c3 c4 : Option V), σ = [some (.ref fJ), some (.int (n : Nat)), some (.ref t), some (.ref pf), c3, c4] ∧ Same H G ∧ G pf = some (.tup (nv fs)) ∧ Forest fs ∧ runJ (List.range n) ds 0 = runJ fs (ds.drop k) k)
        ⟨List.range n, q1, none, none, rfl, S1, upd_same, Forest.range n0 n24, rfl⟩ (fun k σ G _ ⟨_, _, _, _, _, z, _⟩ => same_seqT z ht) ?_ ?_⟩
      · rintro k x σ G G' hk ⟨fs, pf, c3, c4, rfl, sG, hpf, hF, er⟩ ⟨tt, v1, v2, rfl, nt, rfl, z1, z2⟩
        cases z1
        have St := same_new (o := .tup [V.int (k : Nat), v2]) nt
        refine ⟨tt, _, rfl, SqT.of upd_same, rfl, _, _, rfl, _, _, rfl, rfl, ?_⟩
        have sG1 := sG.trans St
        have hpf1 := St _ _ hpf
        generalize hGG : upd G tt (.tup [V.int (k : Nat), v2]) = G1 at *
        clear hGG
        obtain ⟨d, hd, rd0⟩ := rx.get z2
        have rd := rd0.mono sG1
        have kl : k < ds.length := (List.getElem?_eq_some_iff.mp hd).1
        have drop : ds.drop k = d :: ds.drop (k + 1) := by
          rw [List.drop_eq_getElem_cons kl]
          congr 1
          rw [List.getElem?_eq_getElem kl] at hd
          exact Option.some.inj hd
        have bad : lawJn fs d = false → (runJ (List.range n) ds 0).1 = some k := fun z => by
          rw [er, drop]
          show (if lawJn fs d = true then runJ (fs.set (jA d) (jB d)) (ds.drop (k + 1)) (k + 1) else (some k, fs)).1 = _
          rw [z, if_neg Bool.false_ne_true]
        have out : lawJn fs d = false → ∀ {G2 : Hp}, Same H G2 → ∀ (a : Addr) (na : G2 a = none) (dx : Addr) (nd : (upd G2 a (exo a C none)) dx = none) (ne : dx ≠ a), _ := fun z {G2} s2 a na dx nd ne => made_out (f := Str.ofString "index") (v := .int ((k : Nat) : Int)) s2 (qI ds k rfl (bad z)) a na dx nd ne
        refine ⟨v2, rfl, v2, .ty "tuple", _, .type "tuple", _, rfl, .ty _, rd.ty, m3_kit d, _, rfl, ?_⟩
        cases e1 : kdT d with
        | false =>
          have z : lawJn fs d = false := by
            cases d with
            | tuple _ => cases e1
            | _ => rfl
          exact iteT (iteT ⟨.int (k : Nat), rfl, (by show 1 ≤ 1000; decide), fun a na => ⟨a, .int (k : Nat), rfl, upd_same, fun dx nd ne => ⟨rfl, out z sG1 a na dx nd ne⟩⟩⟩)
        | true =>
          obtain ⟨es, rfl⟩ := kdT_of e1
          obtain ⟨ti, ys, rfl, hti, ry⟩ := rd.tupOf (K := K)
          have ly := ry.length
          refine iteF ⟨.ref ti, rfl, ti, _, rfl, .inr hti, rfl, _, rfl, ite2 (fun h1 => iteT ?_) (fun h1 => ?_)⟩
          · have h2 : es.length ≠ 2 := ly ▸ nat_ne (b := 2) h1
            exact ⟨.int (k : Nat), rfl, (by show 1 ≤ 1000; decide), fun a na => ⟨a, .int (k : Nat), rfl, upd_same, fun dx nd ne => ⟨rfl, out (lawJn_no h2) sG1 a na dx nd ne⟩⟩⟩
          · have h2 : es.length = 2 := ly ▸ nat_eq (b := 2) h1
            clear e1 h1 ly
            obtain ⟨y0, y1, d0, d1, rfl, rfl, r0, r1⟩ := ry.two h2
            refine ⟨rfl, .ref pf, rfl, .ref ti, rfl, ti, _, 0, _, rfl, rfl, hti, atI_nat (j := 0) rfl, .ref ti, rfl, ti, _, 1, _, rfl, rfl, hti, atI_nat (j := 1) rfl, pf, fs, y0, y1, d0, d1, rfl, SqT.of hpf1, hF, r0, r1, fun G2 s2 => ⟨_, rfl, ?_⟩⟩
            cases z : isJn fs d0 d1 with
            | false => exact iteT ⟨.int (k : Nat), rfl, (by show 1 ≤ 1000; decide), fun a na => ⟨a, .int (k : Nat), rfl, upd_same, fun dx nd ne => ⟨rfl, out z (sG1.trans s2) a na dx nd ne⟩⟩⟩
            | true =>
              obtain ⟨a, b, rfl, rfl, hj⟩ := isJn_iff.mp z
              cases r0
              cases r1
              have few := hF.few
              refine iteF ⟨.ref pf, rfl, .ref ti, rfl, ti, _, 0, _, rfl, rfl, same_seqT s2 hti, atI_nat (j := 0) rfl, .ref ti, rfl, ti, _, 1, _, rfl, rfl, same_seqT s2 hti, atI_nat (j := 1) rfl, pf, fs, a, b, rfl, s2 _ _ hpf1, by omega, hj.1, fun q3 G3 s3 h3 => ?_⟩
              refine ⟨fs.set a b, q3, _, _, rfl, sG1.trans (s2.trans s3), h3, join_forest hF hj.1 hj.2.1 hj.2.2.1 hj.2.2.2.1 hj.2.2.2.2.1, ?_⟩
              rw [er, drop]
              show (if lawJn fs (.tuple [.int (a : Nat), .int (b : Nat)]) = true then runJ (fs.set (jA (.tuple [.int (a : Nat), .int (b : Nat)])) (jB (.tuple [.int (a : Nat), .int (b : Nat)]))) _ (k + 1) else _) = _
              rw [if_pos (show lawJn fs (.tuple [.int (a : Nat), .int (b : Nat)]) = true from z)]
              show runJ (fs.set (unD (.int (a : Nat))) (unD (.int (b : Nat)))) _ (k + 1) = _
              rw [unD_nat, unD_nat]
      · rintro σ G ⟨fs, pf, c3, c4, rfl, sG, hpf, hF, er⟩
        rw [rx.length, List.drop_length] at er
        refine ⟨.ref pf, rfl, qY ds rfl (by rw [er]; rfl) pf G sG ?_⟩
        rw [er]
        exact hpf
theorem scRun : FnScope ["n", "joins"] ["n", "joins"] (defScope sRun) := ⟨rfl, rfl, rfl, by decide +kernel, rfl, by decide +kernel, by decide +kernel⟩
theorem ok_run (MB : Mk K mg "run_by" sRunB ["rule", "n", "joins"]) (M : Mk K mg "run_joins" sRun ["n", "joins"]) (dS : Df P w K mg base CX0 1 "single" ["n"] spSingle) (dJ : Df P w K mg base CX0 6 "is_join" ["forest", "child", "parent"] (spJoin K)) (dP : Df P w K mg base CX0 1 "with_parent" ["forest", "child", "parent"] spWithP) (R : ErrF P w K mg base "BadJoin" "index" C)
    (mi : mg "isinstance" = none) (mT : mg "tuple" = none) (ml : mg "len" = none) (me : mg "enumerate" = none) : Df P w K mg base (L2.CX P w) 8 "run_joins" ["n", "joins"] (spRun K C) := by
  obtain ⟨fJ, fdJ, GJ, bJ, gJ, kJ⟩ := dJ
  have dB := ok_runB (P := P) (w := w) (base := base) MB dS GJ bJ kJ dP R mi mT ml me
  obtain ⟨f, fd, F, b, g⟩ := M
  refine Df.of F b g (F.okX scRun (fun vs H Q E h => ?_) (fun cdv A outer s H vs Q E hr h => ?_))
  · obtain ⟨n, v, d, rfl, _⟩ := h
    rfl
  · obtain ⟨n, v, d, rfl, rest⟩ := h
    refine ⟨_, pss_one (ps_ret (pe_dS dB hr (fun σ => passAt (takes_of rfl rfl rfl rfl) σ) (pa_cons (pe_glob (v := .ref fJ) rfl gJ rfl) (pa_cons (pv 0) (pa_cons (pv 1) pa_nil))))), ?_⟩
    exact ⟨.int (n : Nat), rfl, v, rfl, n, v, d, rfl, rest⟩
theorem scCert : FnScope ["forest", "value", "word", "part"] ["forest", "value"] (defScope sCert) := ⟨rfl, rfl, rfl, by decide +kernel, rfl, by decide +kernel, by decide +kernel⟩
theorem ok_cert (M : Mk K mg "certificate_holds" sCert ["forest", "value"]) (dW : Df P w K mg base CX0 9 "is_whole" ["forest", "value"] spWhole) (dV : Df P w K mg base CX0 2 "is_vertex" ["n", "value"] spIV) (dH : Df P w K mg base CX0 6 "heavy_children" ["forest"] (spHeavyC K)) (mi : mg "isinstance" = none) (mT : mg "tuple" = none) (ml : mg "len" = none) :
    Df P w K mg base CX0 10 "certificate_holds" ["forest", "value"] spCert := by
  obtain ⟨f, fd, F, b, g⟩ := M
  refine Df.of F b g (F.ok scCert (fun vs H Q E h => ?_) (fun cdv A outer s H vs Q E hr h => ?_))
  · obtain ⟨p, t, fs, word, v, d, rfl, _⟩ := h
    rfl
  · obtain ⟨p, t, fs, word, v, d, rfl, hp, hF, ht, rp, q⟩ := h
    have nd := scCert.nd
    refine ⟨_, pss_cons (ps_if (PW.pt (pw_or (pt_not (pt_val (pe_callB call_isi (by rfl) mi (by decide +kernel) (pa_cons (pv 1) (pa_cons (pe_bltn (v := .ty "tuple") rfl mT (by decide +kernel) rfl) pa_nil))))) (pw_or1 (pt_cmpR op_ne (pe_callB call_len_seq (by rfl) ml PySem.boot_len (pa_cons (pv 1) pa_nil)) pe_int (nomark _))))) (pss_one (ps_ret pe_bl)) pss_nil)
      (pss_cons (ps_asg (pv 1) (pg_tup rfl (pgs_cons (pg_name (i := 2) nd rfl (.inl rfl)) (pgs_cons (pg_name (i := 3) nd rfl (.inl rfl)) pgs_nil))))
      (pss_cons (ps_if (pt_cmpR op_eq (pv 2) pe_str (nomark _)) (pss_one (ps_ret (pe_d dW hr (pa_cons (pv 0) (pa_cons (pv 3) pa_nil))))) pss_nil)
      (pss_one (ps_ret (pe_and (pe_cmpR op_eq (pv 2) pe_str (nomark _)) (pe_and (pe_d dV hr (pa_cons (pe_callB call_len_seq (by rfl) ml PySem.boot_len (pa_cons (pv 0) pa_nil)) (pa_cons (pv 3) pa_nil))) (pe_one (pe_cmpR op_in_seq (pv 3) (pe_d dH hr (pa_cons (pv 0) pa_nil)) (by rfl))))))))), ?_⟩
    have q0 := q H (Same.refl H)
    have rt : Rp H (.ref t) (.tuple [.str word, d]) := .tup ht (.cons (.str _) (.cons rp .nil))
    refine ⟨.ref t, rfl, .ref t, .ty "tuple", _, .type "tuple", _, rfl, .ty _, rt.ty, m3_kit _, _, rfl, ?_⟩
    refine iteF ⟨.ref t, rfl, t, _, rfl, .inr (SqT.of ht), rfl, _, rfl, iteF ?_⟩
    refine ⟨.ref t, rfl, t, _, rfl, SqT.of ht, rfl, _, _, rfl, _, _, rfl, rfl, ?_⟩
    refine ⟨.str word, rfl, rfl, _, rfl, ite2 (fun h1 => ?_) (fun h1 => ?_)⟩
    · have h1 : word = Str.ofString "history" := V.str.inj (of_decide_eq_true h1)
      refine ⟨.ref p, rfl, v, rfl, p, fs, v, d, rfl, hp, hF, rp, fun H' s' => ?_⟩
      have := q H' s'
      unfold certS at this
      rw [if_pos h1] at this
      exact this
    · have h1 : ¬ word = Str.ofString "history" := fun z => h1 (decide_eq_true (by rw [z]))
      unfold certS at q q0
      rw [if_neg h1] at q0
      refine ⟨.str word, rfl, rfl, _, rfl, ite2 (fun h2 => ?_) (fun h2 => ?_)⟩
      · have h2 : word = Str.ofString "heavy" := V.str.inj (of_decide_eq_true h2)
        rw [if_pos h2] at q0
        refine ⟨.ref p, rfl, p, _, rfl, .inr (SqT.of hp), v, rfl, (nv fs).length, v, d, rfl, rp, _, rfl, ?_⟩
        rw [nv_length]
        cases z : isV fs.length d with
        | false =>
          rw [z] at q0
          exact iteF q0
        | true =>
          obtain ⟨x, rfl, hx⟩ := isV_int z
          cases rp
          refine iteT ⟨.int (x : Nat), rfl, .ref p, rfl, p, fs, rfl, SqT.of hp, hF, fun qh H1 s1 h3 => ⟨qh, _, rfl, .inr (SqT.of h3), rfl, flat_nv _, ?_⟩⟩
          rw [if_neg Bool.false_ne_true, in_nv]
          have := q H1 s1
          rw [if_neg h1, if_pos h2, z, Bool.true_and, unD_nat] at this
          exact this
      · have h2 : ¬ word = Str.ofString "heavy" := fun z => h2 (decide_eq_true (by rw [z]))
        rw [if_neg h2] at q0
        exact q0
end
end Lf
namespace Lf
open PySem PySem.Spec PyProof.Rows L2
/-! ### builds.py: possible_joins, after_join -/
abbrev sPoss : Stmt := topS (25)
noncomputable def pj (fs : List Nat) (a b : Nat) : Bool := !decide (a = b) && decide (cnt fs a fs.length ≤ cnt fs b fs.length)
noncomputable def rowJ (fs bs : List Nat) (a : Nat) : List (List Nat) := (bs.filter (pj fs a)).map fun b => [a, b]
noncomputable def joinsL (fs as : List Nat) : List (List Nat) := as.flatMap (rowJ fs (tops fs))
theorem rowJ_le (fs bs : List Nat) (a : Nat) : (rowJ fs bs a).length ≤ bs.length := by
  unfold rowJ
  rw [List.length_map]
  exact List.length_filter_le _ _
theorem joinsL_le (fs : List Nat) : ∀ as : List Nat, (joinsL fs as).length ≤ (tops fs).length * as.length
  | [] => Nat.zero_le _
  | a :: as => by
    have := joinsL_le fs as
    have := rowJ_le fs (tops fs) a
    show ((rowJ fs (tops fs) a) ++ joinsL fs as).length ≤ _
    rw [List.length_append, List.length_cons, Nat.mul_succ]
    omega
theorem tops_le (fs : List Nat) : (tops fs).length ≤ fs.length := range_filter_le _ _
def spPoss (K : PySem.W.Frag) : Sp := fun vs H Q _ => ∃ (p : Addr) (fs : List Nat), vs = [.ref p] ∧ SqT K H p (nv fs) ∧ Forest fs ∧
  ∀ (q : Addr) (us : List V) (H' : Hp), Same H H' → H' q = some (.tup us) → Rows H' us (joinsL fs (tops fs)) → Q (.ref q) H'
def spAfter (C : Addr) : Sp := fun vs H Q E => ∃ (p : Addr) (fs : List Nat) (v u : V) (d e : PyData), vs = [.ref p, v, u] ∧ H p = some (.tup (nv fs)) ∧ Forest fs ∧ Rp H v d ∧ Rp H u e ∧
  (∀ a b : Nat, d = .int (a : Nat) → e = .int (b : Nat) → Jn fs a b → ∀ (q : Addr) (H' : Hp), Same H H' → H' q = some (.tup (nv (fs.set a b))) → Q (.ref q) H') ∧ (isJn fs d e = false → OutF "index" C H (.int 0) E)
section
variable {P : Program} {w : World} {K : PySem.W.Frag} {mg : Str → Option Value} {base : Heap}
abbrev NPo : List Str := ["forest", "tops", "loads", "low", "high"]
theorem scPoss : FnScope NPo ["forest"] (defScope sPoss) := ⟨rfl, rfl, rfl, by decide +kernel, rfl, by decide +kernel, by decide +kernel⟩
theorem ok_poss (M : Mk K mg "possible_joins" sPoss ["forest"]) (dR : Df P w K mg base CX0 1 "roots" ["forest"] (spRoots K)) (dW : Df P w K mg base CX0 5 "weights" ["forest"] (spWeights K)) (mT : mg "tuple" = none) : Df P w K mg base CX0 6 "possible_joins" ["forest"] (spPoss K) := by
  obtain ⟨f, fd, F, b, g⟩ := M
  refine Df.of F b g (F.ok scPoss (fun vs H Q E h => ?_) (fun cdv A outer s H vs Q E hr h => ?_))
  · obtain ⟨p, fs, rfl, _⟩ := h
    rfl
  · obtain ⟨p, fs, rfl, hp, hF, q⟩ := h
    refine ⟨_, pss_cons (ps_set (i := 1) scPoss.nd rfl (.inr rfl) (pe_d dR hr (pa_cons (pv 0) pa_nil)))
      (pss_cons (ps_set (i := 2) scPoss.nd rfl (.inr rfl) (pe_d dW hr (pa_cons (pv 0) pa_nil)))
      (pss_one (ps_ret (pe_callTy call_tuple_of (by rfl) mT (by decide +kernel) (pa_cons (pe_lc2 (own := [("low", 3), ("high", 4)]) (vs1 := [4]) (g := gName 3) (tt := tYes) (wi1 := iTup K (tVar 1)) (g1 := gName 4)
        (tt1 := tAnd (tTest (tOp rNe (tVar 3) (tVar 4))) (tTest (tOp (rI0 fun i j => .bl (decide (i ≤ j))) (tOp (rIxT K) (tVar 2) (tVar 3)) (tOp (rIxT K) (tVar 2) (tVar 4))))) (te := tTup (tCons (tVar 3) (tCons (tVar 4) tNil))) (by rfl) scPoss.nd (pi_tup (pv 1))
        (blkOk_by (own := [("low", 3), ("high", 4)]) (N := NPo) (sc := defScope sPoss) (by decide +kernel)) (by decide) (fun _ _ _ _ _ => pg_name (i := 3) scPoss.nd rfl (Or.inl rfl)) (fun _ _ _ _ _ => pts_nil)
        (fun _ _ _ _ _ => pi_tup (pv 1)) (fun _ _ _ _ _ => pg_name (i := 4) scPoss.nd rfl (Or.inl rfl))
        (fun _ _ _ _ _ => pts_one (PW.pt (pw_and (pt_cmpR op_ne (pv 3) (pv 4) (nomark _)) (pw_and1 (pt_cmpR op_le (pe_ix ix_tup (pv 2) (pv 3) (fun _ _ => rfl)) (pe_ix ix_tup (pv 2) (pv 4) (fun _ _ => rfl)) (nomark _))))))
        (fun _ _ _ _ _ => pe_tup (pa_cons (pv 3) (pa_cons (pv 4) pa_nil)))) pa_nil))))), ?_⟩
    have few := hF.few
    have tl := tops_le fs
    refine ⟨.ref p, rfl, p, fs, rfl, hp, by omega, fun qt H1 s1 nqt hqt => ⟨.ref p, rfl, p, fs, rfl, same_seqT s1 hp, hF, fun ws qw H2 s2 lw hws nqw hqw => ?_⟩⟩
    have hqt2 := s2 _ _ hqt
    refine ⟨.ref qt, rfl, qt, rfl, ⟨_, SqT.of hqt2⟩, fun D nD => it_tup (K := K) (a := qt) (xs := nv (tops fs)) (fun i H3 => Same H2 H3 ∧ ∃ us, H3 D = some (.lst us) ∧ Rows H3 us (joinsL fs ((tops fs).take i))) ⟨same_new nD, [], upd_same, .nil⟩ (fun i H3 _ z => SqT.of (z.1 _ _ hqt2)) ?_ ?_⟩
    · rintro i x H3 hx ⟨s3, us, hD, ru⟩
      obtain ⟨hi, rfl⟩ := nv_some hx
      have ea : (tops fs)[i]? = some ((tops fs).getD i 0) := by rw [List.getD_eq_getElem?_getD, List.getElem?_eq_getElem hi]; rfl
      generalize hga : (tops fs).getD i 0 = a at *
      obtain ⟨al, ap⟩ := mem_tops.mp (List.mem_of_getElem? ea)
      have bound := joinsL_le fs ((tops fs).take i)
      rw [List.length_take] at bound
      refine ⟨rfl, ?_⟩
      dsimp only [tYes]
      rw [if_pos rfl]
      refine ⟨.ref qt, rfl, qt, rfl, ⟨_, SqT.of (s3 _ _ hqt2)⟩, it_tup (K := K) (a := qt) (xs := nv (tops fs)) (fun j H4 => Same H2 H4 ∧ ∃ us, H4 D = some (.lst us) ∧ Rows H4 us (joinsL fs ((tops fs).take i) ++ rowJ fs ((tops fs).take j) a)) ⟨s3, us, hD, by rw [List.take_zero]; show Rows H3 us (_ ++ []); rw [List.append_nil]; exact ru⟩ (fun j H4 _ z => SqT.of (z.1 _ _ hqt2)) ?_ ?_⟩
      · rintro j y H4 hy ⟨s4, us4, hD4, ru4⟩
        obtain ⟨hj, rfl⟩ := nv_some hy
        have eb : (tops fs)[j]? = some ((tops fs).getD j 0) := by rw [List.getD_eq_getElem?_getD, List.getElem?_eq_getElem hj]; rfl
        generalize hgb : (tops fs).getD j 0 = b at *
        obtain ⟨bl, bp⟩ := mem_tops.mp (List.mem_of_getElem? eb)
        have step : rowJ fs ((tops fs).take (j + 1)) a = rowJ fs ((tops fs).take j) a ++ (if pj fs a b = true then [[a, b]] else []) := by
          unfold rowJ
          rw [take_snoc eb, List.filter_append, List.map_append]
          cases z : pj fs a b with
          | true => rw [List.filter_cons_of_pos z]; rfl
          | false => rw [List.filter_cons_of_neg (by rw [z]; exact Bool.false_ne_true)]; rfl
        have stay : pj fs a b = false → Same H2 H4 ∧ ∃ us, H4 D = some (.lst us) ∧ Rows H4 us (joinsL fs ((tops fs).take i) ++ rowJ fs ((tops fs).take (j + 1)) a) := fun z => by
          rw [step, z]
          refine ⟨s4, us4, hD4, ?_⟩
          rw [if_neg Bool.false_ne_true, List.append_nil]
          exact ru4
        refine ⟨rfl, .int (a : Nat), rfl, .int (b : Nat), rfl, rfl, _, rfl, ite2 (fun h1 => ?_) (fun h1 => iteF (stay ?_))⟩
        · have h1 : a ≠ b := fun z => by
            rw [z, decide_eq_true rfl] at h1
            cases h1
          refine ⟨.ref qw, rfl, .int (a : Nat), rfl, qw, _, a, _, rfl, rfl, SqT.of (s4 _ _ hqw), atI_nat (nv_get (by omega)), .ref qw, rfl, .int (b : Nat), rfl, qw, _, b, _, rfl, rfl, SqT.of (s4 _ _ hqw), atI_nat (nv_get (by omega)), _, _, rfl, rfl, _, rfl, ite2 (fun h2 => ?_) (fun h2 => stay ?_)⟩
          · have h2 := of_decide_eq_true h2
            rw [hws a al, hws b bl] at h2
            have hp' : pj fs a b = true := by
              unfold pj
              rw [decide_eq_false h1, decide_eq_true (by omega)]
              rfl
            refine ⟨.int (a : Nat), rfl, .int (b : Nat), rfl, (by show 2 ≤ sizeLine; decide), fun t nt => ⟨us4, ?_, ?_, ?_, ?_⟩⟩
            · rw [upd_ne (ne_of_none hD4 nt)]
              exact hD4
            · have := ru4.length
              rw [List.length_append] at this
              have := rowJ_le fs ((tops fs).take j) a
              rw [List.length_take] at this
              have b2 : (tops fs).length * min i (tops fs).length ≤ 24 * 24 := Nat.mul_le_mul (by omega) (by omega)
              exact small1000 (by omega)
            · exact fun c o z => by
                rw [upd_ne (ne_of_none z nD), upd_ne (ne_of_none (s4 _ _ z) nt)]
                exact s4 _ _ z
            · refine ⟨us4 ++ [.ref t], upd_same, ?_⟩
              rw [step, hp', if_pos rfl, ← List.append_assoc]
              have hD5 : (upd H4 t (.tup [V.int (a : Nat), V.int (b : Nat)])) D = some (.lst us4) := by
                rw [upd_ne (ne_of_none hD4 nt)]
                exact hD4
              exact ((ru4.mono (TK.of (same_new nt))).snoc (r := [a, b]) upd_same).mono (TK.lst hD5)
          · unfold pj
            rw [decide_eq_false h1]
            refine decide_eq_false fun z => h2 (decide_eq_true ?_)
            rw [hws a al, hws b bl]
            omega
        · unfold pj
          have h1 : a = b := Classical.byContradiction fun z => h1 (by rw [decide_eq_false (fun y => z (natV_inj.mp y))]; rfl)
          rw [decide_eq_true h1]
          rfl
      · rintro H4 ⟨s4, us4, hD4, ru4⟩
        refine ⟨s4, us4, hD4, ?_⟩
        rw [nv_length, List.take_length] at ru4
        rw [take_snoc ea]
        unfold joinsL at ru4 ⊢
        rw [List.flatMap_append]
        show Rows H4 us4 (_ ++ (rowJ fs (tops fs) a ++ []))
        rw [List.append_nil]
        exact ru4
    · rintro H3 ⟨s3, us, hD, ru⟩
      rw [nv_length, List.take_length] at ru
      refine ⟨D, _, rfl, .inl ⟨SqL.of hD, fun p9 n9 => q p9 us _ (s1.trans (s2.trans (s3.trans (same_new n9)))) upd_same (ru.mono (TK.of (same_new n9)))⟩⟩
end
end Lf
namespace Lf
open PySem PySem.Spec PyProof.Rows L2
/-- the heap without the well -/
def hid (w l : Addr) (H : Hp) : Hp := fun b => if b = w ∨ b = l then none else H b
theorem hid_ne {w l b : Addr} {H : Hp} (h1 : b ≠ w) (h2 : b ≠ l) : hid w l H b = H b := if_neg (fun z => z.elim h1 h2)
theorem hid_keep {w l : Addr} {H H' : Hp} (k : Keep w l H H') : Same (hid w l H) (hid w l H') := fun b o e => by
  unfold hid at e ⊢
  by_cases z : b = w ∨ b = l
  · rw [if_pos z] at e
    cases e
  · rw [if_neg z] at e ⊢
    exact k b o (fun y => z (.inl y)) (fun y => z (.inr y)) e
theorem hid_same {w l : Addr} {H : Hp} : Same (hid w l H) H := fun b o e => by
  unfold hid at e
  by_cases z : b = w ∨ b = l
  · rw [if_pos z] at e
    cases e
  · rw [if_neg z] at e
    exact e
/-- what is drawn: small data that repr shows -/
structure Odd (d : PyData) : Prop where
  shows : d.showable = true
  deep : d.depth ≤ 4
  short : d.shown.length ≤ 100
/-- of H' what H does not track -/
def fresh (H H' : Hp) : Hp := fun b => if (H b).isSome = true then none else H' b
theorem fresh_of {H H' : Hp} {b : Addr} (h : H b = none) : fresh H H' b = H' b := if_neg (by rw [h]; exact Bool.false_ne_true)
theorem of_fresh {H H' : Hp} {b : Addr} {o : HO} (e : fresh H H' b = some o) : H b = none ∧ H' b = some o := by
  unfold fresh at e
  cases h : H b with
  | none =>
    rw [h] at e
    exact ⟨rfl, e⟩
  | some u =>
    rw [h] at e
    cases e
def spOdd : Sp := fun vs H Q _ => ∃ (w l : Addr), vs = [.ref w] ∧ Well w l H ∧ ∀ v d H', Rp (fresh H H') v d → Odd d → Well w l H' → Keep w l H H' → Q v H'
section
variable {P : Program} {w : World} {K : PySem.W.Frag} {mg : Str → Option Value} {base : Heap}
end
end Lf
namespace Lf
open PySem PySem.Spec PyProof.Rows L2
structure Shw (k m : Nat) (d : PyData) : Prop where
  shows : d.showable = true
  deep : d.depth ≤ k
  short : d.shown.length ≤ m
theorem Odd.shw {d : PyData} (h : Odd d) : Shw 4 100 d := ⟨h.shows, h.deep, h.short⟩
theorem Shw.mono {k m k' m' : Nat} {d : PyData} (h : Shw k m d) (a : k ≤ k') (b : m ≤ m') : Shw k' m' d := ⟨h.shows, Nat.le_trans h.deep a, Nat.le_trans h.short b⟩
theorem Shw.by {k m : Nat} {d : PyData} (h : (d.showable && (decide (d.depth ≤ k) && decide (d.shown.length ≤ m))) = true) : Shw k m d := by
  obtain ⟨k1, k2⟩ := Bool.and_eq_true_iff.mp h
  obtain ⟨k3, k4⟩ := Bool.and_eq_true_iff.mp k2
  exact ⟨k1, of_decide_eq_true k3, of_decide_eq_true k4⟩
theorem Shw.all {k m : Nat} : ∀ {ds : List PyData}, (∀ d ∈ ds, Shw k m d) → PyData.showableAll ds = true ∧ PyData.depthAll ds ≤ k ∧ ((PyData.shownAll ds).map (·.length)).sum ≤ m * ds.length ∧ (PyData.shownAll ds).length = ds.length
  | [], _ => ⟨rfl, Nat.zero_le _, Nat.zero_le _, rfl⟩
  | d :: ds, h => by
    obtain ⟨h1, h2, h3, h4⟩ := Shw.all (ds := ds) fun y hy => h y (List.mem_cons_of_mem _ hy)
    have g := h d List.mem_cons_self
    refine ⟨?_, ?_, ?_, ?_⟩
    · show (PyData.showable d && PyData.showableAll ds) = true
      rw [g.shows, h1]
      rfl
    · show max (PyData.depth d) (PyData.depthAll ds) ≤ k
      exact Nat.max_le.mpr ⟨g.deep, h2⟩
    · show (PyData.shown d).length + ((PyData.shownAll ds).map (·.length)).sum ≤ m * (ds.length + 1)
      have := g.short
      rw [Nat.mul_succ]
      omega
    · show (PyData.shownAll ds).length + 1 = ds.length + 1
      rw [h4]
theorem Shw.tup {k m n : Nat} {ds : List PyData} (h : ∀ d ∈ ds, Shw k m d) (hn : ds.length ≤ n) : Shw (k + 1) ((m + 2) * n + 3) (.tuple ds) := by
  obtain ⟨h1, h2, h3, h4⟩ := Shw.all h
  refine ⟨h1, Nat.succ_le_succ h2, ?_⟩
  show (tupleText (PyData.shownAll ds)).length ≤ _
  have := tupleText_len_le (PyData.shownAll ds)
  rw [h4] at this
  have : (m + 2) * ds.length ≤ (m + 2) * n := Nat.mul_le_mul_left _ hn
  rw [Nat.add_mul] at this
  omega
theorem Shw.lst {k m n : Nat} {ds : List PyData} (h : ∀ d ∈ ds, Shw k m d) (hn : ds.length ≤ n) : Shw (k + 1) ((m + 2) * n + 3) (.list ds) := by
  obtain ⟨h1, h2, h3, h4⟩ := Shw.all h
  refine ⟨h1, Nat.succ_le_succ h2, ?_⟩
  show (listText (PyData.shownAll ds)).length ≤ _
  have := listText_len_le (PyData.shownAll ds)
  rw [h4] at this
  have : (m + 2) * ds.length ≤ (m + 2) * n := Nat.mul_le_mul_left _ hn
  rw [Nat.add_mul] at this
  omega
theorem show25 : ∀ x, x < 25 → ((PyData.int ((x : Nat) : Int)).showable && (decide ((PyData.int ((x : Nat) : Int)).depth ≤ 4) && decide ((PyData.int ((x : Nat) : Int)).shown.length ≤ 100))) = true := by decide +kernel
theorem neT {w l r : Addr} {H : Hp} {xs : List V} (W : Well w l H) (h : H r = some (.tup xs)) : r ≠ w ∧ r ≠ l := by
  obtain ⟨_, _, _, hw, hl, _⟩ := W
  refine ⟨fun z => ?_, fun z => ?_⟩
  · rw [z, hw] at h
    cases h
  · rw [z, hl] at h
    cases h
theorem neN {w l r : Addr} {H : Hp} (W : Well w l H) (h : H r = none) : r ≠ w ∧ r ≠ l := by
  obtain ⟨_, _, _, hw, hl, _⟩ := W
  exact ⟨(ne_of_none hw h).symm, (ne_of_none hl h).symm⟩
theorem tupShw {l : List Nat} (h : ∀ x ∈ l, x < 25) (few : l.length ≤ 24) : Shw 5 3000 (.tuple (nD l)) := by
  refine (Shw.tup (k := 4) (m := 100) (n := 24) (fun d hd => ?_) (by unfold nD; rw [List.length_map]; exact few)).mono (by decide) (by decide)
  obtain ⟨x, hx, e⟩ := List.mem_map.mp hd
  rw [← e]
  exact Shw.by (show25 x (h x hx))
theorem Shw.fits {k m : Nat} {d : PyData} (h : Shw k m d) (a : k ≤ 100) (b : m ≤ 100000) : d.showable = true ∧ d.depth ≤ 100 ∧ d.shown.length ≤ sizeLine := ⟨h.shows, Nat.le_trans h.deep a, Nat.le_trans h.short (Nat.le_trans b (by rw [sizeLine_eq]; omega))⟩
theorem Shw.lst3 {k m : Nat} {a b c : PyData} (ha : Shw k m a) (hb : Shw k m b) (hc : Shw k m c) : Shw (k + 1) ((m + 2) * 3 + 3) (.list [a, b, c]) := by
  refine Shw.lst (fun d hd => ?_) (Nat.le_refl _)
  simp only [List.mem_cons, List.not_mem_nil, or_false] at hd
  rcases hd with rfl | rfl | rfl
  · exact ha
  · exact hb
  · exact hc
theorem Shw.lst1 {k m : Nat} {a : PyData} (ha : Shw k m a) : Shw (k + 1) ((m + 2) * 1 + 3) (.list [a]) := Shw.lst (fun d hd => (List.mem_singleton.mp hd) ▸ ha) (Nat.le_refl _)
end Lf
namespace Lf
open PySem PySem.Spec PyProof.Rows L2
/-! ### tuples of numbers compared -/
theorem eqv_nD : ∀ r s : List Nat, PyData.eqvAll (nD r) (nD s) = decide (r = s)
  | [], [] => rfl
  | [], _ :: _ => rfl
  | _ :: _, [] => rfl
  | x :: r, y :: s => by
    show ((((x : Nat) : Int) == ((y : Nat) : Int)) && PyData.eqvAll (nD r) (nD s)) = _
    rw [eqv_nD r s]
    by_cases h : x = y
    · subst h
      simp
    · have : (((x : Nat) : Int) == ((y : Nat) : Int)) = false := beq_eq_false_iff_ne.mpr fun e => h (by omega)
      rw [this]
      simp [h]
theorem any_rows (r : List Nat) : ∀ rs : List (List Nat), ((rs.map rowD).any fun z => PyData.eqv z (rowD r)) = decide (r ∈ rs)
  | [] => rfl
  | s :: rs => by
    rw [List.map_cons, List.any_cons, any_rows r rs]
    show (PyData.eqvAll (nD s) (nD r) || _) = _
    rw [eqv_nD]
    by_cases h : s = r
    · subst h
      simp
    · rw [decide_eq_false h, Bool.false_or]
      exact decide_eq_decide.mpr ⟨List.mem_cons_of_mem _, fun z => (List.mem_cons.mp z).elim (fun e => absurd e.symm h) id⟩
theorem layRow (r : List Nat) : PyData.canLayAll0 (nD r) = true := by
  have := layInts (r.map fun x => ((x : Nat) : Int))
  rw [List.map_map] at this
  exact this
theorem deepRow (r : List Nat) : PyData.depthAll (nD r) = 0 := by
  have := deepInts (r.map fun x => ((x : Nat) : Int))
  rw [List.map_map] at this
  exact this
theorem shRow (r : List Nat) : SeqAt.shaped (rowD r) = true := by
  show (PyData.canLayAll0 (nD r) && decide (PyData.depthAll (nD r) + 1 ≤ 64)) = true
  rw [layRow, deepRow]
  rfl
theorem layRows : ∀ rs : List (List Nat), PyData.canLayAll0 (rs.map rowD) = true
  | [] => rfl
  | r :: rs => by
    show (PyData.canLayAll0 (nD r) && PyData.canLayAll0 (rs.map rowD)) = true
    rw [layRows rs, layRow]
    rfl
theorem deepRows : ∀ rs : List (List Nat), PyData.depthAll (rs.map rowD) ≤ 1
  | [] => Nat.zero_le _
  | r :: rs => by
    show max (PyData.depthAll (nD r) + 1) (PyData.depthAll (rs.map rowD)) ≤ 1
    rw [deepRow]
    exact Nat.max_le.mpr ⟨Nat.le_refl _, deepRows rs⟩
theorem shRows (rs : List (List Nat)) : SeqAt.shaped (.list (rs.map rowD)) = true := by
  show (PyData.canLayAll0 (rs.map rowD) && decide (PyData.depthAll (rs.map rowD) + 1 ≤ 64)) = true
  rw [layRows, decide_eq_true (by have := deepRows rs; omega)]
  rfl
theorem dpRow {K : PySem.W.Frag} {H : Hp} {p : Addr} {r : List Nat} (h : SqT K H p (nv r)) : Dp K H (.ref p) (rowD r) := .tup h (by have := dpNv (K := K) (H := H) r; rw [List.map_map] at this; exact this)
theorem Rows.unsnoc {H : Hp} : ∀ {vs : List V} {rs : List (List Nat)} {r : List Nat}, Rows H vs (rs ++ [r]) → ∃ us q, vs = us ++ [.ref q] ∧ Rows H us rs ∧ H q = some (.tup (nv r))
  | _, [], _, .cons h .nil => ⟨[], _, rfl, .nil, h⟩
  | _, _ :: rs, _, .cons h q => by
    obtain ⟨us, q', e, h1, h2⟩ := Rows.unsnoc (rs := rs) q
    subst e
    exact ⟨_ :: us, q', rfl, .cons h h1, h2⟩
theorem eqv_row (r s : List Nat) : PyData.eqv (rowD r) (rowD s) = decide (r = s) := eqv_nD r s
theorem eqv_nil (l : List Nat) : PyData.eqv (.list ((l.map fun x => ((x : Nat) : Int)).map PyData.int)) (.list []) = l.isEmpty := by cases l <;> rfl
theorem Rows.dropLast {H : Hp} : ∀ {vs : List V} {rs : List (List Nat)}, Rows H vs rs → Rows H vs.dropLast rs.dropLast
  | _, _, .nil => .nil
  | _, _, .cons _ .nil => .nil
  | _, _, .cons h (.cons h2 q) => .cons h (Rows.dropLast (.cons h2 q))
def rInDT (K : PySem.W.Frag) : R2 := fun x y H Q => ∃ d ds, Dp K H x d ∧ Dp K H y (.tuple ds) ∧ SeqAt.shaped d = true ∧ SeqAt.shaped (.tuple ds) = true ∧ Q (.bl (ds.any fun z => PyData.eqv z d)) H
theorem op_inDT {X : Cx} (hu : X.A.units + 65 < cLine) : OpR X (compareOp .In) (rInDT X.K) := by
  intro pins s σ H x y v u Q I rx ry h
  obtain ⟨d, ds, hd, he, sd, se, q⟩ := h
  obtain ⟨as, r1⟩ := Dp.reads I d x v hd rx
  obtain ⟨bs, r2⟩ := Dp.reads I (.tuple ds) y u he ry
  exact SeqAt.in_tuple_reads r2 r1 (SeqAt.canLay_of_shaped se) (SeqAt.canLay_of_shaped sd) (room_in_shaped sd hu) ⟨.bl _, H, I, rfl, q⟩
theorem shRowsT (rs : List (List Nat)) : SeqAt.shaped (.tuple (rs.map rowD)) = true := shRows rs
end Lf
namespace Lf
/-! ### forests on the way, their trees -/
noncomputable section
open Classical
theorem Bg.jn {fs S : List Nat} (F : Forest fs) (b : Bg fs S) {v : Nat} (p : Can fs S v) : Jn (Lf.there fs S) v (par fs v) := ((step_pos F b p.low).mpr p).1
theorem there_light {fs S : List Nat} (F : Forest fs) (b : Bg fs S) : ∀ c, ¬ Heavy (there fs S) c := by
  induction b with
  | nil =>
    rw [there_nil]
    exact range_light _
  | @snoc S v b p ih =>
    obtain ⟨h1, h2, h3, h4, h5, h6⟩ := b.jn F p
    rw [← there_snoc]
    exact join_light (there_forest F S) h1 h2 h3 h4 h5 h6 ih
theorem bel_there {fs S : List Nat} (rng : ∀ v, v < fs.length → par fs v < fs.length) {v u : Nat} (h : Bel (there fs S) v u) : u < fs.length → Bel fs v u := by
  induction h with
  | refl => exact fun _ => .refl
  | @step u n h ih =>
    intro hu
    rw [par_there hu] at n ih
    by_cases z : u ∈ S
    · rw [if_pos z] at n ih
      exact .step n (ih (rng u hu))
    · rw [if_neg z] at n
      exact absurd rfl n
theorem filter_len {α : Type} {p q : α → Bool} : ∀ {l : List α}, (∀ x ∈ l, p x = true → q x = true) → (l.filter p).length = (l.filter q).length → l.filter p = l.filter q
  | [], _, _ => rfl
  | x :: l, h, e => by
    have le : (l.filter p).length ≤ (l.filter q).length := by
      rw [len_sum, len_sum]
      exact sum_le fun y hy => by
        by_cases z : p y = true
        · rw [if_pos z, if_pos (h y (List.mem_cons_of_mem _ hy) z)]
          exact Nat.le_refl _
        · rw [if_neg z]
          exact Nat.zero_le _
    by_cases z : p x = true
    · have z2 := h x List.mem_cons_self z
      rw [List.filter_cons_of_pos z, List.filter_cons_of_pos z2] at e ⊢
      rw [filter_len (fun y hy => h y (List.mem_cons_of_mem _ hy)) (Nat.succ.inj e)]
    · by_cases z2 : q x = true
      · rw [List.filter_cons_of_neg z, List.filter_cons_of_pos z2, List.length_cons] at e
        omega
      · rw [List.filter_cons_of_neg z, List.filter_cons_of_neg z2] at e ⊢
        exact filter_len (fun y hy => h y (List.mem_cons_of_mem _ hy)) e
/-- the trees are the same exactly if they weigh the same -/
theorem tree_same {fs S : List Nat} (F : Forest fs) {v : Nat} : ((List.range (there fs S).length).filter fun u => decide (Bel (there fs S) v u)) = ((List.range fs.length).filter fun u => decide (Bel fs v u)) ↔ wt (there fs S) v = wt fs v := by
  constructor
  · intro h
    exact congrArg List.length h
  · intro h
    have h : ((List.range (there fs S).length).filter fun u => decide (Bel (there fs S) v u)).length = ((List.range fs.length).filter fun u => decide (Bel fs v u)).length := h
    rw [there_length] at h ⊢
    exact filter_len (fun u hu z => decide_eq_true (bel_there F.rng (of_decide_eq_true z) (List.mem_range.mp hu))) h
/-- v is possible: its whole tree is joined, and it can be joined to its parent -/
theorem can_iff {fs S : List Nat} (F : Forest fs) (b : Bg fs S) {v : Nat} (hv : v < fs.length) : Can fs S v ↔ par fs v ≠ v ∧ par (there fs S) v = v ∧ wt (there fs S) v = wt fs v ∧ Jn (there fs S) v (par fs v) := by
  constructor
  · intro p
    refine ⟨p.lo, by rw [par_there hv, if_neg p.new], ?_, b.jn F p⟩
    rw [there_out F b.dc hv]
    exact (grown_all F hv).mpr p.all
  · rintro ⟨h1, h2, h3, h4⟩
    refine (step_pos F b hv).mp ⟨h4, ?_⟩
    rw [there_own F b.dc hv h1, ← h3, there_out F b.dc hv]
end
end Lf
namespace Lf
open PySem PySem.Spec PyProof.Rows L2
/-! ### _law_ready, _law_order -/
abbrev sReady : Stmt := topS (39)
abbrev sOrder : Stmt := topS (40)
theorem mem_joinsL {fs : List Nat} {a b : Nat} : [a, b] ∈ joinsL fs (tops fs) ↔ Jn fs a b := by
  unfold joinsL
  rw [List.mem_flatMap]
  constructor
  · rintro ⟨x, hx, h⟩
    obtain ⟨y, hy, e⟩ := List.mem_map.mp h
    obtain ⟨hy1, hy2⟩ := List.mem_filter.mp hy
    cases e
    obtain ⟨a1, a2⟩ := mem_tops.mp hx
    obtain ⟨b1, b2⟩ := mem_tops.mp hy1
    unfold pj at hy2
    simp at hy2
    exact ⟨a1, a2, b1, b2, hy2.1, hy2.2⟩
  · rintro ⟨h1, h2, h3, h4, h5, h6⟩
    refine ⟨a, mem_tops.mpr ⟨h1, h2⟩, List.mem_map.mpr ⟨b, List.mem_filter.mpr ⟨mem_tops.mpr ⟨h3, h4⟩, ?_⟩, rfl⟩⟩
    unfold pj
    simp [h5, h6]
theorem below_same {fs S : List Nat} (F : Forest fs) {v : Nat} : belowL (there fs S) v = belowL fs v ↔ wt (there fs S) v = wt fs v := tree_same F
noncomputable def readyL (fs S : List Nat) : List Nat := (List.range fs.length).filter (posB fs S)
theorem mem_ready {fs S : List Nat} {v : Nat} : v ∈ readyL fs S ↔ Can fs S v := by
  unfold readyL
  rw [List.mem_filter, List.mem_range, posB_iff]
  exact ⟨fun h => h.2, fun h => ⟨h.low, h⟩⟩
def spReady : Sp := fun vs H Q _ => ∃ (p m : Addr) (fs S : List Nat), vs = [.ref p, .ref m] ∧ H p = some (.tup (nv fs)) ∧ H m = some (.tup (nv (there fs S))) ∧ Forest fs ∧ Bg fs S ∧ ∀ (q : Addr) (H' : Hp), Same H H' → H q = none → H' q = some (.lst (nv (readyL fs S))) → Q (.ref q) H'
section
variable {P : Program} {w : World} {K : PySem.W.Frag} {mg : Str → Option Value} {base : Heap} {C : Addr}
abbrev NRe : List Str := ["_law_parents", "_law_there", "_law_found", "_law_joins", "_law_child"]
theorem scReady : FnScope NRe ["_law_parents", "_law_there"] (defScope sReady) := ⟨rfl, rfl, rfl, by decide +kernel, rfl, by decide +kernel, by decide +kernel⟩
theorem ok_ready (M : Mk K mg "_law_ready" sReady ["_law_parents", "_law_there"]) (dS : Df P w K mg base CX0 6 "possible_joins" ["forest"] (spPoss K)) (dT : Df P w K mg base (L2.CX P w) 5 "tree_of" ["forest", "vertex"] (spTreeX K C)) (ml : mg "len" = none) (mr : mg "range" = none) : Df P w K mg base CX0 7 "_law_ready" ["_law_parents", "_law_there"] spReady := by
  obtain ⟨f, fd, F, b, g⟩ := M
  refine Df.of F b g (F.ok scReady (fun vs H Q E h => ?_) (fun cdv A outer s H vs Q E hr h => ?_))
  · obtain ⟨p, m, fs, S, rfl, _⟩ := h
    rfl
  · obtain ⟨p, m, fs, S, rfl, hp, hm, hF, bS, q⟩ := h
    have nd := scReady.nd
    have hu : (A.deeper (envOfC "_law_ready" (defScope sReady) s.heap.objs.size f cdv)).units + 65 < cLine := by have := hr.un; omega
    refine ⟨_, pss_cons (ps_par (i := 2) (j := 3) (by rfl) nd rfl rfl (by decide) rfl rfl (pa_cons (pe_lst pa_nil) (pa_cons (pe_d dS hr (pa_cons (pv 1) pa_nil)) pa_nil)) (by rfl))
      (pss_cons (ps_for PassesOwn.never rfl (pi_range1 (by rfl) mr (pa_cons (pe_callB call_len_seq (by rfl) ml PySem.boot_len (pa_cons (pv 0) pa_nil)) pa_nil)) (pg_name (i := 4) nd rfl (.inl rfl))
        (pss_one (ps_if (PW.pt (pw_and (pt_cmpR op_ne (pe_ix ix_tup (pv 0) (pv 4) (fun _ _ => rfl)) (pv 4) (nomark _)) (pw_and (pt_cmpR op_eq (pe_ix ix_tup (pv 1) (pv 4) (fun _ _ => rfl)) (pv 4) (nomark _)) (pw_and1 (pt_cmpR (op_eqD hr.units) (pe_dD dT passL hr (pa_cons (pv 1) (pa_cons (pv 4) pa_nil))) (pe_dD dT passL hr (pa_cons (pv 0) (pa_cons (pv 4) pa_nil))) (nomark _))))))
          (pss_one (ps_if (pt_cmpR (op_inDT hu) (pe_tup (pa_cons (pv 4) (pa_cons (pe_ix ix_tup (pv 0) (pv 4) (fun _ _ => rfl)) pa_nil))) (pv 3) (by rfl)) (pss_one (ps_expr (pe_bm PySem.F.plainAttrs_list PySem.F.slot_list_append PySem.F.type_list_append mt_append (pv 2) (pa_cons (pv 4) pa_nil)))) pss_nil)) pss_nil)))
      (pss_one (ps_ret (pv 2)))), ?_⟩
    have few := hF.few
    have hM := there_forest hF S
    have lM := there_length fs S
    refine ⟨(by show 0 ≤ sizeLine; decide), fun fo nfo => ?_⟩
    have S1 := same_new (o := .lst []) nfo
    have g1 : (upd H fo (.lst [])) fo = some (.lst []) := upd_same
    generalize hG1 : upd H fo (.lst []) = G1 at *
    clear hG1
    refine ⟨.ref m, rfl, m, there fs S, rfl, SqT.of (S1 _ _ hm), hM, fun jo us G2 s2 hjo ru => ⟨_, _, rfl, ?_⟩⟩
    have S02 := S1.trans s2
    refine ⟨.ref p, rfl, p, _, rfl, .inr (SqT.of (S02 _ _ hp)), _, rfl, ?_, ?_, for_range (lo := 0) (n := Int.toNat ((nv fs).length : Int)) (fun k σ G => ∃ c4 : Option V, σ = [some (.ref p), some (.ref m), some (.ref fo), some (.ref jo), c4] ∧ Same H G ∧ TK G2 G ∧ G fo = some (.lst (nv ((List.range k).filter (posB fs S))))) ⟨none, rfl, S02, TK.refl, s2 _ _ g1⟩ ?_ ?_⟩
    · rw [nv_length]
      omega
    · rw [nv_length]
      omega
    · rintro k σ G hk ⟨c4, rfl, sG, tG, hfo⟩
      rw [nv_length] at hk
      have hk' : k < fs.length := by omega
      have hpG := sG _ _ hp
      have hmG := sG _ _ hm
      have stay : ¬ Can fs S k → ∀ G' : Hp, Same G G' → ∃ c4 : Option V, [some (.ref p), some (.ref m), some (.ref fo), some (.ref jo), some (V.int (k : Int))] = [some (.ref p), some (.ref m), some (.ref fo), some (.ref jo), c4] ∧ Same H G' ∧ TK G2 G' ∧ G' fo = some (.lst (nv ((List.range (k + 1)).filter (posB fs S)))) := fun z G' s' => by
        refine ⟨_, rfl, sG.trans s', tG.trans (TK.of s'), ?_⟩
        rw [range_filter_succ, if_neg (fun y => z (posB_iff.mp y))]
        exact s' _ _ hfo
      have iff := can_iff hF bS hk'
      refine ⟨.ref p, rfl, .int (0 + (k : Int)), rfl, p, _, (k : Int), .int ((par fs k : Nat) : Int), rfl, by rw [Int.zero_add], SqT.of hpG, atI_nat (nv_get hk'), .int (0 + (k : Int)), rfl, rfl, _, rfl, ?_⟩
      rw [Int.zero_add] at *
      refine ite2 (fun h1 => ?_) (fun h1 => iteF (stay (fun z => z.lo (nat_eq h1)) _ (Same.refl G)))
      have h1 : par fs k ≠ k := nat_ne h1
      refine ⟨.ref m, rfl, .int (k : Int), rfl, m, _, (k : Int), .int ((par (there fs S) k : Nat) : Int), rfl, rfl, SqT.of hmG, atI_nat (nv_get (by omega)), .int (k : Int), rfl, rfl, _, rfl, ite2 (fun h2 => ?_) (fun h2 => iteF (stay (fun z => h2 (decide_eq_true (natV_inj.mpr (iff.mp z).2.1))) _ (Same.refl G)))⟩
      have h2 : par (there fs S) k = k := natV_inj.mp (of_decide_eq_true h2)
      refine ⟨.ref m, rfl, .int (k : Int), rfl, m, there fs S, .int (k : Int), .int (k : Int), rfl, SqT.of hmG, hM, .int _, fun x ex hx q3 G3 s3 n3 h3 => ?_, fun z => by rw [isV_nat (by omega)] at z; cases z⟩
      have ex : k = x := by have := PyData.int.inj ex; omega
      subst ex
      refine ⟨.ref p, rfl, .int (k : Int), rfl, p, fs, .int (k : Int), .int (k : Int), rfl, SqT.of (s3 _ _ hpG), hF, .int _, fun x ex hx q4 G4 s4 n4 h4 => ?_, fun z => by rw [isV_nat hk'] at z; cases z⟩
      have ex : k = x := by have := PyData.int.inj ex; omega
      subst ex
      have s34 := s3.trans s4
      refine ⟨rowD (belowL (there fs S) k), rowD (belowL fs k), dpRow (SqT.of (s4 _ _ h3)), dpRow (SqT.of h4), shRow _, shRow _, _, rfl, ?_⟩
      rw [eqv_row]
      refine ite2 (fun h5 => ?_) (fun h5 => stay (fun z => h5 (decide_eq_true ((below_same hF).mpr (iff.mp z).2.2.1))) _ s34)
      have h5 : wt (there fs S) k = wt fs k := (below_same hF).mp (of_decide_eq_true h5)
      refine ⟨.int (k : Int), rfl, .ref p, rfl, .int (k : Int), rfl, p, _, (k : Int), .int ((par fs k : Nat) : Int), rfl, rfl, SqT.of (s34 _ _ hpG), atI_nat (nv_get hk'), (by show 2 ≤ sizeLine; decide), fun t nt => ?_⟩
      have St := same_new (o := .tup [V.int (k : Int), V.int ((par fs k : Nat) : Int)]) nt
      have s3t := s34.trans St
      have tkG := tG.trans (TK.of s3t)
      refine ⟨.ref jo, rfl, rowD [k, par fs k], (joinsL (there fs S) (tops (there fs S))).map rowD, dpRow (r := [k, par fs k]) (SqT.of upd_same), .tup (SqT.of (tkG _ _ hjo)) (ru.mono tkG).dp, shRow _, shRowsT _, _, rfl, ?_⟩
      rw [any_rows]
      refine ite2 (fun h6 => ?_) (fun h6 => stay (fun z => h6 (decide_eq_true (mem_joinsL.mpr (iff.mp z).2.2.2))) _ s3t)
      have can : Can fs S k := iff.mpr ⟨h1, h2, h5, mem_joinsL.mp (of_decide_eq_true h6)⟩
      have hfo3 := s3t _ _ hfo
      refine ⟨.ref fo, rfl, .inl ⟨rfl, _, SqL.of hfo3⟩, .int (k : Int), rfl, fo, _, _, rfl, rfl, hfo3, ?_, _, rfl, fun c o z => ?_, tkG.trans (TK.lst hfo3), ?_⟩
      · rw [nv_length]
        exact small1000 (Nat.le_trans (range_filter_le _ _) (by omega))
      · rw [upd_ne (ne_of_none z nfo)]
        exact s3t _ _ (sG _ _ z)
      · rw [upd_same, range_filter_succ, if_pos (posB_iff.mpr can), nv_append]
        rfl
    · rintro σ G ⟨c4, rfl, sG, tG, hfo⟩
      rw [nv_length, Int.toNat_natCast] at hfo
      exact ⟨.ref fo, rfl, q fo G sG nfo hfo⟩
def spOrder : Sp := fun vs H Q _ => ∃ (w l p : Addr) (fs : List Nat), vs = [.ref w, .ref p] ∧ Well w l H ∧ H p = some (.tup (nv fs)) ∧ Forest fs ∧ (∀ c, ¬ Heavy fs c) ∧ ∀ (S : List Nat) (q : Addr) (H' : Hp), Hs fs S → Well w l H' → Keep w l H H' → H' q = some (.tup (nv S)) → Q (.ref q) H'
abbrev NOr : List Str := ["_law_well_here", "_law_parents", "_law_there", "_law_order_here", "_law_before", "_law_ready_here", "_law_child", "_law_v"]
theorem scOrder : FnScope NOr ["_law_well_here", "_law_parents"] (defScope sOrder) := ⟨rfl, rfl, rfl, by decide +kernel, rfl, by decide +kernel, by decide +kernel⟩
theorem ok_order (M : Mk K mg "_law_order" sOrder ["_law_well_here", "_law_parents"]) (dR : Df P w K mg base CX0 7 "_law_ready" ["_law_parents", "_law_there"] spReady) (dI : Df P w K mg base CX0 2 "_law_item" ["_law_well_here", "_law_items"] spItem) (ml : mg "len" = none) (mr : mg "range" = none) (mT : mg "tuple" = none) : Df P w K mg base CX0 8 "_law_order" ["_law_well_here", "_law_parents"] spOrder := by
  obtain ⟨f, fd, F, b, g⟩ := M
  refine Df.of F b g (F.ok scOrder (fun vs H Q E h => ?_) (fun cdv A outer s H vs Q E hr h => ?_))
  · obtain ⟨w, l, p, fs, rfl, _⟩ := h
    rfl
  · obtain ⟨w, l, p, fs, rfl, hW, hp, hF, nh, q⟩ := h
    have nd := scOrder.nd
    refine ⟨_, pss_cons (ps_par3 (i := 2) (j := 3) (l := 4) (by rfl) nd rfl rfl rfl (by decide) (by decide) (by decide) rfl rfl rfl (pa_cons (pe_tupRg rfl (by rfl) mT (prg_1 (by rfl) mr (pe_callB call_len_seq (by rfl) ml PySem.boot_len (pa_cons (pv 1) pa_nil)))) (pa_cons (pe_tup pa_nil) (pa_cons (pe_lst pa_nil) pa_nil))) (by rfl))
      (pss_cons (ps_while PassesOwn.never (pt_cmpR (op_neD hr.units) (pv 2) (pv 1) (nomark _))
        (pss_cons (ps_set (i := 5) nd rfl (.inr rfl) (pe_d dR hr (pa_cons (pv 1) (pa_cons (pv 2) pa_nil))))
        (pss_cons (ps_if (PW.pt (pw_or (pt_cmpR (op_eqD hr.units) (pv 5) (pe_lst pa_nil) (nomark _)) (pw_or1 (pt_cmpR (op_neD hr.units) (pe_lc (own := [("_law_v", 7)]) (g := gName 7) (tt := tTest (tOp (rIn K true) (tVar 7) (tVar 5))) (te := tVar 7) (by rfl) nd (pi_list (pv 4))
            (blkOk_by (own := [("_law_v", 7)]) (N := NOr) (sc := defScope sOrder) (by decide +kernel)) (fun _ _ _ _ _ => pg_name (i := 7) nd rfl (Or.inl rfl)) (fun _ _ _ _ _ => pts_one (pt_cmpR op_notIn_seq (pv 7) (pv 5) (by rfl))) (fun _ _ _ _ _ => pv 7)) (pe_lst pa_nil) (nomark _))))) (pss_one (ps_ret pe_non)) pss_nil)
        (pss_cons (ps_set (i := 6) nd rfl (.inr rfl) (pe_d dI hr (pa_cons (pv 0) (pa_cons (pv 5) pa_nil))))
        (pss_cons (ps_set (i := 2) nd rfl (.inl rfl) (pe_op op_catW (pe_op op_catW (pe_slice sl_tupW (pv 2) po_none (po_some (pv 6))) (pe_tup (pa_cons (pe_ix ix_tup (pv 1) (pv 6) (fun _ _ => rfl)) pa_nil))) (pe_slice sl_tupW (pv 2) (po_some (pe_op op_add (pv 6) pe_int)) po_none)))
        (pss_one (ps_par (i := 3) (j := 4) (by rfl) nd rfl rfl (by decide) rfl rfl (pa_cons (pe_op op_catW (pv 3) (pe_tup (pa_cons (pv 6) pa_nil))) (pa_cons (pe_lc (own := [("_law_v", 7)]) (g := gName 7) (tt := tTest (tOp rNe (tVar 7) (tVar 6))) (te := tVar 7) (by rfl) nd (pi_list (pv 5))
            (blkOk_by (own := [("_law_v", 7)]) (N := NOr) (sc := defScope sOrder) (by decide +kernel)) (fun _ _ _ _ _ => pg_name (i := 7) nd rfl (Or.inl rfl)) (fun _ _ _ _ _ => pts_one (pt_cmpR op_ne (pv 7) (pv 6) (nomark _))) (fun _ _ _ _ _ => pv 7)) pa_nil)) (by rfl))))))))
      (pss_one (ps_ret (pv 3)))), ?_⟩
    have few := hF.few
    have pw := neT hW hp
    refine ⟨.ref p, rfl, p, _, rfl, .inr (SqT.of hp), (fs.length : Int), by rw [nv_length], RgOk.of_le (by omega) (by omega) (by omega) (by omega), fun t1 n1 => ?_⟩
    rw [rgV_nv, ← there_nil fs]
    have S1 := same_new (o := .tup (nv (there fs []))) n1
    have g1 : (upd H t1 (.tup (nv (there fs [])))) t1 = some (.tup (nv (there fs []))) := upd_same
    generalize hG1 : upd H t1 (.tup (nv (there fs []))) = G1 at *
    clear hG1
    refine ⟨(by show 0 ≤ sizeLine; decide), fun t2 n2 => ⟨(by show 0 ≤ sizeLine; decide), fun t3 n3 => ⟨_, _, _, rfl, ?_⟩⟩⟩
    have S2 := same_new (o := .tup []) n2
    have S3 := same_new (o := .lst []) n3
    have S03 := S1.trans (S2.trans S3)
    have w3 := neN (hW.same (S1.trans S2)) n3
    refine ⟨fun m σ G => ∃ (S bs : List Nat) (qt qo qb : Addr) (c5 c6 : Option V), m = (lowers fs).length - S.length ∧ σ = [some (.ref w), some (.ref p), some (.ref qt), some (.ref qo), some (.ref qb), c5, c6, none] ∧ Well w l G ∧ Keep w l H G ∧ G qt = some (.tup (nv (there fs S))) ∧ G qo = some (.tup (nv S)) ∧ G qb = some (.lst (nv bs)) ∧ (qb ≠ w ∧ qb ≠ l) ∧ Bg fs S ∧ ∀ b ∈ bs, Can fs S b,
      ⟨_, [], [], t1, t2, t3, none, none, rfl, rfl, hW.same S03, Keep.of S03, S3 _ _ (S2 _ _ g1), S3 _ _ upd_same, upd_same, w3, .nil, fun b hb => nomatch hb⟩, ?_⟩
    rintro m σ G ⟨S, bs, qt, qo, qb, c5, c6, rfl, rfl, hWG, kG, hqt, hqo, hqb, wqb, bS, hbs⟩
    have hpG := kG _ _ pw.1 pw.2 hp
    have lS := bS.le
    refine ⟨.ref qt, rfl, .ref p, rfl, rowD (there fs S), rowD fs, dpRow (SqT.of hqt), dpRow (SqT.of hpG), shRow _, shRow _, _, rfl, ?_⟩
    rw [eqv_row]
    refine ite2 (fun h0 => ?_) (fun h0 => ?_)
    · have h0 : there fs S ≠ fs := fun z => by
        rw [decide_eq_true z] at h0
        cases h0
      have some' : ∃ u, Can fs S u := by
        refine Classical.byContradiction fun z => h0 (there_get.mpr fun v h1 h2 => Classical.byContradiction fun h3 => z (go_on hF nh bS.low h1 h2 h3))
      obtain ⟨u0, hu0⟩ := some'
      have lr : (readyL fs S).length ≤ fs.length := range_filter_le _ _
      have ne0 : (readyL fs S).isEmpty = false := by
        cases z : readyL fs S with
        | nil =>
          have := mem_ready.mpr hu0
          rw [z] at this
          cases this
        | cons _ _ => rfl
      refine ⟨fun σ' G' => ∃ (c : Nat) (bs : List Nat) (qt qo qb : Addr) (c5 c6 : Option V), Can fs S c ∧ σ' = [some (.ref w), some (.ref p), some (.ref qt), some (.ref qo), some (.ref qb), c5, c6, none] ∧ Well w l G' ∧ Keep w l H G' ∧ G' qt = some (.tup (nv (there fs (S ++ [c])))) ∧ G' qo = some (.tup (nv (S ++ [c]))) ∧ G' qb = some (.lst (nv bs)) ∧ (qb ≠ w ∧ qb ≠ l) ∧ ∀ b ∈ bs, Can fs (S ++ [c]) b, ?_, ?_⟩
      · rintro σ' G' ⟨c, bs, qt, qo, qb, c5, c6, cc, z1, z2, z3, z4, z5, z6, z7, z8⟩
        have b' := bS.snoc cc
        have := b'.le
        refine ⟨(lowers fs).length - (S ++ [c]).length, ?_, S ++ [c], bs, qt, qo, qb, c5, c6, rfl, z1, z2, z3, z4, z5, z6, z7, b', z8⟩
        rw [List.length_append] at this ⊢
        have this : S.length + 1 ≤ _ := this
        show _ - (S.length + 1) < _
        omega
      · refine ⟨.ref p, rfl, .ref qt, rfl, p, qt, fs, S, rfl, hpG, hqt, hF, bS, fun qr G2 s2 nqr hqr => ?_⟩
        have hW2 := hWG.same s2
        have wqr := neN hWG nqr
        refine ⟨.ref qr, rfl, (by show 0 ≤ sizeLine; decide), fun e1 ne1 => ?_⟩
        have Se := same_new (o := .lst []) ne1
        refine ⟨_, .list [], .lst (SqL.of (Se _ _ hqr)) (dpNv (readyL fs S)), .lst (SqL.of upd_same) .nil, shInts _, rfl, _, rfl, ?_⟩
        rw [eqv_nil, ne0]
        have s2e := s2.trans Se
        have hqre := Se _ _ hqr
        generalize hG3 : upd G2 e1 (.lst []) = G3 at *
        clear hG3
        refine iteF ⟨.ref qb, rfl, qb, rfl, ⟨_, SqL.of (s2e _ _ hqb)⟩, fun D nD9 => lc_list (K := K) (a := qb) (xs := nv bs) (fun i G4 => Same G3 G4 ∧ G4 D = some (.lst [])) ⟨same_new nD9, upd_same⟩ (fun i G4 _ z => SqL.of (z.1 _ _ (s2e _ _ hqb))) ?_ ?_⟩
        · rintro i x G4 hx ⟨s4, hD⟩
          obtain ⟨hi, rfl⟩ := nv_some hx
          have eb : bs[i]? = some (bs.getD i 0) := by rw [List.getD_eq_getElem?_getD, List.getElem?_eq_getElem hi]; rfl
          have inr : bs.getD i 0 ∈ readyL fs S := mem_ready.mpr (hbs _ (List.mem_of_getElem? eb))
          refine ⟨rfl, .int ((bs.getD i 0 : Nat) : Int), rfl, .ref qr, rfl, qr, _, rfl, .inl (SqL.of (s4 _ _ hqre)), rfl, flat_nv _, _, rfl, ?_⟩
          show if (!inV (.int ((bs.getD i 0 : Nat) : Int)) (nv (readyL fs S))) = true then _ else _
          rw [in_nv, decide_eq_true inr]
          exact ⟨s4, hD⟩
        · rintro G4 ⟨s4, hD⟩
          refine ⟨(by show 0 ≤ sizeLine; decide), fun e2 ne2 => ?_⟩
          have S5 := same_new (o := .lst []) ne2
          refine ⟨.list [], .list [], .lst (SqL.of (S5 _ _ hD)) .nil, .lst (SqL.of upd_same) .nil, rfl, rfl, _, rfl, iteF ?_⟩
          have s25 := s2e.trans (s4.trans S5)
          have hqr5 := S5 _ _ (s4 _ _ hqre)
          have hW5 := hWG.same s25
          generalize hG5 : upd G4 e2 (.lst []) = G5 at *
          clear hG5
          refine ⟨.ref w, rfl, .ref qr, rfl, w, l, qr, nv (readyL fs S), rfl, hW5, hqr5, wqr.1, wqr.2, ?_, by rw [nv_length]; omega, fun v G6 hv hW6 kp6 => ?_⟩
          · intro z
            have : readyL fs S = [] := List.map_eq_nil_iff.mp z
            rw [this] at ne0
            cases ne0
          obtain ⟨c, hc, rfl⟩ := List.mem_map.mp hv
          have cc := mem_ready.mp hc
          have cl := cc.low
          have k6 : Keep w l H G6 := kG.trans ((Keep.of s25).trans kp6)
          have hp6 := k6 _ _ pw.1 pw.2 hp
          have tk6 := TK.keep hW5 kp6
          have hqt6 := tk6 _ _ (s25 _ _ hqt)
          have hqo6 := tk6 _ _ (s25 _ _ hqo)
          have hqr6 := kp6 _ _ wqr.1 wqr.2 hqr5
          have lt := there_length fs S
          refine ⟨.ref qt, rfl, .int (c : Nat), rfl, _, rfl, qt, _, rfl, hqt6, fun r1 H1 s1 h1 => ?_⟩
          rw [cut_upto (by omega)] at h1
          refine ⟨.ref p, rfl, .int (c : Nat), rfl, p, _, (c : Nat), .int ((par fs c : Nat) : Int), rfl, rfl, SqT.of (s1 _ _ hp6), atI_nat (nv_get cl), (by show 1 ≤ sizeLine; decide), fun p5 n5 => ⟨r1, p5, _, _, rfl, rfl, same_new n5 _ _ h1, upd_same, ?_, fun r6 H6 s6 h6 => ?_⟩⟩
          · rw [nv_length, List.length_take]
            exact Nat.le_of_lt (small1000 (by show min c _ + 1 ≤ 1000; omega))
          have s16 := s1.trans ((same_new n5).trans s6)
          have ec : cutV (nv (there fs S)) (some ((c : Int) + 1)) none = nv ((there fs S).drop (c + 1)) := cut_from (i := c + 1) (by omega)
          refine ⟨.ref qt, rfl, .int (c : Nat), rfl, _, _, rfl, rfl, _, rfl, qt, _, rfl, s16 _ _ hqt6, fun r7 H7 s7 h7 => ?_⟩
          rw [ec] at h7
          refine ⟨r6, r7, _, _, rfl, rfl, s7 _ _ h6, h7, ?_, fun r8 H8 s8 h8 => ?_⟩
          · rw [List.length_append, nv_length, nv_length, List.length_take, List.length_drop]
            exact Nat.le_of_lt (small1000 (by show min c _ + 1 + ((there fs S).length - (c + 1)) ≤ 1000; omega))
          have s68 := s16.trans (s7.trans s8)
          have h8 : H8 r8 = some (.tup (nv (there fs (S ++ [c])))) := by
            rw [h8, ← there_snoc, set_cut (by omega), nv_append, nv_append]
            rfl
          have lS2 : S.length ≤ fs.length := nodup_le bS.nodup fun v hv => (bS.low v hv).1
          refine ⟨.ref qo, rfl, .int (c : Nat), rfl, (by show 1 ≤ sizeLine; decide), fun p9 n9 => ⟨qo, p9, _, _, rfl, rfl, same_new n9 _ _ (s68 _ _ hqo6), upd_same, ?_, fun ra Ha sa ha => ?_⟩⟩
          · rw [nv_length]
            exact Nat.le_of_lt (small1000 (by show S.length + 1 ≤ 1000; omega))
          have s6a := s68.trans ((same_new n9).trans sa)
          have ha : Ha ra = some (.tup (nv (S ++ [c]))) := by
            rw [ha, nv_append]
            rfl
          refine ⟨.ref qr, rfl, qr, rfl, ⟨_, SqL.of (s6a _ _ hqr6)⟩, fun D nD8 => lc_list (K := K) (a := qr) (xs := nv (readyL fs S)) (fun i G => Same Ha G ∧ G D = some (.lst (nv (((readyL fs S).take i).filter fun x => !decide (x = c))))) ⟨same_new nD8, upd_same⟩ (fun i G _ z => SqL.of (z.1 _ _ (s6a _ _ hqr6))) ?_ ?_⟩
          · rintro i x G hx ⟨sG, hD⟩
            obtain ⟨hi, rfl⟩ := nv_some hx
            have er : (readyL fs S)[i]? = some ((readyL fs S).getD i 0) := by rw [List.getD_eq_getElem?_getD, List.getElem?_eq_getElem hi]; rfl
            generalize (readyL fs S).getD i 0 = x at *
            have step : ((readyL fs S).take (i + 1)).filter (fun x => !decide (x = c)) = ((readyL fs S).take i).filter (fun x => !decide (x = c)) ++ (if x = c then [] else [x]) := by
              rw [take_snoc er, List.filter_append]
              by_cases z : x = c
              · rw [if_pos z, List.filter_cons_of_neg (by rw [decide_eq_true z]; exact Bool.false_ne_true)]
                rfl
              · rw [if_neg z, List.filter_cons_of_pos (by rw [decide_eq_false z]; rfl)]
                rfl
            refine ⟨rfl, .int (x : Nat), rfl, .int (c : Nat), rfl, rfl, _, rfl, ite2 (fun z => ?_) (fun z => ?_)⟩
            · have z : x ≠ c := nat_ne z
              refine ⟨.int (x : Nat), rfl, _, hD, ?_, fun a o e => ?_, ?_⟩
              · rw [nv_length]
                refine small1000 (Nat.le_trans (List.length_filter_le _ _) ?_)
                rw [List.length_take]
                omega
              · rw [upd_ne (ne_of_none e nD8)]
                exact sG _ _ e
              · rw [upd_same, step, if_neg z, nv_append]
                rfl
            · have z : x = c := nat_eq z
              refine ⟨sG, ?_⟩
              rw [step, if_pos z, List.append_nil]
              exact hD
          · rintro G ⟨sG, hD⟩
            rw [nv_length, List.take_length] at hD
            have s6G := s6a.trans sG
            have hWa := hW6.same s6a
            refine ⟨_, _, rfl, c, _, r8, ra, D, _, _, cc, rfl, hW6.same s6G, k6.trans (Keep.of s6G), sG _ _ (sa _ _ (same_new n9 _ _ h8)), sG _ _ ha, hD, neN hWa nD8, fun b hb => ?_⟩
            obtain ⟨b1, b2⟩ := List.mem_filter.mp hb
            exact (mem_ready.mp b1).stay fun e => by
              rw [decide_eq_true e] at b2
              cases b2
    · have h0 : there fs S = fs := Classical.byContradiction fun z => h0 (by rw [decide_eq_false z]; rfl)
      exact ⟨.ref qo, rfl, q S qo G (bS.there h0) hWG kG hqo⟩
end
end Lf
namespace Lf
open PySem PySem.Spec PyProof.Rows L2
/-! ### builds.py: joins_of; rows of joins along a history -/
def pairsL (fs S : List Nat) : List (List Nat) := S.map fun v => [v, par fs v]
theorem run_there {fs : List Nat} (F : Forest fs) : ∀ (T S : List Nat) (i : Nat), Bg fs (S ++ T) → runJ (there fs S) ((pairsL fs T).map rowD) i = (none, there fs (S ++ T))
  | [], S, i, _ => by rw [List.append_nil]; rfl
  | v :: T, S, i, h => by
    have h' : Bg fs ((S ++ [v]) ++ T) := by rw [List.append_assoc]; exact h
    obtain ⟨b, p⟩ := h'.pre.last
    have z : lawJn (there fs S) (rowD [v, par fs v]) = true := isJn_nat.mpr (b.jn F p)
    show (if lawJn (there fs S) (rowD [v, par fs v]) = true then runJ ((there fs S).set (unD (.int (v : Nat))) (unD (.int ((par fs v : Nat) : Int)))) ((pairsL fs T).map rowD) (i + 1) else _) = _
    rw [if_pos z, unD_nat, unD_nat, there_snoc, run_there F T (S ++ [v]) (i + 1) h', List.append_assoc]
    rfl
theorem run_all {fs S : List Nat} (F : Forest fs) (b : Bg fs S) : runJ (List.range fs.length) ((pairsL fs S).map rowD) 0 = (none, there fs S) := by
  have := run_there F S [] 0 b
  rw [there_nil] at this
  exact this
theorem run_inv {fs : List Nat} : ∀ (T S : List Nat) (d : Nat) (U : List Nat) (i : Nat) (R : List Nat), runJ (there fs S) ((pairsL fs (T ++ d :: U)).map rowD) i = (none, R) → Jn (there fs (S ++ T)) d (par fs d)
  | [], S, d, U, i, R, h => by
    rw [List.append_nil]
    refine isJn_nat.mp (Classical.byContradiction fun z => ?_)
    have h : (if lawJn (there fs S) (rowD [d, par fs d]) = true then runJ ((there fs S).set (unD (.int (d : Nat))) (unD (.int ((par fs d : Nat) : Int)))) ((pairsL fs U).map rowD) (i + 1) else (some i, there fs S)) = (none, R) := h
    rw [if_neg (show ¬ lawJn (there fs S) (rowD [d, par fs d]) = true from z)] at h
    cases h
  | v :: T, S, d, U, i, R, h => by
    have h : (if lawJn (there fs S) (rowD [v, par fs v]) = true then runJ ((there fs S).set (unD (.int (v : Nat))) (unD (.int ((par fs v : Nat) : Int)))) ((pairsL fs (T ++ d :: U)).map rowD) (i + 1) else (some i, there fs S)) = (none, R) := h
    by_cases z : lawJn (there fs S) (rowD [v, par fs v]) = true
    · rw [if_pos z, unD_nat, unD_nat, there_snoc] at h
      have := run_inv T (S ++ [v]) d U (i + 1) R h
      rw [List.append_assoc] at this
      exact this
    · rw [if_neg z] at h
      cases h
/-- an order of all vertices that are no roots, whose joins can be done, is a history -/
theorem run_hist {fs : List Nat} (F : Forest fs) {O : List Nat} (nd : O.Nodup) (mem : ∀ v, v ∈ O ↔ v < fs.length ∧ par fs v ≠ v) {R : List Nat} (h : runJ (List.range fs.length) ((pairsL fs O).map rowD) 0 = (none, R)) : Hs fs O := by
  rw [← there_nil] at h
  have step : ∀ (T U : List Nat), O = T ++ U → Bg fs T := by
    intro T
    have key : ∀ (n : Nat) (T U : List Nat), T.length = n → O = T ++ U → Bg fs T := by
      intro n
      induction n with
      | zero =>
        intro T U l e
        rw [List.length_eq_zero_iff.mp l]
        exact .nil
      | succ n ih =>
        intro T U l e
        rcases List.eq_nil_or_concat T with z | ⟨S, v, z⟩
        · rw [z] at l
          cases l
        · rw [List.concat_eq_append] at z
          subst z
          rw [List.length_append] at l
          have l : S.length + 1 = n + 1 := l
          have e2 : O = S ++ v :: U := by rw [e, List.append_assoc]; rfl
          have bS := ih S (v :: U) (by omega) e2
          have hv := (mem v).mp (by rw [e2]; exact List.mem_append_right _ List.mem_cons_self)
          have jv := run_inv S [] v U 0 R (by rw [← e2]; exact h)
          have vS : v ∉ S := fun z => by
            rw [e2] at nd
            exact (List.nodup_append.mp nd).2.2 v z v List.mem_cons_self rfl
          refine bS.snoc ((step_pos F bS hv.1).mp ⟨jv, ?_⟩)
          rw [there_own F bS.dc hv.1 hv.2]
          refine (grown_all F hv.1).mpr fun d hd => Classical.byContradiction fun nS => ?_
          obtain ⟨k1, k2, k3⟩ := mem_kids.mp hd
          have dO : d ∈ O := (mem d).mpr ⟨k1, fun e => k3 e.symm⟩
          have dv : d ≠ v := fun e => by
            subst e
            exact hv.2 k2
          have dU : d ∈ U := by
            rw [e2] at dO
            rcases List.mem_append.mp dO with y | y
            · exact absurd y nS
            · rcases List.mem_cons.mp y with y | y
              · exact absurd y dv
              · exact y
          obtain ⟨U1, U2, eU⟩ := List.append_of_mem dU
          have jd := run_inv (S ++ v :: U1) [] d U2 0 R (by rw [← h, e2, eU, List.append_assoc]; rfl)
          have vin : v ∈ [] ++ (S ++ v :: U1) := List.mem_append_right _ (List.mem_append_right _ List.mem_cons_self)
          have := jd.2.2.2.1
          rw [k2, par_there hv.1, if_pos vin] at this
          exact hv.2 this
    exact fun U e => key _ T U rfl e
  exact Hs.of (step O [] (by rw [List.append_nil])) fun v h1 h2 => (mem v).mpr ⟨h1, h2⟩
def spJOf : Sp := fun vs H Q _ => ∃ (p h : Addr) (fs S : List Nat), vs = [.ref p, .ref h] ∧ H p = some (.tup (nv fs)) ∧ H h = some (.tup (nv S)) ∧ (∀ v ∈ S, v < fs.length) ∧ S.length ≤ 100 ∧ ∀ (q : Addr) (us : List V) (H' : Hp), Same H H' → H' q = some (.tup us) → Rows H' us (pairsL fs S) → Q (.ref q) H'
section
variable {P : Program} {w : World} {K : PySem.W.Frag} {mg : Str → Option Value} {base : Heap} {C : Addr}
end
end Lf
namespace Lf
open PySem PySem.Spec PyProof.Rows L2
/-! ### the law -/
abbrev sLaw : Stmt := topS (41)
def spLaw (K : PySem.W.Frag) : Sp := fun vs H Q _ => ∃ (a : Addr) (ns : List Int), vs = [.ref a] ∧ SqL K H a (ns.map V.int) ∧ ns.length ≤ 63 ∧ ∀ H', Q (.bl true) H'
theorem cut_m1 (xs : List V) : cutV xs none (some (-1)) = xs.dropLast := by
  unfold cutV
  have e1 : HT.sIx xs.length 0 none = 0 := rfl
  have e2 : HT.sIx xs.length xs.length (some (-1)) = xs.length - 1 := by
    show (if (-1 : Int) < 0 then ((-1 : Int) + (xs.length : Int)).toNat else min (-1 : Int).toNat xs.length) = _
    rw [if_pos (by decide)]
    omega
  rw [e1, e2, List.drop_zero, Nat.sub_zero, List.dropLast_eq_take]
theorem pairs_drop (fs S : List Nat) : (pairsL fs S).dropLast = pairsL fs S.dropLast := by
  unfold pairsL
  rw [List.map_dropLast]
section
variable {P : Program} {w : World} {K : PySem.W.Frag} {mg : Str → Option Value} {base : Heap} {C : Addr}
abbrev NLw : List Str := ["_law_script", "_law_well_here", "_law_turn", "_law_parents", "_law_order_here", "_law_joins", "_law_vertex"]
theorem scLaw : FnScope NLw ["_law_script"] (defScope sLaw) := ⟨rfl, rfl, rfl, by decide +kernel, rfl, by decide +kernel, by decide +kernel⟩
theorem ok_law {f : Addr} {fd : FuncData} (Fn : Fun K "law" "law" sLaw f fd) (sys : ∃ o, base.get? sysModules = some o)
    (dW : Df P w K mg base CX0 1 "_law_well" ["_law_script"] (spWell K)) (dG : Df P w K mg base CX0 3 "_law_grown" ["_law_well_here", "_law_most"] spGrownB) (dO : Df P w K mg base CX0 8 "_law_order" ["_law_well_here", "_law_parents"] spOrder) (dC : Df P w K mg base CX0 10 "certificate_holds" ["forest", "value"] spCert) (dR : Df P w K mg base (L2.CX P w) 8 "run_joins" ["n", "joins"] (spRun K C)) (dB : Df P w K mg base CX0 7 "is_built" ["forest"] (spBuilt K))
    (ml : mg "len" = none) (mr : mg "range" = none) (mT : mg "tuple" = none) :
    RunG P w K mg base 11 f fd ["_law_script"] (spLaw K) := by
  refine runG_of Fn scLaw (fun vs H Q E h => ?_) (fun cdv A outer s H vs Q E hgu hr h => ?_)
  · obtain ⟨b, ns, rfl, _⟩ := h
    rfl
  · obtain ⟨b, ks, rfl, hS, hlen, q⟩ := h
    have nd := scLaw.nd
    refine ⟨_, pss_cons (ps_set (i := 1) nd rfl (.inl rfl) (pe_d dW hr (pa_cons (pv 0) pa_nil)))
      (pss_cons (ps_for PassesOwn.never rfl (pi_range1 (by rfl) mr (pa_cons pe_int pa_nil)) (pg_name (i := 2) nd rfl (.inl rfl))
        (pss_cons (ps_set (i := 3) nd rfl (.inr rfl) (pe_d dG hr (pa_cons (pv 1) (pa_cons (pe_ix ix_list (pe_lst (pa_cons pe_int (pa_cons pe_int (pa_cons pe_int pa_nil)))) (pv 2) (fun _ _ => rfl)) pa_nil))))
        (pss_cons (ps_set (i := 4) nd rfl (.inl rfl) (pe_d dO hr (pa_cons (pv 1) (pa_cons (pv 3) pa_nil))))
        (pss_cons (ps_if (PW.pt (pw_or (pt_cmpR op_isN (pv 4) pe_non (nomark _)) (pw_or1 (pt_not (pt_val (pe_d dC hr (pa_cons (pv 3) (pa_cons (pe_tup (pa_cons pe_str (pa_cons (pv 4) pa_nil))) pa_nil)))))))) (pss_one (ps_ret pe_bl)) pss_nil)
        (pss_cons (ps_set (i := 5) nd rfl (.inl rfl) (pe_callTy call_tuple_of (by rfl) mT (by decide +kernel) (pa_cons (pe_lc (own := [("_law_vertex", 6)]) (g := gName 6) (tt := tYes) (te := tTup (tCons (tVar 6) (tCons (tOp (rIxT K) (tVar 3) (tVar 6)) tNil))) (by rfl) nd (pi_tup (pv 4))
          (blkOk_by (own := [("_law_vertex", 6)]) (N := NLw) (sc := defScope sLaw) (by decide +kernel)) (fun _ _ _ _ _ => pg_name (i := 6) nd rfl (Or.inl rfl)) (fun _ _ _ _ _ => pts_nil) (fun _ _ _ _ _ => pe_tup (pa_cons (pv 6) (pa_cons (pe_ix ix_tup (pv 3) (pv 6) (fun _ _ => rfl)) pa_nil)))) pa_nil)))
        (pss_one (ps_if (PW.pt (pw_or (pt_cmpR (op_neD hr.units) (pe_dD dR passL hr (pa_cons (pe_callB call_len_seq (by rfl) ml PySem.boot_len (pa_cons (pv 3) pa_nil)) (pa_cons (pv 5) pa_nil))) (pv 3) (nomark _)) (pw_or1 (pt_not (pt_val (pe_d dB hr (pa_cons (pe_dD dR passL hr (pa_cons (pe_callB call_len_seq (by rfl) ml PySem.boot_len (pa_cons (pv 3) pa_nil)) (pa_cons (pe_slice sl_tupW (pv 5) po_none (po_some (pe_un un_neg pe_int))) pa_nil))) pa_nil))))))) (pss_one (ps_ret pe_bl)) pss_nil)))))))
      (pss_one (ps_ret pe_bl))), ?_⟩
    refine ⟨.ref b, rfl, b, ks, rfl, hS, hlen, fun H0 wa la sm0 hW0 nw nl => ?_⟩
    refine ⟨3, rfl, by decide, by decide, for_range (lo := 0) (n := 3) (fun i σ H1 => ∃ c2 c3 c4 c5 : Option V, σ = [some (.ref b), some (.ref wa), c2, c3, c4, c5, none] ∧ Well wa la H1) ⟨none, none, none, none, rfl, hW0⟩ ?_ (fun σ H1 _ => q H1)⟩
    rintro i σ H1 hi ⟨c2, c3, c4, c5, rfl, hW1⟩
    have hi3 : i < 3 := hi
    refine ⟨.ref wa, rfl, (by show 3 ≤ sizeLine; decide), fun l0 nl0 => ?_⟩
    have S0 := same_new (o := .lst [V.int 24, V.int 12, V.int 8]) nl0
    obtain ⟨mo, emo, mo0, mo24⟩ : ∃ m : Int, [V.int 24, V.int 12, V.int 8][i]? = some (.int m) ∧ 0 < m ∧ m ≤ 24 := by
      match i, hi3 with
      | 0, _ => exact ⟨24, rfl, by decide, by decide⟩
      | 1, _ => exact ⟨12, rfl, by decide, by decide⟩
      | 2, _ => exact ⟨8, rfl, by decide, by decide⟩
    refine ⟨.int (0 + (i : Int)), rfl, l0, _, (i : Int), _, rfl, by rw [Int.zero_add], SqL.of upd_same, atI_nat emo, wa, la, mo, rfl, hW1.same S0, mo0, mo24, fun fs pa H2 hF nh _ hW2 kp2 npa hpa => ?_⟩
    have few := hF.few
    have pos := hF.pos
    refine ⟨.ref wa, rfl, .ref pa, rfl, wa, la, pa, fs, rfl, hW2, hpa, hF, nh, fun S qo H3 hs hW3 kp3 hqo => ?_⟩
    have hpa3 := kp3 _ _ (neT hW2 hpa).1 (neT hW2 hpa).2 hpa
    refine ⟨.ref qo, rfl, rfl, _, rfl, ?_⟩
    rw [decide_eq_false (fun z => nomatch z)]
    refine iteF ⟨.ref pa, rfl, .ref qo, rfl, (by show 2 ≤ sizeLine; decide), fun t4 n4 => ?_⟩
    have S4 := same_new (o := .tup [V.str (Str.ofString "history"), V.ref qo]) n4
    refine ⟨pa, t4, fs, Str.ofString "history", .ref qo, rowD S, rfl, S4 _ _ hpa3, hF, upd_same, .tup (S4 _ _ hqo) (rpN S), fun H5 s5 => ⟨_, rfl, ?_⟩⟩
    have ec : certS fs (Str.ofString "history") (rowD S) = true := by
      unfold certS
      rw [if_pos rfl]
      exact wholeD_row.mpr hs
    rw [ec]
    have s35 := S4.trans s5
    have hpa5 := s35 _ _ hpa3
    have hqo5 := s35 _ _ hqo
    have hW5 := hW3.same s35
    have lS : S.length ≤ fs.length := nodup_le hs.1.nodup fun v hv => (hs.1.low v hv).1
    refine iteF ⟨.ref qo, rfl, qo, rfl, ⟨_, SqT.of hqo5⟩, fun D nD9 => lc_tup (K := K) (a := qo) (xs := nv S) (fun k G => Same H5 G ∧ ∃ us, G D = some (.lst us) ∧ Rows G us (pairsL fs (S.take k))) ⟨same_new nD9, [], upd_same, .nil⟩ (fun k G _ z => SqT.of (z.1 _ _ hqo5)) ?_ ?_⟩
    · rintro k x G hx ⟨sG, us, hD, ru⟩
      obtain ⟨hk, rfl⟩ := nv_some hx
      have ev : S[k]? = some (S.getD k 0) := by rw [List.getD_eq_getElem?_getD, List.getElem?_eq_getElem hk]; rfl
      generalize S.getD k 0 = v at *
      have vl := (hs.1.low v (List.mem_of_getElem? ev)).1
      refine ⟨rfl, ?_⟩
      dsimp only [tYes]
      rw [if_pos rfl]
      refine ⟨.int (v : Nat), rfl, .ref pa, rfl, .int (v : Nat), rfl, pa, _, v, .int ((par fs v : Nat) : Int), rfl, rfl, SqT.of (sG _ _ hpa5), atI_nat (nv_get vl), (by show 2 ≤ sizeLine; decide), fun t nt => ?_⟩
      have St := same_new (o := .tup [V.int (v : Nat), V.int ((par fs v : Nat) : Int)]) nt
      refine ⟨us, St _ _ hD, ?_, fun c o z => ?_, us ++ [.ref t], upd_same, ?_⟩
      · have := ru.length
        unfold pairsL at this
        rw [List.length_map, List.length_take] at this
        exact small1000 (by omega)
      · rw [upd_ne (ne_of_none z nD9)]
        exact St _ _ (sG _ _ z)
      · unfold pairsL
        rw [take_snoc ev, List.map_append]
        exact ((ru.mono (TK.of St)).snoc (r := [v, par fs v]) upd_same).mono (TK.lst (St _ _ hD))
    · rintro G ⟨sG, us, hD, ru⟩
      rw [nv_length, List.take_length] at ru
      refine ⟨D, _, rfl, .inl ⟨SqL.of hD, fun jo njo => ?_⟩⟩
      have Sj := same_new (o := .tup us) njo
      have sGj := sG.trans Sj
      have hjo : (upd G jo (.tup us)) jo = some (.tup us) := upd_same
      have ruj := ru.mono (TK.of Sj)
      generalize hGj : upd G jo (.tup us) = Gj at *
      clear hGj
      have hpaj := sGj _ _ hpa5
      have r1 := run_all hF hs.1
      rw [hs.there] at r1
      refine ⟨.ref pa, rfl, pa, _, rfl, .inr (SqT.of hpaj), .ref jo, rfl, fs.length, .ref jo, .tuple ((pairsL fs S).map rowD), by rw [nv_length]; rfl, pos, few, .tup hjo ruj.rp, fun ds e _ q6 H6 s6 h6 => ?_, fun ds i e z => ?_, fun z => (z _ rfl).elim⟩
      · cases e
        rw [r1] at h6
        refine ⟨.ref pa, rfl, rowD fs, rowD fs, dpRow (SqT.of h6), dpRow (SqT.of (s6 _ _ hpaj)), shRow _, shRow _, _, rfl, ?_⟩
        rw [eqv_row, decide_eq_true rfl]
        have hpa6 := s6 _ _ hpaj
        have hjo6 := s6 _ _ hjo
        have ru6 := ruj.mono (TK.of s6)
        refine iteF ⟨.ref pa, rfl, pa, _, rfl, .inr (SqT.of hpa6), .ref jo, rfl, 1, rfl, _, rfl, jo, _, rfl, hjo6, fun r7 H7 s7 h7 => ?_⟩
        rw [show (-(1 : Int)) = -1 from rfl, cut_m1] at h7
        have ru7 := (ru6.mono (TK.of s7)).dropLast
        rw [pairs_drop] at ru7
        have bD : Bg fs S.dropLast := by
          rw [List.dropLast_eq_take]
          exact hs.1.take _
        have r2 := run_all hF bD
        refine ⟨fs.length, .ref r7, .tuple ((pairsL fs S.dropLast).map rowD), by rw [nv_length]; rfl, pos, few, .tup h7 ru7.rp, fun ds e _ q8 H8 s8 h8 => ?_, fun ds i e z => ?_, fun z => (z _ rfl).elim⟩
        · cases e
          rw [r2] at h8
          refine ⟨q8, there fs S.dropLast, rfl, SqT.of h8, there_forest hF _, fun H9 s9 => ⟨_, rfl, ?_⟩⟩
          have em : (heavyL (there fs S.dropLast)).isEmpty = true := by
            rw [List.isEmpty_iff]
            exact List.eq_nil_iff_forall_not_mem.mpr fun c hc => there_light hF bD c (mem_heavyL.mp hc)
          rw [em]
          exact iteF ⟨_, _, _, _, rfl, hW5.same (sGj.trans (s6.trans (s7.trans (s8.trans s9))))⟩
        · cases e
          rw [r2] at z
          cases z
      · cases e
        rw [r1] at z
        cases z
end
end Lf
namespace Lf
open PySem PySem.Spec PyProof.Rows L2
def initS (i : Nat) : Stmt := match topS i with
  | .ClassDef (body := b) .. => b.getD 0 (.Pass ⟨0, 0, 0, 0⟩)
  | _ => .Pass ⟨0, 0, 0, 0⟩
theorem sc_BadJoin : FnScope ["self", "index"] ["self", "index"] (defScope (initS 3)) := ⟨rfl, rfl, rfl, by decide +kernel, rfl, by decide +kernel, by decide +kernel⟩
theorem bd_BadJoin : ∃ q1 q2 q3 q4, defBody (initS 3) = [.Assign [.Attribute (.Name "self" q1) "index" q2] (.Name "index" q3) q4] := ⟨_, _, _, _, rfl⟩
theorem sc_NoVertex : FnScope ["self", "value"] ["self", "value"] (defScope (initS 4)) := ⟨rfl, rfl, rfl, by decide +kernel, rfl, by decide +kernel, by decide +kernel⟩
theorem bd_NoVertex : ∃ q1 q2 q3 q4, defBody (initS 4) = [.Assign [.Attribute (.Name "self" q1) "value" q2] (.Name "value" q3) q4] := ⟨_, _, _, _, rfl⟩
theorem all_mk {l : PySem.W.OpenLaw} {w : World} {K : PySem.W.Frag} {h : Heap} {mg : Str → Option Value} {fa : Addr} (X : K.In h) (G : h.Ns mainGlobals mg) (hfa : mg "law" = some (.ref fa))
    {f_is_plain_int : Addr} {odF_is_plain_int anF_is_plain_int : Option Addr} {slF_is_plain_int : Array (Option Value)} {ocF_is_plain_int kVF_is_plain_int dcF_is_plain_int pmF_is_plain_int cdF_is_plain_int ctF_is_plain_int : Value} (aF_is_plain_int : PySem.W.nsIn K mainGlobals "is_plain_int" = some (some (.ref f_is_plain_int))) (lF_is_plain_int : K.lookup f_is_plain_int = some ⟨ocF_is_plain_int, odF_is_plain_int, .func (PySem.W.fnOf "is_plain_int" "is_plain_int" (defArgs (topS 6)) (defBody (topS 6)) (defScope (topS 6)) .none kVF_is_plain_int dcF_is_plain_int pmF_is_plain_int anF_is_plain_int cdF_is_plain_int ctF_is_plain_int), slF_is_plain_int⟩) (cF_is_plain_int : PySem.W.codeIn K cdF_is_plain_int "is_plain_int" = true) (kF_is_plain_int : PySem.W.keepIn K (.ref f_is_plain_int) = true)
    {f_is_vertex : Addr} {odF_is_vertex anF_is_vertex : Option Addr} {slF_is_vertex : Array (Option Value)} {ocF_is_vertex kVF_is_vertex dcF_is_vertex pmF_is_vertex cdF_is_vertex ctF_is_vertex : Value} (aF_is_vertex : PySem.W.nsIn K mainGlobals "is_vertex" = some (some (.ref f_is_vertex))) (lF_is_vertex : K.lookup f_is_vertex = some ⟨ocF_is_vertex, odF_is_vertex, .func (PySem.W.fnOf "is_vertex" "is_vertex" (defArgs (topS 7)) (defBody (topS 7)) (defScope (topS 7)) .none kVF_is_vertex dcF_is_vertex pmF_is_vertex anF_is_vertex cdF_is_vertex ctF_is_vertex), slF_is_vertex⟩) (cF_is_vertex : PySem.W.codeIn K cdF_is_vertex "is_vertex" = true) (kF_is_vertex : PySem.W.keepIn K (.ref f_is_vertex) = true)
    {f_check_vertex : Addr} {odF_check_vertex anF_check_vertex : Option Addr} {slF_check_vertex : Array (Option Value)} {ocF_check_vertex kVF_check_vertex dcF_check_vertex pmF_check_vertex cdF_check_vertex ctF_check_vertex : Value} (aF_check_vertex : PySem.W.nsIn K mainGlobals "check_vertex" = some (some (.ref f_check_vertex))) (lF_check_vertex : K.lookup f_check_vertex = some ⟨ocF_check_vertex, odF_check_vertex, .func (PySem.W.fnOf "check_vertex" "check_vertex" (defArgs (topS 8)) (defBody (topS 8)) (defScope (topS 8)) .none kVF_check_vertex dcF_check_vertex pmF_check_vertex anF_check_vertex cdF_check_vertex ctF_check_vertex), slF_check_vertex⟩) (cF_check_vertex : PySem.W.codeIn K cdF_check_vertex "check_vertex" = true) (kF_check_vertex : PySem.W.keepIn K (.ref f_check_vertex) = true)
    {f_single : Addr} {odF_single anF_single : Option Addr} {slF_single : Array (Option Value)} {ocF_single kVF_single dcF_single pmF_single cdF_single ctF_single : Value} (aF_single : PySem.W.nsIn K mainGlobals "single" = some (some (.ref f_single))) (lF_single : K.lookup f_single = some ⟨ocF_single, odF_single, .func (PySem.W.fnOf "single" "single" (defArgs (topS 9)) (defBody (topS 9)) (defScope (topS 9)) .none kVF_single dcF_single pmF_single anF_single cdF_single ctF_single), slF_single⟩) (cF_single : PySem.W.codeIn K cdF_single "single" = true) (kF_single : PySem.W.keepIn K (.ref f_single) = true)
    {f_roots : Addr} {odF_roots anF_roots : Option Addr} {slF_roots : Array (Option Value)} {ocF_roots kVF_roots dcF_roots pmF_roots cdF_roots ctF_roots : Value} (aF_roots : PySem.W.nsIn K mainGlobals "roots" = some (some (.ref f_roots))) (lF_roots : K.lookup f_roots = some ⟨ocF_roots, odF_roots, .func (PySem.W.fnOf "roots" "roots" (defArgs (topS 10)) (defBody (topS 10)) (defScope (topS 10)) .none kVF_roots dcF_roots pmF_roots anF_roots cdF_roots ctF_roots), slF_roots⟩) (cF_roots : PySem.W.codeIn K cdF_roots "roots" = true) (kF_roots : PySem.W.keepIn K (.ref f_roots) = true)
    {f_children_of : Addr} {odF_children_of anF_children_of : Option Addr} {slF_children_of : Array (Option Value)} {ocF_children_of kVF_children_of dcF_children_of pmF_children_of cdF_children_of ctF_children_of : Value} (aF_children_of : PySem.W.nsIn K mainGlobals "children_of" = some (some (.ref f_children_of))) (lF_children_of : K.lookup f_children_of = some ⟨ocF_children_of, odF_children_of, .func (PySem.W.fnOf "children_of" "children_of" (defArgs (topS 11)) (defBody (topS 11)) (defScope (topS 11)) .none kVF_children_of dcF_children_of pmF_children_of anF_children_of cdF_children_of ctF_children_of), slF_children_of⟩) (cF_children_of : PySem.W.codeIn K cdF_children_of "children_of" = true) (kF_children_of : PySem.W.keepIn K (.ref f_children_of) = true)
    {f_weights : Addr} {odF_weights anF_weights : Option Addr} {slF_weights : Array (Option Value)} {ocF_weights kVF_weights dcF_weights pmF_weights cdF_weights ctF_weights : Value} (aF_weights : PySem.W.nsIn K mainGlobals "weights" = some (some (.ref f_weights))) (lF_weights : K.lookup f_weights = some ⟨ocF_weights, odF_weights, .func (PySem.W.fnOf "weights" "weights" (defArgs (topS 12)) (defBody (topS 12)) (defScope (topS 12)) .none kVF_weights dcF_weights pmF_weights anF_weights cdF_weights ctF_weights), slF_weights⟩) (cF_weights : PySem.W.codeIn K cdF_weights "weights" = true) (kF_weights : PySem.W.keepIn K (.ref f_weights) = true)
    {f_path_of : Addr} {odF_path_of anF_path_of : Option Addr} {slF_path_of : Array (Option Value)} {ocF_path_of kVF_path_of dcF_path_of pmF_path_of cdF_path_of ctF_path_of : Value} (aF_path_of : PySem.W.nsIn K mainGlobals "path_of" = some (some (.ref f_path_of))) (lF_path_of : K.lookup f_path_of = some ⟨ocF_path_of, odF_path_of, .func (PySem.W.fnOf "path_of" "path_of" (defArgs (topS 13)) (defBody (topS 13)) (defScope (topS 13)) .none kVF_path_of dcF_path_of pmF_path_of anF_path_of cdF_path_of ctF_path_of), slF_path_of⟩) (cF_path_of : PySem.W.codeIn K cdF_path_of "path_of" = true) (kF_path_of : PySem.W.keepIn K (.ref f_path_of) = true)
    {f_tree_of : Addr} {odF_tree_of anF_tree_of : Option Addr} {slF_tree_of : Array (Option Value)} {ocF_tree_of kVF_tree_of dcF_tree_of pmF_tree_of cdF_tree_of ctF_tree_of : Value} (aF_tree_of : PySem.W.nsIn K mainGlobals "tree_of" = some (some (.ref f_tree_of))) (lF_tree_of : K.lookup f_tree_of = some ⟨ocF_tree_of, odF_tree_of, .func (PySem.W.fnOf "tree_of" "tree_of" (defArgs (topS 14)) (defBody (topS 14)) (defScope (topS 14)) .none kVF_tree_of dcF_tree_of pmF_tree_of anF_tree_of cdF_tree_of ctF_tree_of), slF_tree_of⟩) (cF_tree_of : PySem.W.codeIn K cdF_tree_of "tree_of" = true) (kF_tree_of : PySem.W.keepIn K (.ref f_tree_of) = true)
    {f_follows : Addr} {odF_follows anF_follows : Option Addr} {slF_follows : Array (Option Value)} {ocF_follows kVF_follows dcF_follows pmF_follows cdF_follows ctF_follows : Value} (aF_follows : PySem.W.nsIn K mainGlobals "follows" = some (some (.ref f_follows))) (lF_follows : K.lookup f_follows = some ⟨ocF_follows, odF_follows, .func (PySem.W.fnOf "follows" "follows" (defArgs (topS 17)) (defBody (topS 17)) (defScope (topS 17)) .none kVF_follows dcF_follows pmF_follows anF_follows cdF_follows ctF_follows), slF_follows⟩) (cF_follows : PySem.W.codeIn K cdF_follows "follows" = true) (kF_follows : PySem.W.keepIn K (.ref f_follows) = true)
    {f_finishes : Addr} {odF_finishes anF_finishes : Option Addr} {slF_finishes : Array (Option Value)} {ocF_finishes kVF_finishes dcF_finishes pmF_finishes cdF_finishes ctF_finishes : Value} (aF_finishes : PySem.W.nsIn K mainGlobals "finishes" = some (some (.ref f_finishes))) (lF_finishes : K.lookup f_finishes = some ⟨ocF_finishes, odF_finishes, .func (PySem.W.fnOf "finishes" "finishes" (defArgs (topS 18)) (defBody (topS 18)) (defScope (topS 18)) .none kVF_finishes dcF_finishes pmF_finishes anF_finishes cdF_finishes ctF_finishes), slF_finishes⟩) (cF_finishes : PySem.W.codeIn K cdF_finishes "finishes" = true) (kF_finishes : PySem.W.keepIn K (.ref f_finishes) = true)
    {f_is_whole : Addr} {odF_is_whole anF_is_whole : Option Addr} {slF_is_whole : Array (Option Value)} {ocF_is_whole kVF_is_whole dcF_is_whole pmF_is_whole cdF_is_whole ctF_is_whole : Value} (aF_is_whole : PySem.W.nsIn K mainGlobals "is_whole" = some (some (.ref f_is_whole))) (lF_is_whole : K.lookup f_is_whole = some ⟨ocF_is_whole, odF_is_whole, .func (PySem.W.fnOf "is_whole" "is_whole" (defArgs (topS 19)) (defBody (topS 19)) (defScope (topS 19)) .none kVF_is_whole dcF_is_whole pmF_is_whole anF_is_whole cdF_is_whole ctF_is_whole), slF_is_whole⟩) (cF_is_whole : PySem.W.codeIn K cdF_is_whole "is_whole" = true) (kF_is_whole : PySem.W.keepIn K (.ref f_is_whole) = true)
    {f_is_root : Addr} {odF_is_root anF_is_root : Option Addr} {slF_is_root : Array (Option Value)} {ocF_is_root kVF_is_root dcF_is_root pmF_is_root cdF_is_root ctF_is_root : Value} (aF_is_root : PySem.W.nsIn K mainGlobals "is_root" = some (some (.ref f_is_root))) (lF_is_root : K.lookup f_is_root = some ⟨ocF_is_root, odF_is_root, .func (PySem.W.fnOf "is_root" "is_root" (defArgs (topS 21)) (defBody (topS 21)) (defScope (topS 21)) .none kVF_is_root dcF_is_root pmF_is_root anF_is_root cdF_is_root ctF_is_root), slF_is_root⟩) (cF_is_root : PySem.W.codeIn K cdF_is_root "is_root" = true) (kF_is_root : PySem.W.keepIn K (.ref f_is_root) = true)
    {f_are_two_roots : Addr} {odF_are_two_roots anF_are_two_roots : Option Addr} {slF_are_two_roots : Array (Option Value)} {ocF_are_two_roots kVF_are_two_roots dcF_are_two_roots pmF_are_two_roots cdF_are_two_roots ctF_are_two_roots : Value} (aF_are_two_roots : PySem.W.nsIn K mainGlobals "are_two_roots" = some (some (.ref f_are_two_roots))) (lF_are_two_roots : K.lookup f_are_two_roots = some ⟨ocF_are_two_roots, odF_are_two_roots, .func (PySem.W.fnOf "are_two_roots" "are_two_roots" (defArgs (topS 22)) (defBody (topS 22)) (defScope (topS 22)) .none kVF_are_two_roots dcF_are_two_roots pmF_are_two_roots anF_are_two_roots cdF_are_two_roots ctF_are_two_roots), slF_are_two_roots⟩) (cF_are_two_roots : PySem.W.codeIn K cdF_are_two_roots "are_two_roots" = true) (kF_are_two_roots : PySem.W.keepIn K (.ref f_are_two_roots) = true)
    {f_is_join : Addr} {odF_is_join anF_is_join : Option Addr} {slF_is_join : Array (Option Value)} {ocF_is_join kVF_is_join dcF_is_join pmF_is_join cdF_is_join ctF_is_join : Value} (aF_is_join : PySem.W.nsIn K mainGlobals "is_join" = some (some (.ref f_is_join))) (lF_is_join : K.lookup f_is_join = some ⟨ocF_is_join, odF_is_join, .func (PySem.W.fnOf "is_join" "is_join" (defArgs (topS 23)) (defBody (topS 23)) (defScope (topS 23)) .none kVF_is_join dcF_is_join pmF_is_join anF_is_join cdF_is_join ctF_is_join), slF_is_join⟩) (cF_is_join : PySem.W.codeIn K cdF_is_join "is_join" = true) (kF_is_join : PySem.W.keepIn K (.ref f_is_join) = true)
    {f_with_parent : Addr} {odF_with_parent anF_with_parent : Option Addr} {slF_with_parent : Array (Option Value)} {ocF_with_parent kVF_with_parent dcF_with_parent pmF_with_parent cdF_with_parent ctF_with_parent : Value} (aF_with_parent : PySem.W.nsIn K mainGlobals "with_parent" = some (some (.ref f_with_parent))) (lF_with_parent : K.lookup f_with_parent = some ⟨ocF_with_parent, odF_with_parent, .func (PySem.W.fnOf "with_parent" "with_parent" (defArgs (topS 24)) (defBody (topS 24)) (defScope (topS 24)) .none kVF_with_parent dcF_with_parent pmF_with_parent anF_with_parent cdF_with_parent ctF_with_parent), slF_with_parent⟩) (cF_with_parent : PySem.W.codeIn K cdF_with_parent "with_parent" = true) (kF_with_parent : PySem.W.keepIn K (.ref f_with_parent) = true)
    {f_possible_joins : Addr} {odF_possible_joins anF_possible_joins : Option Addr} {slF_possible_joins : Array (Option Value)} {ocF_possible_joins kVF_possible_joins dcF_possible_joins pmF_possible_joins cdF_possible_joins ctF_possible_joins : Value} (aF_possible_joins : PySem.W.nsIn K mainGlobals "possible_joins" = some (some (.ref f_possible_joins))) (lF_possible_joins : K.lookup f_possible_joins = some ⟨ocF_possible_joins, odF_possible_joins, .func (PySem.W.fnOf "possible_joins" "possible_joins" (defArgs (topS 25)) (defBody (topS 25)) (defScope (topS 25)) .none kVF_possible_joins dcF_possible_joins pmF_possible_joins anF_possible_joins cdF_possible_joins ctF_possible_joins), slF_possible_joins⟩) (cF_possible_joins : PySem.W.codeIn K cdF_possible_joins "possible_joins" = true) (kF_possible_joins : PySem.W.keepIn K (.ref f_possible_joins) = true)
    {f_run_by : Addr} {odF_run_by anF_run_by : Option Addr} {slF_run_by : Array (Option Value)} {ocF_run_by kVF_run_by dcF_run_by pmF_run_by cdF_run_by ctF_run_by : Value} (aF_run_by : PySem.W.nsIn K mainGlobals "run_by" = some (some (.ref f_run_by))) (lF_run_by : K.lookup f_run_by = some ⟨ocF_run_by, odF_run_by, .func (PySem.W.fnOf "run_by" "run_by" (defArgs (topS 26)) (defBody (topS 26)) (defScope (topS 26)) .none kVF_run_by dcF_run_by pmF_run_by anF_run_by cdF_run_by ctF_run_by), slF_run_by⟩) (cF_run_by : PySem.W.codeIn K cdF_run_by "run_by" = true) (kF_run_by : PySem.W.keepIn K (.ref f_run_by) = true)
    {f_run_joins : Addr} {odF_run_joins anF_run_joins : Option Addr} {slF_run_joins : Array (Option Value)} {ocF_run_joins kVF_run_joins dcF_run_joins pmF_run_joins cdF_run_joins ctF_run_joins : Value} (aF_run_joins : PySem.W.nsIn K mainGlobals "run_joins" = some (some (.ref f_run_joins))) (lF_run_joins : K.lookup f_run_joins = some ⟨ocF_run_joins, odF_run_joins, .func (PySem.W.fnOf "run_joins" "run_joins" (defArgs (topS 27)) (defBody (topS 27)) (defScope (topS 27)) .none kVF_run_joins dcF_run_joins pmF_run_joins anF_run_joins cdF_run_joins ctF_run_joins), slF_run_joins⟩) (cF_run_joins : PySem.W.codeIn K cdF_run_joins "run_joins" = true) (kF_run_joins : PySem.W.keepIn K (.ref f_run_joins) = true)
    {f_heavy_children : Addr} {odF_heavy_children anF_heavy_children : Option Addr} {slF_heavy_children : Array (Option Value)} {ocF_heavy_children kVF_heavy_children dcF_heavy_children pmF_heavy_children cdF_heavy_children ctF_heavy_children : Value} (aF_heavy_children : PySem.W.nsIn K mainGlobals "heavy_children" = some (some (.ref f_heavy_children))) (lF_heavy_children : K.lookup f_heavy_children = some ⟨ocF_heavy_children, odF_heavy_children, .func (PySem.W.fnOf "heavy_children" "heavy_children" (defArgs (topS 28)) (defBody (topS 28)) (defScope (topS 28)) .none kVF_heavy_children dcF_heavy_children pmF_heavy_children anF_heavy_children cdF_heavy_children ctF_heavy_children), slF_heavy_children⟩) (cF_heavy_children : PySem.W.codeIn K cdF_heavy_children "heavy_children" = true) (kF_heavy_children : PySem.W.keepIn K (.ref f_heavy_children) = true)
    {f_is_built : Addr} {odF_is_built anF_is_built : Option Addr} {slF_is_built : Array (Option Value)} {ocF_is_built kVF_is_built dcF_is_built pmF_is_built cdF_is_built ctF_is_built : Value} (aF_is_built : PySem.W.nsIn K mainGlobals "is_built" = some (some (.ref f_is_built))) (lF_is_built : K.lookup f_is_built = some ⟨ocF_is_built, odF_is_built, .func (PySem.W.fnOf "is_built" "is_built" (defArgs (topS 29)) (defBody (topS 29)) (defScope (topS 29)) .none kVF_is_built dcF_is_built pmF_is_built anF_is_built cdF_is_built ctF_is_built), slF_is_built⟩) (cF_is_built : PySem.W.codeIn K cdF_is_built "is_built" = true) (kF_is_built : PySem.W.keepIn K (.ref f_is_built) = true)
    {f_certificate_holds : Addr} {odF_certificate_holds anF_certificate_holds : Option Addr} {slF_certificate_holds : Array (Option Value)} {ocF_certificate_holds kVF_certificate_holds dcF_certificate_holds pmF_certificate_holds cdF_certificate_holds ctF_certificate_holds : Value} (aF_certificate_holds : PySem.W.nsIn K mainGlobals "certificate_holds" = some (some (.ref f_certificate_holds))) (lF_certificate_holds : K.lookup f_certificate_holds = some ⟨ocF_certificate_holds, odF_certificate_holds, .func (PySem.W.fnOf "certificate_holds" "certificate_holds" (defArgs (topS 30)) (defBody (topS 30)) (defScope (topS 30)) .none kVF_certificate_holds dcF_certificate_holds pmF_certificate_holds anF_certificate_holds cdF_certificate_holds ctF_certificate_holds), slF_certificate_holds⟩) (cF_certificate_holds : PySem.W.codeIn K cdF_certificate_holds "certificate_holds" = true) (kF_certificate_holds : PySem.W.keepIn K (.ref f_certificate_holds) = true)
    {f__law_well : Addr} {odF__law_well anF__law_well : Option Addr} {slF__law_well : Array (Option Value)} {ocF__law_well kVF__law_well dcF__law_well pmF__law_well cdF__law_well ctF__law_well : Value} (aF__law_well : PySem.W.nsIn K mainGlobals "_law_well" = some (some (.ref f__law_well))) (lF__law_well : K.lookup f__law_well = some ⟨ocF__law_well, odF__law_well, .func (PySem.W.fnOf "_law_well" "_law_well" (defArgs (topS 32)) (defBody (topS 32)) (defScope (topS 32)) .none kVF__law_well dcF__law_well pmF__law_well anF__law_well cdF__law_well ctF__law_well), slF__law_well⟩) (cF__law_well : PySem.W.codeIn K cdF__law_well "_law_well" = true) (kF__law_well : PySem.W.keepIn K (.ref f__law_well) = true)
    {f__law_pull : Addr} {odF__law_pull anF__law_pull : Option Addr} {slF__law_pull : Array (Option Value)} {ocF__law_pull kVF__law_pull dcF__law_pull pmF__law_pull cdF__law_pull ctF__law_pull : Value} (aF__law_pull : PySem.W.nsIn K mainGlobals "_law_pull" = some (some (.ref f__law_pull))) (lF__law_pull : K.lookup f__law_pull = some ⟨ocF__law_pull, odF__law_pull, .func (PySem.W.fnOf "_law_pull" "_law_pull" (defArgs (topS 33)) (defBody (topS 33)) (defScope (topS 33)) .none kVF__law_pull dcF__law_pull pmF__law_pull anF__law_pull cdF__law_pull ctF__law_pull), slF__law_pull⟩) (cF__law_pull : PySem.W.codeIn K cdF__law_pull "_law_pull" = true) (kF__law_pull : PySem.W.keepIn K (.ref f__law_pull) = true)
    {f__law_item : Addr} {odF__law_item anF__law_item : Option Addr} {slF__law_item : Array (Option Value)} {ocF__law_item kVF__law_item dcF__law_item pmF__law_item cdF__law_item ctF__law_item : Value} (aF__law_item : PySem.W.nsIn K mainGlobals "_law_item" = some (some (.ref f__law_item))) (lF__law_item : K.lookup f__law_item = some ⟨ocF__law_item, odF__law_item, .func (PySem.W.fnOf "_law_item" "_law_item" (defArgs (topS 34)) (defBody (topS 34)) (defScope (topS 34)) .none kVF__law_item dcF__law_item pmF__law_item anF__law_item cdF__law_item ctF__law_item), slF__law_item⟩) (cF__law_item : PySem.W.codeIn K cdF__law_item "_law_item" = true) (kF__law_item : PySem.W.keepIn K (.ref f__law_item) = true)
    {f__law_mixed : Addr} {odF__law_mixed anF__law_mixed : Option Addr} {slF__law_mixed : Array (Option Value)} {ocF__law_mixed kVF__law_mixed dcF__law_mixed pmF__law_mixed cdF__law_mixed ctF__law_mixed : Value} (aF__law_mixed : PySem.W.nsIn K mainGlobals "_law_mixed" = some (some (.ref f__law_mixed))) (lF__law_mixed : K.lookup f__law_mixed = some ⟨ocF__law_mixed, odF__law_mixed, .func (PySem.W.fnOf "_law_mixed" "_law_mixed" (defArgs (topS 35)) (defBody (topS 35)) (defScope (topS 35)) .none kVF__law_mixed dcF__law_mixed pmF__law_mixed anF__law_mixed cdF__law_mixed ctF__law_mixed), slF__law_mixed⟩) (cF__law_mixed : PySem.W.codeIn K cdF__law_mixed "_law_mixed" = true) (kF__law_mixed : PySem.W.keepIn K (.ref f__law_mixed) = true)
    {f__law_tops : Addr} {odF__law_tops anF__law_tops : Option Addr} {slF__law_tops : Array (Option Value)} {ocF__law_tops kVF__law_tops dcF__law_tops pmF__law_tops cdF__law_tops ctF__law_tops : Value} (aF__law_tops : PySem.W.nsIn K mainGlobals "_law_tops" = some (some (.ref f__law_tops))) (lF__law_tops : K.lookup f__law_tops = some ⟨ocF__law_tops, odF__law_tops, .func (PySem.W.fnOf "_law_tops" "_law_tops" (defArgs (topS 36)) (defBody (topS 36)) (defScope (topS 36)) .none kVF__law_tops dcF__law_tops pmF__law_tops anF__law_tops cdF__law_tops ctF__law_tops), slF__law_tops⟩) (cF__law_tops : PySem.W.codeIn K cdF__law_tops "_law_tops" = true) (kF__law_tops : PySem.W.keepIn K (.ref f__law_tops) = true)
    {f__law_heft : Addr} {odF__law_heft anF__law_heft : Option Addr} {slF__law_heft : Array (Option Value)} {ocF__law_heft kVF__law_heft dcF__law_heft pmF__law_heft cdF__law_heft ctF__law_heft : Value} (aF__law_heft : PySem.W.nsIn K mainGlobals "_law_heft" = some (some (.ref f__law_heft))) (lF__law_heft : K.lookup f__law_heft = some ⟨ocF__law_heft, odF__law_heft, .func (PySem.W.fnOf "_law_heft" "_law_heft" (defArgs (topS 37)) (defBody (topS 37)) (defScope (topS 37)) .none kVF__law_heft dcF__law_heft pmF__law_heft anF__law_heft cdF__law_heft ctF__law_heft), slF__law_heft⟩) (cF__law_heft : PySem.W.codeIn K cdF__law_heft "_law_heft" = true) (kF__law_heft : PySem.W.keepIn K (.ref f__law_heft) = true)
    {f__law_grown : Addr} {odF__law_grown anF__law_grown : Option Addr} {slF__law_grown : Array (Option Value)} {ocF__law_grown kVF__law_grown dcF__law_grown pmF__law_grown cdF__law_grown ctF__law_grown : Value} (aF__law_grown : PySem.W.nsIn K mainGlobals "_law_grown" = some (some (.ref f__law_grown))) (lF__law_grown : K.lookup f__law_grown = some ⟨ocF__law_grown, odF__law_grown, .func (PySem.W.fnOf "_law_grown" "_law_grown" (defArgs (topS 38)) (defBody (topS 38)) (defScope (topS 38)) .none kVF__law_grown dcF__law_grown pmF__law_grown anF__law_grown cdF__law_grown ctF__law_grown), slF__law_grown⟩) (cF__law_grown : PySem.W.codeIn K cdF__law_grown "_law_grown" = true) (kF__law_grown : PySem.W.keepIn K (.ref f__law_grown) = true)
    {f__law_ready : Addr} {odF__law_ready anF__law_ready : Option Addr} {slF__law_ready : Array (Option Value)} {ocF__law_ready kVF__law_ready dcF__law_ready pmF__law_ready cdF__law_ready ctF__law_ready : Value} (aF__law_ready : PySem.W.nsIn K mainGlobals "_law_ready" = some (some (.ref f__law_ready))) (lF__law_ready : K.lookup f__law_ready = some ⟨ocF__law_ready, odF__law_ready, .func (PySem.W.fnOf "_law_ready" "_law_ready" (defArgs (topS 39)) (defBody (topS 39)) (defScope (topS 39)) .none kVF__law_ready dcF__law_ready pmF__law_ready anF__law_ready cdF__law_ready ctF__law_ready), slF__law_ready⟩) (cF__law_ready : PySem.W.codeIn K cdF__law_ready "_law_ready" = true) (kF__law_ready : PySem.W.keepIn K (.ref f__law_ready) = true)
    {f__law_order : Addr} {odF__law_order anF__law_order : Option Addr} {slF__law_order : Array (Option Value)} {ocF__law_order kVF__law_order dcF__law_order pmF__law_order cdF__law_order ctF__law_order : Value} (aF__law_order : PySem.W.nsIn K mainGlobals "_law_order" = some (some (.ref f__law_order))) (lF__law_order : K.lookup f__law_order = some ⟨ocF__law_order, odF__law_order, .func (PySem.W.fnOf "_law_order" "_law_order" (defArgs (topS 40)) (defBody (topS 40)) (defScope (topS 40)) .none kVF__law_order dcF__law_order pmF__law_order anF__law_order cdF__law_order ctF__law_order), slF__law_order⟩) (cF__law_order : PySem.W.codeIn K cdF__law_order "_law_order" = true) (kF__law_order : PySem.W.keepIn K (.ref f__law_order) = true)
    {f_law : Addr} {odF_law anF_law : Option Addr} {slF_law : Array (Option Value)} {ocF_law kVF_law dcF_law pmF_law cdF_law ctF_law : Value} (aF_law : PySem.W.nsIn K mainGlobals "law" = some (some (.ref f_law))) (lF_law : K.lookup f_law = some ⟨ocF_law, odF_law, .func (PySem.W.fnOf "law" "law" (defArgs (topS 41)) (defBody (topS 41)) (defScope (topS 41)) .none kVF_law dcF_law pmF_law anF_law cdF_law ctF_law), slF_law⟩) (cF_law : PySem.W.codeIn K cdF_law "law" = true) (kF_law : PySem.W.keepIn K (.ref f_law) = true)
    (z_abs : PySem.W.nsIn K mainGlobals "abs" = some none)
    (z_bool : PySem.W.nsIn K mainGlobals "bool" = some none)
    (z_enumerate : PySem.W.nsIn K mainGlobals "enumerate" = some none)
    (z_int : PySem.W.nsIn K mainGlobals "int" = some none)
    (z_isinstance : PySem.W.nsIn K mainGlobals "isinstance" = some none)
    (z_len : PySem.W.nsIn K mainGlobals "len" = some none)
    (z_list : PySem.W.nsIn K mainGlobals "list" = some none)
    (z_range : PySem.W.nsIn K mainGlobals "range" = some none)
    (z_sorted : PySem.W.nsIn K mainGlobals "sorted" = some none)
    (z_sum : PySem.W.nsIn K mainGlobals "sum" = some none)
    (z_tuple : PySem.W.nsIn K mainGlobals "tuple" = some none)
    {C_BadJoin : Addr} (cg_BadJoin : PySem.W.nsIn K mainGlobals "BadJoin" = some (some (.ref C_BadJoin)))
    {C_NoVertex : Addr} (cg_NoVertex : PySem.W.nsIn K mainGlobals "NoVertex" = some (some (.ref C_NoVertex)))
    {fI_BadJoin N_BadJoin : Addr} {nm_BadJoin q_BadJoin : Str} {bs_BadJoin bm_BadJoin : List Value} {sn_BadJoin : List Str} {sub_BadJoin : List Value} {ab_BadJoin : Bool} {col_BadJoin : Option Bool} {dd_BadJoin : Option Addr} {y0_BadJoin y1_BadJoin y2_BadJoin y3_BadJoin y5_BadJoin : Option Value} {od_BadJoin an_BadJoin : Option Addr} {sl_BadJoin : Array (Option Value)} {oc_BadJoin kV_BadJoin dc_BadJoin pm_BadJoin cd_BadJoin ct_BadJoin : Value}
    (xL_BadJoin : K.lookup C_BadJoin = some (excClassObj nm_BadJoin q_BadJoin C_BadJoin N_BadJoin bs_BadJoin bm_BadJoin true sn_BadJoin sub_BadJoin ab_BadJoin col_BadJoin dd_BadJoin y0_BadJoin y1_BadJoin y2_BadJoin y3_BadJoin y5_BadJoin "ValueError.__new__")) (hb_BadJoin : PySem.HandSPX.refsVE bm_BadJoin = true) (sa_BadJoin : PySem.W.findIn K (.ref C_BadJoin) "__setattr__" = some (some (.builtin "object.__setattr__"))) (nb_BadJoin : PySem.W.findIn K (.ref C_BadJoin) "index" = some none)
    (a_BadJoin : PySem.W.findIn K (.ref C_BadJoin) "__init__" = some (some (.ref fI_BadJoin))) (t_BadJoin : PySem.W.typeIn K (.ref fI_BadJoin) = some (.type "function")) (l_BadJoin : K.lookup fI_BadJoin = some ⟨oc_BadJoin, od_BadJoin, .func (PySem.W.fnOf "__init__" "BadJoin.__init__" (defArgs (initS 3)) (defBody (initS 3)) (defScope (initS 3)) .none kV_BadJoin dc_BadJoin pm_BadJoin an_BadJoin cd_BadJoin ct_BadJoin), sl_BadJoin⟩) (c_BadJoin : PySem.W.codeIn K cd_BadJoin "BadJoin.__init__" = true) (k_BadJoin : PySem.W.keepIn K (.ref fI_BadJoin) = true)
    (eC_BadJoin : PySem.W.subIn K (.ref C_BadJoin) (.type "BaseException") = some true) (tC_BadJoin : PySem.W.typeIn K (.ref C_BadJoin) = some (.type "type")) (kC_BadJoin : PySem.W.keepIn K (.ref C_BadJoin) = true)
    {fI_NoVertex N_NoVertex : Addr} {nm_NoVertex q_NoVertex : Str} {bs_NoVertex bm_NoVertex : List Value} {sn_NoVertex : List Str} {sub_NoVertex : List Value} {ab_NoVertex : Bool} {col_NoVertex : Option Bool} {dd_NoVertex : Option Addr} {y0_NoVertex y1_NoVertex y2_NoVertex y3_NoVertex y5_NoVertex : Option Value} {od_NoVertex an_NoVertex : Option Addr} {sl_NoVertex : Array (Option Value)} {oc_NoVertex kV_NoVertex dc_NoVertex pm_NoVertex cd_NoVertex ct_NoVertex : Value}
    (xL_NoVertex : K.lookup C_NoVertex = some (excClassObj nm_NoVertex q_NoVertex C_NoVertex N_NoVertex bs_NoVertex bm_NoVertex true sn_NoVertex sub_NoVertex ab_NoVertex col_NoVertex dd_NoVertex y0_NoVertex y1_NoVertex y2_NoVertex y3_NoVertex y5_NoVertex "ValueError.__new__")) (hb_NoVertex : PySem.HandSPX.refsVE bm_NoVertex = true) (sa_NoVertex : PySem.W.findIn K (.ref C_NoVertex) "__setattr__" = some (some (.builtin "object.__setattr__"))) (nb_NoVertex : PySem.W.findIn K (.ref C_NoVertex) "value" = some none)
    (a_NoVertex : PySem.W.findIn K (.ref C_NoVertex) "__init__" = some (some (.ref fI_NoVertex))) (t_NoVertex : PySem.W.typeIn K (.ref fI_NoVertex) = some (.type "function")) (l_NoVertex : K.lookup fI_NoVertex = some ⟨oc_NoVertex, od_NoVertex, .func (PySem.W.fnOf "__init__" "NoVertex.__init__" (defArgs (initS 4)) (defBody (initS 4)) (defScope (initS 4)) .none kV_NoVertex dc_NoVertex pm_NoVertex an_NoVertex cd_NoVertex ct_NoVertex), sl_NoVertex⟩) (c_NoVertex : PySem.W.codeIn K cd_NoVertex "NoVertex.__init__" = true) (k_NoVertex : PySem.W.keepIn K (.ref fI_NoVertex) = true)
    (eC_NoVertex : PySem.W.subIn K (.ref C_NoVertex) (.type "BaseException") = some true) (tC_NoVertex : PySem.W.typeIn K (.ref C_NoVertex) = some (.type "type")) (kC_NoVertex : PySem.W.keepIn K (.ref C_NoVertex) = true)
    {C_Course : Addr} (cg_Course : PySem.W.nsIn K mainGlobals "Course" = some (some (.ref C_Course))) (pg_Course : PySem.W.plainGet K C_Course Str.empty = true) (hd_Course : PySem.W.hasDictIn K C_Course = true) (po_Course : PySem.W.plainOver K C_Course = true) (sa_Course : PySem.W.findIn K (.ref C_Course) "__setattr__" = some (some (.builtin "object.__setattr__"))) (mk_Course : PySem.W.makesIn K C_Course = true) (kc_Course : PySem.W.keepIn K (.ref C_Course) = true)
    (nA_Course_parents : PySem.W.findIn K (.ref C_Course) "parents" = some none)
    (nA_Course_full : PySem.W.findIn K (.ref C_Course) "full" = some none)
    (nA_Course_grown : PySem.W.findIn K (.ref C_Course) "grown" = some none)
    (nA_Course_lower : PySem.W.findIn K (.ref C_Course) "lower" = some none)
    (nA_Course_joined : PySem.W.findIn K (.ref C_Course) "joined" = some none)
    {DT_Course_init : Addr} {clD_Course_init : Value} {odD_Course_init : Option Addr} {nD_Course_init : Nat} {slD_Course_init : Array (Option Value)}
    {fm_Course_init : Addr} {od_Course_init an_Course_init : Option Addr} {sl_Course_init : Array (Option Value)} {oc_Course_init kV_Course_init dc_Course_init pm_Course_init cd_Course_init ct_Course_init : Value} (a_Course_init : PySem.W.findIn K (.ref C_Course) "__init__" = some (some (.ref fm_Course_init))) (i_Course_init : PySem.W.isFn K (.ref fm_Course_init) = true) (l_Course_init : K.lookup fm_Course_init = some ⟨oc_Course_init, od_Course_init, .func (PySem.W.fnOf "__init__" "Course.__init__" (defArgs (inClass (topS 16) 0)) (defBody (inClass (topS 16) 0)) (defScope (inClass (topS 16) 0)) (.ref DT_Course_init) kV_Course_init dc_Course_init pm_Course_init an_Course_init cd_Course_init ct_Course_init), sl_Course_init⟩) (c_Course_init : PySem.W.codeIn K cd_Course_init "Course.__init__" = true) (k_Course_init : PySem.W.keepIn K (.ref fm_Course_init) = true)
    (lD_Course_init : K.lookup DT_Course_init = some ⟨clD_Course_init, odD_Course_init, .seq #[.none] nD_Course_init, slD_Course_init⟩)
    {fm_Course_allows : Addr} {od_Course_allows an_Course_allows : Option Addr} {sl_Course_allows : Array (Option Value)} {oc_Course_allows kV_Course_allows dc_Course_allows pm_Course_allows cd_Course_allows ct_Course_allows : Value} (a_Course_allows : PySem.W.findIn K (.ref C_Course) "allows" = some (some (.ref fm_Course_allows))) (i_Course_allows : PySem.W.isFn K (.ref fm_Course_allows) = true) (l_Course_allows : K.lookup fm_Course_allows = some ⟨oc_Course_allows, od_Course_allows, .func (PySem.W.fnOf "allows" "Course.allows" (defArgs (inClass (topS 16) 1)) (defBody (inClass (topS 16) 1)) (defScope (inClass (topS 16) 1)) .none kV_Course_allows dc_Course_allows pm_Course_allows an_Course_allows cd_Course_allows ct_Course_allows), sl_Course_allows⟩) (c_Course_allows : PySem.W.codeIn K cd_Course_allows "Course.allows" = true) (k_Course_allows : PySem.W.keepIn K (.ref fm_Course_allows) = true)
    {fm_Course_possible : Addr} {od_Course_possible an_Course_possible : Option Addr} {sl_Course_possible : Array (Option Value)} {oc_Course_possible kV_Course_possible dc_Course_possible pm_Course_possible cd_Course_possible ct_Course_possible : Value} (a_Course_possible : PySem.W.findIn K (.ref C_Course) "possible" = some (some (.ref fm_Course_possible))) (i_Course_possible : PySem.W.isFn K (.ref fm_Course_possible) = true) (l_Course_possible : K.lookup fm_Course_possible = some ⟨oc_Course_possible, od_Course_possible, .func (PySem.W.fnOf "possible" "Course.possible" (defArgs (inClass (topS 16) 2)) (defBody (inClass (topS 16) 2)) (defScope (inClass (topS 16) 2)) .none kV_Course_possible dc_Course_possible pm_Course_possible an_Course_possible cd_Course_possible ct_Course_possible), sl_Course_possible⟩) (c_Course_possible : PySem.W.codeIn K cd_Course_possible "Course.possible" = true) (k_Course_possible : PySem.W.keepIn K (.ref fm_Course_possible) = true)
    {fm_Course_take : Addr} {od_Course_take an_Course_take : Option Addr} {sl_Course_take : Array (Option Value)} {oc_Course_take kV_Course_take dc_Course_take pm_Course_take cd_Course_take ct_Course_take : Value} (a_Course_take : PySem.W.findIn K (.ref C_Course) "take" = some (some (.ref fm_Course_take))) (i_Course_take : PySem.W.isFn K (.ref fm_Course_take) = true) (l_Course_take : K.lookup fm_Course_take = some ⟨oc_Course_take, od_Course_take, .func (PySem.W.fnOf "take" "Course.take" (defArgs (inClass (topS 16) 3)) (defBody (inClass (topS 16) 3)) (defScope (inClass (topS 16) 3)) .none kV_Course_take dc_Course_take pm_Course_take an_Course_take cd_Course_take ct_Course_take), sl_Course_take⟩) (c_Course_take : PySem.W.codeIn K cd_Course_take "Course.take" = true) (k_Course_take : PySem.W.keepIn K (.ref fm_Course_take) = true)
    : ∃ fd : FuncData, (∀ (s : Shared) (u : Value), BindsTo s fd ⟨[u], []⟩ [("_law_script", u)]) ∧ ∀ base : Heap, K.In base → base.Ns mainGlobals mg → (∃ o, base.get? sysModules = some o) → RunG l.prog w K mg base 11 fa fd ["_law_script"] (spLaw K) := by
  have e := hfa.symm.trans (PySem.W.mg_of X G aF_law)
  cases e
  have F_is_plain_int := fun_mk (st := topS 6) lF_is_plain_int cF_is_plain_int kF_is_plain_int
  have B_is_plain_int := F_is_plain_int.binds (ps := ["value"]) fun _ _ _ _ _ _ us hl => match us, hl with | [_], _ => rfl
  have g_is_plain_int := PySem.W.mg_of X G aF_is_plain_int
  have M_is_plain_int : Mk K mg "is_plain_int" (topS 6) ["value"] := ⟨_, _, F_is_plain_int, B_is_plain_int, g_is_plain_int⟩
  have F_is_vertex := fun_mk (st := topS 7) lF_is_vertex cF_is_vertex kF_is_vertex
  have B_is_vertex := F_is_vertex.binds (ps := ["n", "value"]) fun _ _ _ _ _ _ us hl => match us, hl with | [_, _], _ => rfl
  have g_is_vertex := PySem.W.mg_of X G aF_is_vertex
  have M_is_vertex : Mk K mg "is_vertex" (topS 7) ["n", "value"] := ⟨_, _, F_is_vertex, B_is_vertex, g_is_vertex⟩
  have F_check_vertex := fun_mk (st := topS 8) lF_check_vertex cF_check_vertex kF_check_vertex
  have B_check_vertex := F_check_vertex.binds (ps := ["forest", "value"]) fun _ _ _ _ _ _ us hl => match us, hl with | [_, _], _ => rfl
  have g_check_vertex := PySem.W.mg_of X G aF_check_vertex
  have M_check_vertex : Mk K mg "check_vertex" (topS 8) ["forest", "value"] := ⟨_, _, F_check_vertex, B_check_vertex, g_check_vertex⟩
  have F_single := fun_mk (st := topS 9) lF_single cF_single kF_single
  have B_single := F_single.binds (ps := ["n"]) fun _ _ _ _ _ _ us hl => match us, hl with | [_], _ => rfl
  have g_single := PySem.W.mg_of X G aF_single
  have M_single : Mk K mg "single" (topS 9) ["n"] := ⟨_, _, F_single, B_single, g_single⟩
  have F_roots := fun_mk (st := topS 10) lF_roots cF_roots kF_roots
  have B_roots := F_roots.binds (ps := ["forest"]) fun _ _ _ _ _ _ us hl => match us, hl with | [_], _ => rfl
  have g_roots := PySem.W.mg_of X G aF_roots
  have M_roots : Mk K mg "roots" (topS 10) ["forest"] := ⟨_, _, F_roots, B_roots, g_roots⟩
  have F_children_of := fun_mk (st := topS 11) lF_children_of cF_children_of kF_children_of
  have B_children_of := F_children_of.binds (ps := ["forest", "vertex"]) fun _ _ _ _ _ _ us hl => match us, hl with | [_, _], _ => rfl
  have g_children_of := PySem.W.mg_of X G aF_children_of
  have M_children_of : Mk K mg "children_of" (topS 11) ["forest", "vertex"] := ⟨_, _, F_children_of, B_children_of, g_children_of⟩
  have F_weights := fun_mk (st := topS 12) lF_weights cF_weights kF_weights
  have B_weights := F_weights.binds (ps := ["forest"]) fun _ _ _ _ _ _ us hl => match us, hl with | [_], _ => rfl
  have g_weights := PySem.W.mg_of X G aF_weights
  have M_weights : Mk K mg "weights" (topS 12) ["forest"] := ⟨_, _, F_weights, B_weights, g_weights⟩
  have F_path_of := fun_mk (st := topS 13) lF_path_of cF_path_of kF_path_of
  have B_path_of := F_path_of.binds (ps := ["forest", "vertex"]) fun _ _ _ _ _ _ us hl => match us, hl with | [_, _], _ => rfl
  have g_path_of := PySem.W.mg_of X G aF_path_of
  have M_path_of : Mk K mg "path_of" (topS 13) ["forest", "vertex"] := ⟨_, _, F_path_of, B_path_of, g_path_of⟩
  have F_tree_of := fun_mk (st := topS 14) lF_tree_of cF_tree_of kF_tree_of
  have B_tree_of := F_tree_of.binds (ps := ["forest", "vertex"]) fun _ _ _ _ _ _ us hl => match us, hl with | [_, _], _ => rfl
  have g_tree_of := PySem.W.mg_of X G aF_tree_of
  have M_tree_of : Mk K mg "tree_of" (topS 14) ["forest", "vertex"] := ⟨_, _, F_tree_of, B_tree_of, g_tree_of⟩
  have F_follows := fun_mk (st := topS 17) lF_follows cF_follows kF_follows
  have B_follows := F_follows.binds (ps := ["course", "value"]) fun _ _ _ _ _ _ us hl => match us, hl with | [_, _], _ => rfl
  have g_follows := PySem.W.mg_of X G aF_follows
  have M_follows : Mk K mg "follows" (topS 17) ["course", "value"] := ⟨_, _, F_follows, B_follows, g_follows⟩
  have F_finishes := fun_mk (st := topS 18) lF_finishes cF_finishes kF_finishes
  have B_finishes := F_finishes.binds (ps := ["course", "value"]) fun _ _ _ _ _ _ us hl => match us, hl with | [_, _], _ => rfl
  have g_finishes := PySem.W.mg_of X G aF_finishes
  have M_finishes : Mk K mg "finishes" (topS 18) ["course", "value"] := ⟨_, _, F_finishes, B_finishes, g_finishes⟩
  have F_is_whole := fun_mk (st := topS 19) lF_is_whole cF_is_whole kF_is_whole
  have B_is_whole := F_is_whole.binds (ps := ["forest", "value"]) fun _ _ _ _ _ _ us hl => match us, hl with | [_, _], _ => rfl
  have g_is_whole := PySem.W.mg_of X G aF_is_whole
  have M_is_whole : Mk K mg "is_whole" (topS 19) ["forest", "value"] := ⟨_, _, F_is_whole, B_is_whole, g_is_whole⟩
  have F_is_root := fun_mk (st := topS 21) lF_is_root cF_is_root kF_is_root
  have B_is_root := F_is_root.binds (ps := ["forest", "value"]) fun _ _ _ _ _ _ us hl => match us, hl with | [_, _], _ => rfl
  have g_is_root := PySem.W.mg_of X G aF_is_root
  have M_is_root : Mk K mg "is_root" (topS 21) ["forest", "value"] := ⟨_, _, F_is_root, B_is_root, g_is_root⟩
  have F_are_two_roots := fun_mk (st := topS 22) lF_are_two_roots cF_are_two_roots kF_are_two_roots
  have B_are_two_roots := F_are_two_roots.binds (ps := ["forest", "one", "other"]) fun _ _ _ _ _ _ us hl => match us, hl with | [_, _, _], _ => rfl
  have g_are_two_roots := PySem.W.mg_of X G aF_are_two_roots
  have M_are_two_roots : Mk K mg "are_two_roots" (topS 22) ["forest", "one", "other"] := ⟨_, _, F_are_two_roots, B_are_two_roots, g_are_two_roots⟩
  have F_is_join := fun_mk (st := topS 23) lF_is_join cF_is_join kF_is_join
  have B_is_join := F_is_join.binds (ps := ["forest", "child", "parent"]) fun _ _ _ _ _ _ us hl => match us, hl with | [_, _, _], _ => rfl
  have g_is_join := PySem.W.mg_of X G aF_is_join
  have M_is_join : Mk K mg "is_join" (topS 23) ["forest", "child", "parent"] := ⟨_, _, F_is_join, B_is_join, g_is_join⟩
  have F_with_parent := fun_mk (st := topS 24) lF_with_parent cF_with_parent kF_with_parent
  have B_with_parent := F_with_parent.binds (ps := ["forest", "child", "parent"]) fun _ _ _ _ _ _ us hl => match us, hl with | [_, _, _], _ => rfl
  have g_with_parent := PySem.W.mg_of X G aF_with_parent
  have M_with_parent : Mk K mg "with_parent" (topS 24) ["forest", "child", "parent"] := ⟨_, _, F_with_parent, B_with_parent, g_with_parent⟩
  have F_possible_joins := fun_mk (st := topS 25) lF_possible_joins cF_possible_joins kF_possible_joins
  have B_possible_joins := F_possible_joins.binds (ps := ["forest"]) fun _ _ _ _ _ _ us hl => match us, hl with | [_], _ => rfl
  have g_possible_joins := PySem.W.mg_of X G aF_possible_joins
  have M_possible_joins : Mk K mg "possible_joins" (topS 25) ["forest"] := ⟨_, _, F_possible_joins, B_possible_joins, g_possible_joins⟩
  have F_run_by := fun_mk (st := topS 26) lF_run_by cF_run_by kF_run_by
  have B_run_by := F_run_by.binds (ps := ["rule", "n", "joins"]) fun _ _ _ _ _ _ us hl => match us, hl with | [_, _, _], _ => rfl
  have g_run_by := PySem.W.mg_of X G aF_run_by
  have M_run_by : Mk K mg "run_by" (topS 26) ["rule", "n", "joins"] := ⟨_, _, F_run_by, B_run_by, g_run_by⟩
  have F_run_joins := fun_mk (st := topS 27) lF_run_joins cF_run_joins kF_run_joins
  have B_run_joins := F_run_joins.binds (ps := ["n", "joins"]) fun _ _ _ _ _ _ us hl => match us, hl with | [_, _], _ => rfl
  have g_run_joins := PySem.W.mg_of X G aF_run_joins
  have M_run_joins : Mk K mg "run_joins" (topS 27) ["n", "joins"] := ⟨_, _, F_run_joins, B_run_joins, g_run_joins⟩
  have F_heavy_children := fun_mk (st := topS 28) lF_heavy_children cF_heavy_children kF_heavy_children
  have B_heavy_children := F_heavy_children.binds (ps := ["forest"]) fun _ _ _ _ _ _ us hl => match us, hl with | [_], _ => rfl
  have g_heavy_children := PySem.W.mg_of X G aF_heavy_children
  have M_heavy_children : Mk K mg "heavy_children" (topS 28) ["forest"] := ⟨_, _, F_heavy_children, B_heavy_children, g_heavy_children⟩
  have F_is_built := fun_mk (st := topS 29) lF_is_built cF_is_built kF_is_built
  have B_is_built := F_is_built.binds (ps := ["forest"]) fun _ _ _ _ _ _ us hl => match us, hl with | [_], _ => rfl
  have g_is_built := PySem.W.mg_of X G aF_is_built
  have M_is_built : Mk K mg "is_built" (topS 29) ["forest"] := ⟨_, _, F_is_built, B_is_built, g_is_built⟩
  have F_certificate_holds := fun_mk (st := topS 30) lF_certificate_holds cF_certificate_holds kF_certificate_holds
  have B_certificate_holds := F_certificate_holds.binds (ps := ["forest", "value"]) fun _ _ _ _ _ _ us hl => match us, hl with | [_, _], _ => rfl
  have g_certificate_holds := PySem.W.mg_of X G aF_certificate_holds
  have M_certificate_holds : Mk K mg "certificate_holds" (topS 30) ["forest", "value"] := ⟨_, _, F_certificate_holds, B_certificate_holds, g_certificate_holds⟩
  have F__law_well := fun_mk (st := topS 32) lF__law_well cF__law_well kF__law_well
  have B__law_well := F__law_well.binds (ps := ["_law_script"]) fun _ _ _ _ _ _ us hl => match us, hl with | [_], _ => rfl
  have g__law_well := PySem.W.mg_of X G aF__law_well
  have M__law_well : Mk K mg "_law_well" (topS 32) ["_law_script"] := ⟨_, _, F__law_well, B__law_well, g__law_well⟩
  have F__law_pull := fun_mk (st := topS 33) lF__law_pull cF__law_pull kF__law_pull
  have B__law_pull := F__law_pull.binds (ps := ["_law_well_here", "_law_many"]) fun _ _ _ _ _ _ us hl => match us, hl with | [_, _], _ => rfl
  have g__law_pull := PySem.W.mg_of X G aF__law_pull
  have M__law_pull : Mk K mg "_law_pull" (topS 33) ["_law_well_here", "_law_many"] := ⟨_, _, F__law_pull, B__law_pull, g__law_pull⟩
  have F__law_item := fun_mk (st := topS 34) lF__law_item cF__law_item kF__law_item
  have B__law_item := F__law_item.binds (ps := ["_law_well_here", "_law_items"]) fun _ _ _ _ _ _ us hl => match us, hl with | [_, _], _ => rfl
  have g__law_item := PySem.W.mg_of X G aF__law_item
  have M__law_item : Mk K mg "_law_item" (topS 34) ["_law_well_here", "_law_items"] := ⟨_, _, F__law_item, B__law_item, g__law_item⟩
  have F__law_mixed := fun_mk (st := topS 35) lF__law_mixed cF__law_mixed kF__law_mixed
  have B__law_mixed := F__law_mixed.binds (ps := ["_law_well_here", "_law_items"]) fun _ _ _ _ _ _ us hl => match us, hl with | [_, _], _ => rfl
  have g__law_mixed := PySem.W.mg_of X G aF__law_mixed
  have M__law_mixed : Mk K mg "_law_mixed" (topS 35) ["_law_well_here", "_law_items"] := ⟨_, _, F__law_mixed, B__law_mixed, g__law_mixed⟩
  have F__law_tops := fun_mk (st := topS 36) lF__law_tops cF__law_tops kF__law_tops
  have B__law_tops := F__law_tops.binds (ps := ["_law_parents"]) fun _ _ _ _ _ _ us hl => match us, hl with | [_], _ => rfl
  have g__law_tops := PySem.W.mg_of X G aF__law_tops
  have M__law_tops : Mk K mg "_law_tops" (topS 36) ["_law_parents"] := ⟨_, _, F__law_tops, B__law_tops, g__law_tops⟩
  have F__law_heft := fun_mk (st := topS 37) lF__law_heft cF__law_heft kF__law_heft
  have B__law_heft := F__law_heft.binds (ps := ["_law_parents", "_law_vertex"]) fun _ _ _ _ _ _ us hl => match us, hl with | [_, _], _ => rfl
  have g__law_heft := PySem.W.mg_of X G aF__law_heft
  have M__law_heft : Mk K mg "_law_heft" (topS 37) ["_law_parents", "_law_vertex"] := ⟨_, _, F__law_heft, B__law_heft, g__law_heft⟩
  have F__law_grown := fun_mk (st := topS 38) lF__law_grown cF__law_grown kF__law_grown
  have B__law_grown := F__law_grown.binds (ps := ["_law_well_here", "_law_most"]) fun _ _ _ _ _ _ us hl => match us, hl with | [_, _], _ => rfl
  have g__law_grown := PySem.W.mg_of X G aF__law_grown
  have M__law_grown : Mk K mg "_law_grown" (topS 38) ["_law_well_here", "_law_most"] := ⟨_, _, F__law_grown, B__law_grown, g__law_grown⟩
  have F__law_ready := fun_mk (st := topS 39) lF__law_ready cF__law_ready kF__law_ready
  have B__law_ready := F__law_ready.binds (ps := ["_law_parents", "_law_there"]) fun _ _ _ _ _ _ us hl => match us, hl with | [_, _], _ => rfl
  have g__law_ready := PySem.W.mg_of X G aF__law_ready
  have M__law_ready : Mk K mg "_law_ready" (topS 39) ["_law_parents", "_law_there"] := ⟨_, _, F__law_ready, B__law_ready, g__law_ready⟩
  have F__law_order := fun_mk (st := topS 40) lF__law_order cF__law_order kF__law_order
  have B__law_order := F__law_order.binds (ps := ["_law_well_here", "_law_parents"]) fun _ _ _ _ _ _ us hl => match us, hl with | [_, _], _ => rfl
  have g__law_order := PySem.W.mg_of X G aF__law_order
  have M__law_order : Mk K mg "_law_order" (topS 40) ["_law_well_here", "_law_parents"] := ⟨_, _, F__law_order, B__law_order, g__law_order⟩
  have F_law := fun_mk (st := topS 41) lF_law cF_law kF_law
  have g_law := PySem.W.mg_of X G aF_law
  have T_Course : CTx K mg C_Course := ⟨⟨pg_Course, hd_Course, po_Course, sa_Course⟩, nA_Course_parents, nA_Course_full, nA_Course_grown, nA_Course_lower, nA_Course_joined, PySem.W.mg_of X G cg_Course⟩
  have FM_Course_init : FunD K "__init__" "Course.__init__" (defArgs (inClass (topS 16) 0)) (defBody (inClass (topS 16) 0)) (defScope (inClass (topS 16) 0)) [.non] [] fm_Course_init _ := ⟨⟨oc_Course_init, od_Course_init, .ref DT_Course_init, kV_Course_init, dc_Course_init, pm_Course_init, an_Course_init, cd_Course_init, ct_Course_init, sl_Course_init, rfl, l_Course_init, c_Course_init, .inr ⟨(fun z => nomatch z), DT_Course_init, _, [.none], nD_Course_init, rfl, lD_Course_init, rfl, .cons rfl .nil⟩, .inl rfl⟩, k_Course_init⟩
  have BM_Course_init := FunD.binds1 (ps := ["self", "parents", "start"]) FM_Course_init 2 0 (fun z => nomatch z) rfl (fun _ _ _ _ _ _ _ us its hl hi => match us, its, hl, hi with | [_, _], [_], _, _ => ⟨_, rfl, rfl⟩)
  have MI_Course : MkI K C_Course "Course.__init__" (inClass (topS 16) 0) ["self", "parents", "start"] [.non] := ⟨_, _, FM_Course_init, BM_Course_init, ⟨mk_Course, a_Course_init, i_Course_init, kc_Course⟩⟩
  have FM_Course_allows := fun_mk (st := inClass (topS 16) 1) l_Course_allows c_Course_allows k_Course_allows
  have BM_Course_allows := FM_Course_allows.binds (ps := ["self", "vertex"]) fun _ _ _ _ _ _ us hl => match us, hl with | [_, _], _ => rfl
  have MM_Course_allows : MkM K C_Course "allows" "Course.allows" (inClass (topS 16) 1) ["self", "vertex"] := ⟨_, _, FM_Course_allows, BM_Course_allows, ⟨a_Course_allows, i_Course_allows, k_Course_allows⟩⟩
  have FM_Course_possible := fun_mk (st := inClass (topS 16) 2) l_Course_possible c_Course_possible k_Course_possible
  have BM_Course_possible := FM_Course_possible.binds (ps := ["self"]) fun _ _ _ _ _ _ us hl => match us, hl with | [_], _ => rfl
  have MM_Course_possible : MkM K C_Course "possible" "Course.possible" (inClass (topS 16) 2) ["self"] := ⟨_, _, FM_Course_possible, BM_Course_possible, ⟨a_Course_possible, i_Course_possible, k_Course_possible⟩⟩
  have FM_Course_take := fun_mk (st := inClass (topS 16) 3) l_Course_take c_Course_take k_Course_take
  have BM_Course_take := FM_Course_take.binds (ps := ["self", "vertex"]) fun _ _ _ _ _ _ us hl => match us, hl with | [_, _], _ => rfl
  have MM_Course_take : MkM K C_Course "take" "Course.take" (inClass (topS 16) 3) ["self", "vertex"] := ⟨_, _, FM_Course_take, BM_Course_take, ⟨a_Course_take, i_Course_take, k_Course_take⟩⟩
  have m_abs := PySem.W.mg_none_of X G z_abs
  have m_bool := PySem.W.mg_none_of X G z_bool
  have m_enumerate := PySem.W.mg_none_of X G z_enumerate
  have m_int := PySem.W.mg_none_of X G z_int
  have m_isinstance := PySem.W.mg_none_of X G z_isinstance
  have m_len := PySem.W.mg_none_of X G z_len
  have m_list := PySem.W.mg_none_of X G z_list
  have m_range := PySem.W.mg_none_of X G z_range
  have m_sorted := PySem.W.mg_none_of X G z_sorted
  have m_sum := PySem.W.mg_none_of X G z_sum
  have m_tuple := PySem.W.mg_none_of X G z_tuple
  refine ⟨PySem.W.fnOf "law" "law" (defArgs (topS 41)) (defBody (topS 41)) (defScope (topS 41)) .none kVF_law dcF_law pmF_law anF_law cdF_law ctF_law, fun s v => .of_eq rfl, fun base _ _ sys => ?_⟩
  have TX_BadJoin : OexC K C_BadJoin := ⟨⟨nm_BadJoin, q_BadJoin, N_BadJoin, bs_BadJoin, bm_BadJoin, sn_BadJoin, sub_BadJoin, ab_BadJoin, col_BadJoin, dd_BadJoin, y0_BadJoin, y1_BadJoin, y2_BadJoin, y3_BadJoin, y5_BadJoin, xL_BadJoin, hb_BadJoin⟩, sa_BadJoin, eC_BadJoin, tC_BadJoin, kC_BadJoin⟩
  have FX_BadJoin := fun_mk (st := initS 3) l_BadJoin c_BadJoin k_BadJoin
  have I_BadJoin := ok_init (P := l.prog) (w := w) (mg := mg) (base := base) FX_BadJoin sc_BadJoin TX_BadJoin nb_BadJoin bd_BadJoin (.inl rfl) (.inl rfl) (by decide) (by decide)
  have BI_BadJoin := FX_BadJoin.binds (ps := ["self", "index"]) (fun _ _ _ _ _ _ us hl => match us, hl with | [_, _], _ => rfl)
  have R_BadJoin : ErrF l.prog w K mg base "BadJoin" "index" C_BadJoin := ⟨⟨_, _, a_BadJoin, t_BadJoin, I_BadJoin, BI_BadJoin⟩, TX_BadJoin, PySem.W.mg_of X G cg_BadJoin⟩
  have TX_NoVertex : OexC K C_NoVertex := ⟨⟨nm_NoVertex, q_NoVertex, N_NoVertex, bs_NoVertex, bm_NoVertex, sn_NoVertex, sub_NoVertex, ab_NoVertex, col_NoVertex, dd_NoVertex, y0_NoVertex, y1_NoVertex, y2_NoVertex, y3_NoVertex, y5_NoVertex, xL_NoVertex, hb_NoVertex⟩, sa_NoVertex, eC_NoVertex, tC_NoVertex, kC_NoVertex⟩
  have FX_NoVertex := fun_mk (st := initS 4) l_NoVertex c_NoVertex k_NoVertex
  have I_NoVertex := ok_init (P := l.prog) (w := w) (mg := mg) (base := base) FX_NoVertex sc_NoVertex TX_NoVertex nb_NoVertex bd_NoVertex (.inl rfl) (.inl rfl) (by decide) (by decide)
  have BI_NoVertex := FX_NoVertex.binds (ps := ["self", "value"]) (fun _ _ _ _ _ _ us hl => match us, hl with | [_, _], _ => rfl)
  have R_NoVertex : ErrF l.prog w K mg base "NoVertex" "value" C_NoVertex := ⟨⟨_, _, a_NoVertex, t_NoVertex, I_NoVertex, BI_NoVertex⟩, TX_NoVertex, PySem.W.mg_of X G cg_NoVertex⟩
  have ER : Err l.prog w K mg base C_NoVertex fI_NoVertex _ := ⟨TX_NoVertex, a_NoVertex, t_NoVertex, I_NoVertex, BI_NoVertex, PySem.W.mg_of X G cg_NoVertex⟩
  have G__law_well := ok_well (P := l.prog) (w := w) (base := base) F__law_well m_len m_abs m_int
  have d__law_well := Df.of F__law_well B__law_well g__law_well G__law_well
  have G__law_pull := ok_pull (P := l.prog) (w := w) (base := base) (mg := mg) F__law_pull
  have d__law_pull := Df.of F__law_pull B__law_pull g__law_pull G__law_pull
  have G__law_item := ok_item (P := l.prog) (w := w) (base := base) F__law_item F__law_pull B__law_pull g__law_pull m_len
  have d__law_item := Df.of F__law_item B__law_item g__law_item G__law_item
  have G__law_mixed := ok_mixed (P := l.prog) (w := w) (base := base) F__law_mixed F__law_pull B__law_pull g__law_pull m_len m_list
  have d__law_mixed := Df.of F__law_mixed B__law_mixed g__law_mixed G__law_mixed
  have G__law_tops := ok_tops (P := l.prog) (w := w) (base := base) F__law_tops m_len m_range
  have d__law_tops := Df.of F__law_tops B__law_tops g__law_tops G__law_tops
  have G__law_heft := ok_heft (P := l.prog) (w := w) (base := base) F__law_heft m_len m_range
  have d__law_heft := Df.of F__law_heft B__law_heft g__law_heft G__law_heft
  have G__law_grown := ok_grown (P := l.prog) (w := w) (base := base) F__law_grown F__law_pull B__law_pull g__law_pull F__law_item B__law_item g__law_item F__law_mixed B__law_mixed g__law_mixed F__law_tops B__law_tops g__law_tops F__law_heft B__law_heft g__law_heft m_len m_range m_list m_tuple m_sorted
  have d__law_grown := Df.of F__law_grown B__law_grown g__law_grown G__law_grown
  have G_is_plain_int := ok_pi (P := l.prog) (w := w) (base := base) F_is_plain_int m_isinstance m_int m_bool
  have d_is_plain_int := Df.of F_is_plain_int B_is_plain_int g_is_plain_int G_is_plain_int
  have G_is_vertex := ok_iv (P := l.prog) (w := w) (base := base) F_is_vertex F_is_plain_int G_is_plain_int B_is_plain_int g_is_plain_int
  have d_is_vertex := Df.of F_is_vertex B_is_vertex g_is_vertex G_is_vertex
  have G_check_vertex := ok_check (P := l.prog) (w := w) (base := base) F_check_vertex F_is_vertex G_is_vertex B_is_vertex g_is_vertex ER m_len
  have d_check_vertex := Df.of F_check_vertex B_check_vertex g_check_vertex G_check_vertex
  have G_path_of := ok_path (P := l.prog) (w := w) (base := base) F_path_of F_check_vertex G_check_vertex B_check_vertex g_check_vertex m_tuple
  have d_path_of := Df.of F_path_of B_path_of g_path_of G_path_of
  have G_children_of := ok_kidsOf (P := l.prog) (w := w) (base := base) F_children_of F_check_vertex G_check_vertex B_check_vertex g_check_vertex m_tuple m_enumerate
  have d_children_of := Df.of F_children_of B_children_of g_children_of G_children_of
  have G_tree_of := ok_tree (P := l.prog) (w := w) (base := base) F_tree_of F_check_vertex G_check_vertex B_check_vertex g_check_vertex F_path_of G_path_of B_path_of g_path_of m_tuple m_range m_len
  have d_tree_of := Df.of F_tree_of B_tree_of g_tree_of G_tree_of
  have G_weights := ok_weights (P := l.prog) (w := w) (base := base) F_weights F_path_of G_path_of B_path_of g_path_of m_len m_range m_tuple
  have d_weights := Df.of F_weights B_weights g_weights G_weights
  have G_roots := ok_roots (P := l.prog) (w := w) (base := base) F_roots m_enumerate m_tuple
  have d_roots := Df.of F_roots B_roots g_roots G_roots
  have G_single := ok_single (P := l.prog) (w := w) (base := base) F_single m_range m_tuple
  have d_single := Df.of F_single B_single g_single G_single
  have d_is_root := ok_isRoot (P := l.prog) (w := w) (base := base) M_is_root d_is_vertex m_len
  have d_are_two_roots := ok_twoR (P := l.prog) (w := w) (base := base) M_are_two_roots d_is_root
  have d_is_join := ok_isJoin (P := l.prog) (w := w) (base := base) M_is_join d_are_two_roots d_weights
  have d_with_parent := ok_withP (P := l.prog) (w := w) (base := base) M_with_parent
  have d_possible_joins := ok_poss (P := l.prog) (w := w) (base := base) M_possible_joins d_roots d_weights m_tuple
  have d_heavy_children := ok_heavyC (P := l.prog) (w := w) (base := base) M_heavy_children d_weights d_children_of m_enumerate m_sum m_tuple
  have d_is_built := ok_built (P := l.prog) (w := w) (base := base) M_is_built d_heavy_children
  have d_Course___init__ := ok_CI (P := l.prog) (w := w) (base := base) MI_Course T_Course d_single d_weights m_len m_list m_enumerate
  have d_Course_allows := ok_CAl (P := l.prog) (w := w) (base := base) MM_Course_allows T_Course
  have d_Course_take := ok_CTa (P := l.prog) (w := w) (base := base) MM_Course_take T_Course
  have d_follows := ok_follows (P := l.prog) (w := w) (base := base) M_follows T_Course d_Course_allows d_Course_take d_is_vertex m_isinstance m_tuple m_len
  have d_finishes := ok_finishes (P := l.prog) (w := w) (base := base) M_finishes T_Course d_follows m_len
  have d_is_whole := ok_whole (P := l.prog) (w := w) (base := base) M_is_whole T_Course d_Course___init__ d_finishes
  have d_run_joins := ok_run (P := l.prog) (w := w) (base := base) M_run_by M_run_joins d_single d_is_join d_with_parent R_BadJoin m_isinstance m_tuple m_len m_enumerate
  have d_certificate_holds := ok_cert (P := l.prog) (w := w) (base := base) M_certificate_holds d_is_whole d_is_vertex d_heavy_children m_isinstance m_tuple m_len
  have d__law_ready := ok_ready (P := l.prog) (w := w) (base := base) M__law_ready d_possible_joins d_tree_of m_len m_range
  have d__law_order := ok_order (P := l.prog) (w := w) (base := base) M__law_order d__law_ready d__law_item m_len m_range m_tuple
  have d__law_grownB := Df.of F__law_grown B__law_grown g__law_grown (ok_grownB (P := l.prog) (w := w) (base := base) F__law_grown F__law_pull B__law_pull g__law_pull F__law_item B__law_item g__law_item F__law_mixed B__law_mixed g__law_mixed F__law_tops B__law_tops g__law_tops F__law_heft B__law_heft g__law_heft m_len m_range m_list m_tuple m_sorted)
  exact ok_law F_law sys d__law_well d__law_grownB d__law_order d_certificate_holds d_run_joins d_is_built m_len m_range m_tuple
end Lf
open PySem PySem.W PyProof.Rows
set_option maxRecDepth 100000 in
set_option maxHeartbeats 0 in
theorem PySem.Challenge.cw_linkforests_k11_whole_joins_stay_possibl_holds : PySem.Challenge.rw_linkforests_k11_whole_joins_stay_possibl.Holds := by
  w_on; o_law; k_head; (case hw => w_witness2)
  k_fill
  refine Lf.walk_g (l := PySem.Challenge.rw_linkforests_k11_whole_joins_stay_possibl) (n := 63) (k := 11) (x := "_law_script") (sp := Lf.spLaw) rfl (by decide) rfl ⟨rfl, by decide, by decide⟩ (by decide +kernel) (fun w h Y => PySem.W.kIn_of Y) ?F (fun _ _ a ns hl _ hS => ⟨a, ns, rfl, hS, hl, fun _ => rfl⟩)
  case F =>
    intro w mg fa h KX G xl hmg
    refine' Lf.all_mk KX G hmg ?u_aF_is_plain_int ?u_lF_is_plain_int ?u_cF_is_plain_int ?u_kF_is_plain_int ?u_aF_is_vertex ?u_lF_is_vertex ?u_cF_is_vertex ?u_kF_is_vertex ?u_aF_check_vertex ?u_lF_check_vertex ?u_cF_check_vertex ?u_kF_check_vertex ?u_aF_single ?u_lF_single ?u_cF_single ?u_kF_single ?u_aF_roots ?u_lF_roots ?u_cF_roots ?u_kF_roots ?u_aF_children_of ?u_lF_children_of ?u_cF_children_of ?u_kF_children_of ?u_aF_weights ?u_lF_weights ?u_cF_weights ?u_kF_weights ?u_aF_path_of ?u_lF_path_of ?u_cF_path_of ?u_kF_path_of ?u_aF_tree_of ?u_lF_tree_of ?u_cF_tree_of ?u_kF_tree_of ?u_aF_follows ?u_lF_follows ?u_cF_follows ?u_kF_follows ?u_aF_finishes ?u_lF_finishes ?u_cF_finishes ?u_kF_finishes ?u_aF_is_whole ?u_lF_is_whole ?u_cF_is_whole ?u_kF_is_whole ?u_aF_is_root ?u_lF_is_root ?u_cF_is_root ?u_kF_is_root ?u_aF_are_two_roots ?u_lF_are_two_roots ?u_cF_are_two_roots ?u_kF_are_two_roots ?u_aF_is_join ?u_lF_is_join ?u_cF_is_join ?u_kF_is_join ?u_aF_with_parent ?u_lF_with_parent ?u_cF_with_parent ?u_kF_with_parent ?u_aF_possible_joins ?u_lF_possible_joins ?u_cF_possible_joins ?u_kF_possible_joins ?u_aF_run_by ?u_lF_run_by ?u_cF_run_by ?u_kF_run_by ?u_aF_run_joins ?u_lF_run_joins ?u_cF_run_joins ?u_kF_run_joins ?u_aF_heavy_children ?u_lF_heavy_children ?u_cF_heavy_children ?u_kF_heavy_children ?u_aF_is_built ?u_lF_is_built ?u_cF_is_built ?u_kF_is_built ?u_aF_certificate_holds ?u_lF_certificate_holds ?u_cF_certificate_holds ?u_kF_certificate_holds ?u_aF__law_well ?u_lF__law_well ?u_cF__law_well ?u_kF__law_well ?u_aF__law_pull ?u_lF__law_pull ?u_cF__law_pull ?u_kF__law_pull ?u_aF__law_item ?u_lF__law_item ?u_cF__law_item ?u_kF__law_item ?u_aF__law_mixed ?u_lF__law_mixed ?u_cF__law_mixed ?u_kF__law_mixed ?u_aF__law_tops ?u_lF__law_tops ?u_cF__law_tops ?u_kF__law_tops ?u_aF__law_heft ?u_lF__law_heft ?u_cF__law_heft ?u_kF__law_heft ?u_aF__law_grown ?u_lF__law_grown ?u_cF__law_grown ?u_kF__law_grown ?u_aF__law_ready ?u_lF__law_ready ?u_cF__law_ready ?u_kF__law_ready ?u_aF__law_order ?u_lF__law_order ?u_cF__law_order ?u_kF__law_order ?u_aF_law ?u_lF_law ?u_cF_law ?u_kF_law ?u_z_abs ?u_z_bool ?u_z_enumerate ?u_z_int ?u_z_isinstance ?u_z_len ?u_z_list ?u_z_range ?u_z_sorted ?u_z_sum ?u_z_tuple ?u_cg_BadJoin ?u_cg_NoVertex ?u_xL_BadJoin ?u_hb_BadJoin ?u_sa_BadJoin ?u_nb_BadJoin ?u_a_BadJoin ?u_t_BadJoin ?u_l_BadJoin ?u_c_BadJoin ?u_k_BadJoin ?u_eC_BadJoin ?u_tC_BadJoin ?u_kC_BadJoin ?u_xL_NoVertex ?u_hb_NoVertex ?u_sa_NoVertex ?u_nb_NoVertex ?u_a_NoVertex ?u_t_NoVertex ?u_l_NoVertex ?u_c_NoVertex ?u_k_NoVertex ?u_eC_NoVertex ?u_tC_NoVertex ?u_kC_NoVertex ?u_cg_Course ?u_pg_Course ?u_hd_Course ?u_po_Course ?u_sa_Course ?u_mk_Course ?u_kc_Course ?u_nA_Course_parents ?u_nA_Course_full ?u_nA_Course_grown ?u_nA_Course_lower ?u_nA_Course_joined ?u_a_Course_init ?u_i_Course_init ?u_l_Course_init ?u_c_Course_init ?u_k_Course_init ?u_lD_Course_init ?u_a_Course_allows ?u_i_Course_allows ?u_l_Course_allows ?u_c_Course_allows ?u_k_Course_allows ?u_a_Course_possible ?u_i_Course_possible ?u_l_Course_possible ?u_c_Course_possible ?u_k_Course_possible ?u_a_Course_take ?u_i_Course_take ?u_l_Course_take ?u_c_Course_take ?u_k_Course_take
    (case u_aF_is_plain_int => k_is)
    (case u_lF_is_plain_int => k_is)
    (case u_cF_is_plain_int => k_is)
    (case u_kF_is_plain_int => k_is)
    (case u_aF_is_vertex => k_is)
    (case u_lF_is_vertex => k_is)
    (case u_cF_is_vertex => k_is)
    (case u_kF_is_vertex => k_is)
    (case u_aF_check_vertex => k_is)
    (case u_lF_check_vertex => k_is)
    (case u_cF_check_vertex => k_is)
    (case u_kF_check_vertex => k_is)
    (case u_aF_single => k_is)
    (case u_lF_single => k_is)
    (case u_cF_single => k_is)
    (case u_kF_single => k_is)
    (case u_aF_roots => k_is)
    (case u_lF_roots => k_is)
    (case u_cF_roots => k_is)
    (case u_kF_roots => k_is)
    (case u_aF_children_of => k_is)
    (case u_lF_children_of => k_is)
    (case u_cF_children_of => k_is)
    (case u_kF_children_of => k_is)
    (case u_aF_weights => k_is)
    (case u_lF_weights => k_is)
    (case u_cF_weights => k_is)
    (case u_kF_weights => k_is)
    (case u_aF_path_of => k_is)
    (case u_lF_path_of => k_is)
    (case u_cF_path_of => k_is)
    (case u_kF_path_of => k_is)
    (case u_aF_tree_of => k_is)
    (case u_lF_tree_of => k_is)
    (case u_cF_tree_of => k_is)
    (case u_kF_tree_of => k_is)
    (case u_aF_follows => k_is)
    (case u_lF_follows => k_is)
    (case u_cF_follows => k_is)
    (case u_kF_follows => k_is)
    (case u_aF_finishes => k_is)
    (case u_lF_finishes => k_is)
    (case u_cF_finishes => k_is)
    (case u_kF_finishes => k_is)
    (case u_aF_is_whole => k_is)
    (case u_lF_is_whole => k_is)
    (case u_cF_is_whole => k_is)
    (case u_kF_is_whole => k_is)
    (case u_aF_is_root => k_is)
    (case u_lF_is_root => k_is)
    (case u_cF_is_root => k_is)
    (case u_kF_is_root => k_is)
    (case u_aF_are_two_roots => k_is)
    (case u_lF_are_two_roots => k_is)
    (case u_cF_are_two_roots => k_is)
    (case u_kF_are_two_roots => k_is)
    (case u_aF_is_join => k_is)
    (case u_lF_is_join => k_is)
    (case u_cF_is_join => k_is)
    (case u_kF_is_join => k_is)
    (case u_aF_with_parent => k_is)
    (case u_lF_with_parent => k_is)
    (case u_cF_with_parent => k_is)
    (case u_kF_with_parent => k_is)
    (case u_aF_possible_joins => k_is)
    (case u_lF_possible_joins => k_is)
    (case u_cF_possible_joins => k_is)
    (case u_kF_possible_joins => k_is)
    (case u_aF_run_by => k_is)
    (case u_lF_run_by => k_is)
    (case u_cF_run_by => k_is)
    (case u_kF_run_by => k_is)
    (case u_aF_run_joins => k_is)
    (case u_lF_run_joins => k_is)
    (case u_cF_run_joins => k_is)
    (case u_kF_run_joins => k_is)
    (case u_aF_heavy_children => k_is)
    (case u_lF_heavy_children => k_is)
    (case u_cF_heavy_children => k_is)
    (case u_kF_heavy_children => k_is)
    (case u_aF_is_built => k_is)
    (case u_lF_is_built => k_is)
    (case u_cF_is_built => k_is)
    (case u_kF_is_built => k_is)
    (case u_aF_certificate_holds => k_is)
    (case u_lF_certificate_holds => k_is)
    (case u_cF_certificate_holds => k_is)
    (case u_kF_certificate_holds => k_is)
    (case u_aF__law_well => k_is)
    (case u_lF__law_well => k_is)
    (case u_cF__law_well => k_is)
    (case u_kF__law_well => k_is)
    (case u_aF__law_pull => k_is)
    (case u_lF__law_pull => k_is)
    (case u_cF__law_pull => k_is)
    (case u_kF__law_pull => k_is)
    (case u_aF__law_item => k_is)
    (case u_lF__law_item => k_is)
    (case u_cF__law_item => k_is)
    (case u_kF__law_item => k_is)
    (case u_aF__law_mixed => k_is)
    (case u_lF__law_mixed => k_is)
    (case u_cF__law_mixed => k_is)
    (case u_kF__law_mixed => k_is)
    (case u_aF__law_tops => k_is)
    (case u_lF__law_tops => k_is)
    (case u_cF__law_tops => k_is)
    (case u_kF__law_tops => k_is)
    (case u_aF__law_heft => k_is)
    (case u_lF__law_heft => k_is)
    (case u_cF__law_heft => k_is)
    (case u_kF__law_heft => k_is)
    (case u_aF__law_grown => k_is)
    (case u_lF__law_grown => k_is)
    (case u_cF__law_grown => k_is)
    (case u_kF__law_grown => k_is)
    (case u_aF__law_ready => k_is)
    (case u_lF__law_ready => k_is)
    (case u_cF__law_ready => k_is)
    (case u_kF__law_ready => k_is)
    (case u_aF__law_order => k_is)
    (case u_lF__law_order => k_is)
    (case u_cF__law_order => k_is)
    (case u_kF__law_order => k_is)
    (case u_aF_law => k_is)
    (case u_lF_law => k_is)
    (case u_cF_law => k_is)
    (case u_kF_law => k_is)
    (case u_z_abs => k_is)
    (case u_z_bool => k_is)
    (case u_z_enumerate => k_is)
    (case u_z_int => k_is)
    (case u_z_isinstance => k_is)
    (case u_z_len => k_is)
    (case u_z_list => k_is)
    (case u_z_range => k_is)
    (case u_z_sorted => k_is)
    (case u_z_sum => k_is)
    (case u_z_tuple => k_is)
    (case u_cg_BadJoin => k_is)
    (case u_cg_NoVertex => k_is)
    (case u_xL_BadJoin => k_is)
    (case u_hb_BadJoin => rfl)
    (case u_sa_BadJoin => k_is)
    (case u_nb_BadJoin => k_is)
    (case u_a_BadJoin => k_is)
    (case u_t_BadJoin => k_is)
    (case u_l_BadJoin => k_is)
    (case u_c_BadJoin => k_is)
    (case u_k_BadJoin => k_is)
    (case u_eC_BadJoin => k_is)
    (case u_tC_BadJoin => k_is)
    (case u_kC_BadJoin => k_is)
    (case u_xL_NoVertex => k_is)
    (case u_hb_NoVertex => rfl)
    (case u_sa_NoVertex => k_is)
    (case u_nb_NoVertex => k_is)
    (case u_a_NoVertex => k_is)
    (case u_t_NoVertex => k_is)
    (case u_l_NoVertex => k_is)
    (case u_c_NoVertex => k_is)
    (case u_k_NoVertex => k_is)
    (case u_eC_NoVertex => k_is)
    (case u_tC_NoVertex => k_is)
    (case u_kC_NoVertex => k_is)
    (case u_cg_Course => k_is)
    (case u_pg_Course => k_is)
    (case u_hd_Course => k_is)
    (case u_po_Course => k_is)
    (case u_sa_Course => k_is)
    (case u_mk_Course => k_is)
    (case u_kc_Course => k_is)
    (case u_nA_Course_parents => k_is)
    (case u_nA_Course_full => k_is)
    (case u_nA_Course_grown => k_is)
    (case u_nA_Course_lower => k_is)
    (case u_nA_Course_joined => k_is)
    (case u_a_Course_init => k_is)
    (case u_i_Course_init => k_is)
    (case u_l_Course_init => k_is)
    (case u_c_Course_init => k_is)
    (case u_k_Course_init => k_is)
    (case u_lD_Course_init => k_is)
    (case u_a_Course_allows => k_is)
    (case u_i_Course_allows => k_is)
    (case u_l_Course_allows => k_is)
    (case u_c_Course_allows => k_is)
    (case u_k_Course_allows => k_is)
    (case u_a_Course_possible => k_is)
    (case u_i_Course_possible => k_is)
    (case u_l_Course_possible => k_is)
    (case u_c_Course_possible => k_is)
    (case u_k_Course_possible => k_is)
    (case u_a_Course_take => k_is)
    (case u_i_Course_take => k_is)
    (case u_l_Course_take => k_is)
    (case u_c_Course_take => k_is)
    (case u_k_Course_take => k_is)
