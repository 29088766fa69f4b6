import PyProof.Rows.All
import Wide.All
import OpenK.AllK
import Wide.FinOn
import HandS.ForMost
import HandS.Style
import HandS.Wide
import HandS.NoneIn
import HandS.Walk
import HandS.ExcInit
import HandS.ExcValue
import HandS.ExcOwn
import HandS.IsInst
import KE.KExcIs
import HandS.TupAny
import HandS.Conv
import HandS.Sort
import HandS.Flow
import HandS.Codes
import KE.GoesEnum
import KE.KRevSl
import PyProof.ReprLen
import HandS.ExcField
import HandS.WordsExc
import HandS.Strs
import HandS.List
import HandS.Deep
import HandS.TupMul
import PyProof.Rows.SortShellAny
import HandS.SortInts
import KE.KTupSum
import KE.DataMinMax
import HandS.More
import HandS.Iter
import HandS.WideBits
import HandS.SortRule
import KE.SortData
import KE.DataCmp
import HandS.TryOnly
import HandS.Dict
import HandS.CallLocal
import HandS.ExcIs
import PyProof.EqKinds
import PyProof.NeKinds
import PySem.Challenge.RW_linkforests_k54_shapes_recognized
set_option Elab.async false
set_option linter.all false
set_option maxRecDepth 100000
set_option maxHeartbeats 2000000
namespace Lf
open PySem PySem.Spec PyProof.Rows L2

/-! ### data that repr shows -/
def keyD : Key → PyData
  | .inl i => .int i
  | .inr x => .str x
mutual
inductive Rp (H : Hp) : V → PyData → Prop
  | non : Rp H .non .none
  | bl (b : Bool) : Rp H (.bl b) (.bool b)
  | int (i : Int) : Rp H (.int i) (.int i)
  | str (x : Str) : Rp H (.str x) (.str x)
  | lst {a : Addr} {xs : List V} {ds : List PyData} : H a = some (.lst xs) → RpAll H xs ds → Rp H (.ref a) (.list ds)
  | tup {a : Addr} {xs : List V} {ds : List PyData} : H a = some (.tup xs) → RpAll H xs ds → Rp H (.ref a) (.tuple ds)
  | ftp {a : Addr} {o : Obj} {xs : List V} {ds : List PyData} : H a = some (.frz o (.tup xs)) → RpAll H xs ds → Rp H (.ref a) (.tuple ds)
  | dct {a : Addr} {kvs : List (Key × V)} {es : List (PyData × PyData)} : H a = some (.dK kvs) → RpKv H kvs es → Rp H (.ref a) (.dict es)
inductive RpAll (H : Hp) : List V → List PyData → Prop
  | nil : RpAll H [] []
  | cons {v : V} {vs : List V} {d : PyData} {ds : List PyData} : Rp H v d → RpAll H vs ds → RpAll H (v :: vs) (d :: ds)
inductive RpKv (H : Hp) : List (Key × V) → List (PyData × PyData) → Prop
  | nil : RpKv H [] []
  | cons {k : Key} {v : V} {r : List (Key × V)} {d : PyData} {es : List (PyData × PyData)} : Rp H v d → RpKv H r es → RpKv H ((k, v) :: r) ((keyD k, d) :: es)
end

theorem reads_key {h : Heap} {k : Key} {v : Value} (e : keyIs k v = true) : Reads h v (keyD k) [] := by
  rcases keyIs_shape e with ⟨i, t, rfl, rfl⟩ | ⟨x, t, rfl, rfl⟩
  · exact Reads.int i t
  · exact Reads.str x t

section
variable {X : Cx} {pins : List (Addr × Obj)} {σ : L2.St} {H : Hp} {s : Shared}
theorem not_sys (I : Inv X pins σ H s) (hs : ∃ o, X.base.get? sysModules = some o) {a : Addr} {o : HO} (e : H a = some o) : sysModules ≠ a := by
  obtain ⟨o', h1⟩ := hs
  intro z
  have q := (I.bs _ _ h1).2
  rw [z, e] at q
  cases q
mutual
theorem Rp.reads (I : Inv X pins σ H s) (hs : ∃ o, X.base.get? sysModules = some o) : ∀ {v : V} {d : PyData}, Rp H v d → ∀ u, RelV v u → ∃ as, Reads s.heap u d as ∧ sysModules ∉ as
  | _, _, .non, u, r => by
    cases r
    exact ⟨[], Reads.none, List.not_mem_nil⟩
  | _, _, .bl b, u, r => by
    cases r
    exact ⟨[], Reads.bool b, List.not_mem_nil⟩
  | _, _, .int i, u, r => by
    obtain ⟨t, rfl⟩ := r
    exact ⟨[], Reads.int i t, List.not_mem_nil⟩
  | _, _, .str x, u, r => by
    obtain ⟨t, rfl⟩ := r
    exact ⟨[], Reads.str x t, List.not_mem_nil⟩
  | _, _, .lst (a := a) (xs := xs) e q, u, r => by
    cases r
    obtain ⟨_, its, n, rv, ho⟩ := (show ObjOk X.prog X.w H s.heap a (.lst xs) from I.hok a _ e)
    obtain ⟨as, h1, h2⟩ := RpAll.reads I hs q its rv
    refine ⟨a :: as, Reads.list ho rfl rfl h1, fun z => ?_⟩
    rcases List.mem_cons.mp z with z | z
    · exact not_sys I hs e z
    · exact h2 z
  | _, _, .tup (a := a) (xs := xs) e q, u, r => by
    cases r
    obtain ⟨_, its, rv, o, ho, hc, n, hd⟩ := (show ObjOk X.prog X.w H s.heap a (.tup xs) from I.hok a _ e)
    obtain ⟨as, h1, h2⟩ := RpAll.reads I hs q its rv
    exact ⟨as, Reads.tuple ho hc hd h1, h2⟩
  | _, _, .ftp (a := a) (o := ob) (xs := xs) e q, u, r => by
    cases r
    obtain ⟨_, _, its, rv, o, ho, hc, n, hd⟩ := (show ObjOk X.prog X.w H s.heap a (.frz ob (.tup xs)) from I.hok a _ e)
    obtain ⟨as, h1, h2⟩ := RpAll.reads I hs q its rv
    exact ⟨as, Reads.tuple ho hc hd h1, h2⟩
  | _, _, .dct (a := a) (kvs := kvs) e q, u, r => by
    cases r
    obtain ⟨_, _, vs, kv, o, es, ep, ho, hx, hd, hko, hp, _⟩ := (show ObjOk X.prog X.w H s.heap a (.dK kvs) from I.hok a _ e)
    obtain ⟨as, h1, h2, h3⟩ := RpKv.reads I hs q vs kv es.toList hp
    refine ⟨a :: [] ++ as, Reads.dict ho hx.1 hd h1 h2, fun z => ?_⟩
    rcases List.mem_cons.mp z with z | z
    · exact not_sys I hs e z
    · exact h3 z
theorem RpAll.reads (I : Inv X pins σ H s) (hs : ∃ o, X.base.get? sysModules = some o) : ∀ {vs : List V} {ds : List PyData}, RpAll H vs ds → ∀ us, Vals vs us → ∃ as, ReadsAll s.heap us ds as ∧ sysModules ∉ as
  | _, _, .nil, us, r => by
    cases r
    exact ⟨[], ReadsAll.nil, List.not_mem_nil⟩
  | _, _, .cons q1 q2, us, r => by
    cases r with
    | cons r1 r2 =>
      obtain ⟨as, h1, h2⟩ := Rp.reads I hs q1 _ r1
      obtain ⟨bs, h3, h4⟩ := RpAll.reads I hs q2 _ r2
      exact ⟨as ++ bs, ReadsAll.cons h1 h3, fun z => (List.mem_append.mp z).elim h2 h4⟩
theorem RpKv.reads (I : Inv X pins σ H s) (hs : ∃ o, X.base.get? sysModules = some o) : ∀ {kvs : List (Key × V)} {es : List (PyData × PyData)}, RpKv H kvs es → ∀ vs, KV kvs vs → ∀ ens, Pairs (mixKind X.prog X.w) ens vs →
    ∃ as, ReadsAll s.heap (ens.map (·.key)) (es.map (·.1)) [] ∧ ReadsAll s.heap (ens.map (·.val)) (es.map (·.2)) as ∧ sysModules ∉ as
  | _, _, .nil, vs, kv, ens, p => by
    cases kv
    cases p
    exact ⟨[], ReadsAll.nil, ReadsAll.nil, List.not_mem_nil⟩
  | _, _, .cons q1 q2, vs, kv, ens, p => by
    cases kv with
    | cons k1 k2 =>
      cases p with
      | cons p1 p2 p3 =>
        obtain ⟨e1, e2⟩ := k1
        rw [← p2] at e2
        obtain ⟨as, h1, h2⟩ := Rp.reads I hs q1 _ e2
        obtain ⟨bs, h3, h4, h5⟩ := RpKv.reads I hs q2 _ k2 _ p3
        refine ⟨as ++ bs, ReadsAll.cons (as := []) ?_ h3, ReadsAll.cons h1 h4, fun z => (List.mem_append.mp z).elim h2 h5⟩
        rw [← e1] at p1
        exact reads_key p1
end
end

/-! what stood stands: the same data reads the same -/
mutual
theorem Rp.mono {H H' : Hp} (k : ∀ b o, H b = some o → H' b = some o) : ∀ {v : V} {d : PyData}, Rp H v d → Rp H' v d
  | _, _, .non => .non
  | _, _, .bl b => .bl b
  | _, _, .int i => .int i
  | _, _, .str x => .str x
  | _, _, .lst e q => .lst (k _ _ e) (RpAll.mono k q)
  | _, _, .tup e q => .tup (k _ _ e) (RpAll.mono k q)
  | _, _, .ftp e q => .ftp (k _ _ e) (RpAll.mono k q)
  | _, _, .dct e q => .dct (k _ _ e) (RpKv.mono k q)
theorem RpAll.mono {H H' : Hp} (k : ∀ b o, H b = some o → H' b = some o) : ∀ {vs : List V} {ds : List PyData}, RpAll H vs ds → RpAll H' vs ds
  | _, _, .nil => .nil
  | _, _, .cons q1 q2 => .cons (Rp.mono k q1) (RpAll.mono k q2)
theorem RpKv.mono {H H' : Hp} (k : ∀ b o, H b = some o → H' b = some o) : ∀ {kvs : List (Key × V)} {es : List (PyData × PyData)}, RpKv H kvs es → RpKv H' kvs es
  | _, _, .nil => .nil
  | _, _, .cons q1 q2 => .cons (Rp.mono k q1) (RpKv.mono k q2)
end

section
variable {X : Cx}
/-- repr of a list or a tuple -/
theorem call_repr (hs : ∃ o, X.base.get? sysModules = some o) (hg : X.A.guards = some []) (hu : X.A.units + 200 < cLine) :
    CallR X (.builtin "repr") (fun xs H Q => ∃ (a : Addr) (d : PyData), xs = [.ref a] ∧ Rp H (.ref a) d ∧ d.showable = true ∧ d.depth ≤ 100 ∧ d.shown.length ≤ sizeLine ∧ Q (.str d.shown) H) := by
  intro pins s σ H xs us Q I r h
  obtain ⟨a, d, rfl, hr, h1, h2, h3, q⟩ := h
  obtain ⟨u, rfl, r1⟩ := vals1 r
  cases (show u = Value.ref a from r1)
  obtain ⟨as, rd, na⟩ := Rp.reads I hs hr _ rfl
  exact repr_of_reads' rd h1 (fun _ => na) hg (by omega) (fun _ _ e => e) (fun h' t tk k => ⟨.str d.shown, H, I.kept k, ⟨t, rfl⟩, q⟩) h3
end
end Lf
namespace Lf
open PySem PySem.Spec PyProof.Rows L2

/-! ### the law's own call: nothing is being shown around it (repr's guard is empty), the modules' table stands below all -/
/-- a promise of the def at f for a caller whose repr guard is empty -/
def RunG (P : Program) (w : World) (K : PySem.W.Frag) (mg : Str → Option Value) (base : Heap) (k : Nat) (f : Addr) (fd : FuncData) (ps : List Str) (sp : Sp) : Prop :=
  ∀ (A : Around) (outer : List Env) (s : Shared) (H : Hp) (args : Args) (us : List Value) (vs : List V) (Q : VK) (E : XK), A.guards = some [] →
    Room k A → Env0 P w K mg base A outer s H → BindsTo s fd args (ps.zip us) → Vals vs us → sp vs H Q E → codeAny (model P w) A (.call (.ref f) args) (CR CX0 outer P w H s Q E) s

theorem runG_of {P : Program} {w : World} {K : PySem.W.Frag} {mg : Str → Option Value} {base : Heap} {name qual : Str} {st : Stmt} {f : Addr} {fd : FuncData} {N ps : List Str} {k : Nat} {sp : Sp}
    (Fn : Fun K name qual st f fd) (Sc : FnScope N ps (defScope st)) (lens : ∀ vs H Q E, sp vs H Q E → vs.length = ps.length)
    (bd : ∀ (cdv : Value) (A : Around) (outer : List Env) (s : Shared) (H : Hp) (vs : List V) (Q : VK) (E : XK), A.guards = some [] → Room k (A.deeper (envOfC qual (defScope st) s.heap.objs.size f cdv)) → sp vs H Q E →
      ∃ t, PSs (cxOf CX0 P w K mg base N qual (defScope st) f cdv A outer s H E).nox (defBody st) t ∧ t { nx := fun _ H' => Q .non H', rt := Q } (start N vs) H) :
    RunG P w K mg base (k + 1) f fd ps sp := by
  obtain ⟨oc, od, kV, doc, pm, an, cdv, ct, osl, rfl, look, code⟩ := Fn.ex
  intro A outer s H args us vs Q E gu room env bind vals want
  have within : K.In s.heap := env.mod.kin.keeps fun b o z => (env.bs b o z).1
  have free : s.heap.NoLimit := env.mod.nolimit.keeps fun b o z => (env.bs b o z).1
  have kinds : ∀ y ∈ ps.zip us, (defScope st).names.lookup y.1 = some .local ∨ ((defScope st).names.lookup y.1 = some .cell ∧ ((cellsFrom (s.heap.objs.size + 1) (defScope st).names []).lookup y.1).isSome = true) := by
    rintro ⟨n, v⟩ mem
    exact (Sc.par n (List.of_mem_zip mem).1).imp id fun z => ⟨z, PySem.W.cellsFrom_some _ _ _ (.inl z)⟩
  apply codeAny_call_function room.depth (within _ _ look) rfl Sc.co Sc.gen rfl (PySem.W.codeRec_of within code)
  apply bind
  apply wpAny_newFunctionEnv_cells Sc.kind kinds
  rintro env' rfl s1 called
  refine ⟨free.keeps called.toInCall.keep, codeAny_func ?_⟩
  obtain ⟨t, walk, read⟩ := bd cdv A outer s H vs Q E gu (room.deeper _) want
  have inv : Inv (cxOf CX0 P w K mg base N qual (defScope st) f cdv A outer s H E) [] (start N vs) H s1 := inv_start Sc room.hd env (lens _ _ _ _ want) vals called
  refine wpAny_mono (walk.nox.run [] s1 (start N vs) H _ inv read) ?_ (fun _ _ z => z)
  rintro (_ | u | _ | _) s' got
  · obtain ⟨σ', H', J, q⟩ := got
    exact ⟨.non, H', J.os, J.bare, J.base, J.hok, rfl, q⟩
  all_goals first
    | (obtain ⟨v, σ', H', J, rv, q⟩ := got; exact ⟨v, H', J.os, J.bare, J.base, J.hok, rv, q⟩)
    | (obtain ⟨_, _, _, q⟩ := got; exact q.elim)

/-- from the law's promise to the goal that k_head leaves; F may use the loose names' values and the modules' table -/
theorem walk_g {l : PySem.W.OpenLaw} {n k : Nat} {q : Program} {loose : List Str} {XP : (Str → Option Value) → Heap → Prop} {YP : World → Heap → Prop} {d : DefRec} {K : Params → PySem.W.Frag} {sp : PySem.W.Frag → Sp} {x : Str}
    (most : l.most = some n) (fits : n ≤ sizeLine) (plain : d.params.defaults = []) (room : Room k callerA) (noimp : importsNone q = true)
    (hY : ∀ (w : World) (h : Heap), YP w h → (K w.params).In h)
    (F : ∀ (w : World) (mg : Str → Option Value) (fa : Addr) (h : Heap), (K w.params).In h → h.Ns mainGlobals mg → XP mg h → mg d.name = some (.ref fa) →
      ∃ fd : FuncData, (∀ (s : Shared) (u : Value), BindsTo s fd ⟨[u], []⟩ [(x, u)]) ∧
        ∀ base : Heap, (K w.params).In base → base.Ns mainGlobals mg → (∃ o, base.get? sysModules = some o) → RunG l.prog w (K w.params) mg base k fa fd [x] (sp (K w.params)))
    (hsp : ∀ (K : PySem.W.Frag) (H : Hp) (a : Addr) (ns : List Int), ns.length ≤ n → Only H → SqL K H a (ns.map V.int) → sp K [.ref a] H (fun v _ => v = .bl true) fun _ _ _ => False) :
    PySem.W.WalkO q loose XP YP l.row.toRowW d [] (fun f vs => PySem.call f vs) := by
  refine Att.attach_call most plain ?_
  intro w s₀ s₁ mg mb fa o pm cd doc a vs ns Gr Y _ _ _ named script areInts short gens
  have KX := hY w _ Y
  obtain ⟨fd, binds, FB⟩ := F w mg fa _ KX Gr.T.g Gr.X named
  obtain ⟨mm, hmm, _⟩ := (Gr.T.seer noimp).mods
  have pairs := vals_ints areInts
  have size := areInts.length
  have long : ns.length ≤ sizeLine := Nat.le_trans short fits
  -- whatever of the script is tracked
  have go : ∀ H : Hp, Only H → SqL (K w.params) H a (ns.map V.int) → HOk l.prog w H s₁.heap → (∀ b, H b ≠ none → b = a) → (H a ≠ none → (K w.params).lookup a = none) →
      codeAny (model l.prog w) callerA (.call (.ref fa) ⟨[.ref a], []⟩) (fun r s' => r = .ok (.ret (.bool true)) ∧ OldK s₁.heap s'.heap ∧ s'.os = s₁.os ∧ AllBare s'.gens) s₁ := by
    intro H only listed held lone off
    have low : ∀ {b : Addr} {m : Str → Option Value}, s₁.heap.Ns b m → (hidT s₁.heap H).Ns b m := by
      rintro b m ⟨ob, es, ep, z, dz, rz⟩
      refine ⟨ob, es, ep, hidT_get z ?_, dz, rz⟩
      cases hb : H b with
      | none => rfl
      | some u =>
        obtain rfl := lone b (by rw [hb]; exact fun z => nomatch z)
        rw [script] at z
        cases z
        cases dz
    have inb : (K w.params).In (hidT s₁.heap H) := by
      intro b ob z
      refine hidT_get (KX b ob z) ?_
      cases hb : H b with
      | none => rfl
      | some u =>
        obtain rfl := lone b (by rw [hb]; exact fun z => nomatch z)
        rw [off (by rw [hb]; exact fun z => nomatch z)] at z
        cases z
    have modu : Mod (K w.params) mg (hidT s₁.heap H) := by
      obtain ⟨mc, c1, c2⟩ := Gr.T.nolimit
      exact ⟨inb, low Gr.T.g, ⟨mb, low Gr.T.b, Gr.T.builtins⟩, ⟨mc, low c1, c2⟩⟩
    have e0 : Env0 l.prog w (K w.params) mg (hidT s₁.heap H) callerA [] s₁ H :=
      ⟨rfl, modu, fun b ob z => of_hidT z, Nat.le_of_eq (hidT_size _ _), trivial, (fun b z => nomatch z), held, AllBare.of_eq gens⟩
    have sys : ∃ ob, (hidT s₁.heap H).get? sysModules = some ob := by
      obtain ⟨ob, _, _, z, _⟩ := low hmm
      exact ⟨ob, z⟩
    have done := FB _ inb (low Gr.T.g) sys callerA [] s₁ H ⟨[.ref a], []⟩ [.ref a] [.ref a] _ _ rfl room e0 (binds s₁ (.ref a)) (.cons rfl .nil) (hsp _ H a ns short only listed)
    refine codeAny_mono done ?_
    intro r s' got
    cases r with
    | error er => exact False.elim got
    | ok fl =>
      cases fl with
      | next => exact False.elim got
      | brk => exact False.elim got
      | cont => exact False.elim got
      | ret u =>
        obtain ⟨v, H', hos, bare, un, held', rv, hv⟩ := got
        cases (show v = .bl true from hv)
        cases (show u = Value.bool true from rv)
        refine ⟨rfl, OldK.of_keep ?_, hos, bare⟩
        intro b ob z
        rcases only b with hb | ⟨o2, xs, hb⟩
        · exact un.keep b ob z hb (fun y => nomatch y) (fun y => nomatch y)
        · have z1 := (held b _ hb).1
          have z2 := (held' b _ (un.frzs b o2 _ hb)).1
          rw [z] at z1
          cases z1
          exact z2
  cases lk : (K w.params).lookup a with
  | none =>
    refine go (fun b => if b = a then some (.frz { cls := .type "list", data := .seq vs.toArray } (.lst (ns.map V.int))) else none) ?_ (.inl (.inr ⟨_, if_pos rfl⟩)) ?_ ?_ (fun _ => lk)
    · intro b
      by_cases hb : b = a
      · exact .inr ⟨_, _, if_pos hb⟩
      · exact .inl (if_neg hb)
    · intro b u z
      by_cases hb : b = a
      · subst hb
        have z := (if_pos rfl).symm.trans z
        cases z
        exact ⟨script, by rw [List.length_map]; exact long, vs, _, pairs, script⟩
      · have z := (if_neg hb).symm.trans z
        cases z
    · intro b z
      by_cases hb : b = a
      · exact hb
      · exact absurd (if_neg hb) z
  | some ob =>
    have z := KX a ob lk
    rw [script] at z
    cases z
    exact go (fun _ => none) (fun _ => .inl rfl) (.inr ⟨_, vs.toArray, _, lk, rfl, rfl, rfl, by rw [List.size_toArray, size]; exact long, by simpa using pairs⟩) (fun b u z => nomatch z) (fun b z => absurd rfl z) (fun z => absurd rfl z)
end Lf
/-! ### forests: plain mathematics -/
namespace Lf
/-- the parent of v -/
def par (fs : List Nat) (v : Nat) : Nat := fs.getD v 0
/-- k steps lead from v to a root, no fewer -/
inductive Rch (fs : List Nat) : Nat → Nat → Prop
  | root {v : Nat} : par fs v = v → Rch fs 0 v
  | step {k v : Nat} : par fs v ≠ v → Rch fs k (par fs v) → Rch fs (k + 1) v
/-- the way from v to its root -/
inductive Pth (fs : List Nat) : Nat → List Nat → Prop
  | root {v : Nat} : par fs v = v → Pth fs v [v]
  | step {v : Nat} {l : List Nat} : par fs v ≠ v → Pth fs (par fs v) l → Pth fs v (v :: l)
/-- v lies on the way of u -/
inductive Bel (fs : List Nat) (v : Nat) : Nat → Prop
  | refl : Bel fs v v
  | step {u : Nat} : par fs u ≠ u → Bel fs v (par fs u) → Bel fs v u
structure Forest (fs : List Nat) : Prop where
  pos : 0 < fs.length
  few : fs.length ≤ 24
  rng : ∀ v, v < fs.length → par fs v < fs.length
  rch : ∀ v, v < fs.length → ∃ k, Rch fs k v
theorem Rch.inj {fs : List Nat} {j k v : Nat} (a : Rch fs j v) (b : Rch fs k v) : j = k := by
  induction a generalizing k with
  | root h =>
    cases b with
    | root _ => rfl
    | step h' _ => exact absurd h h'
  | step h _ ih =>
    cases b with
    | root h' => exact absurd h' h
    | step _ r => rw [ih r]
theorem Bel.le {fs : List Nat} {v u j k : Nat} (b : Bel fs v u) (a : Rch fs j u) (c : Rch fs k v) : k ≤ j := by
  induction b generalizing j with
  | refl => rw [a.inj c]; exact Nat.le_refl _
  | step h _ ih =>
    cases a with
    | root h' => exact absurd h' h
    | step _ r => exact Nat.le_succ_of_le (ih r)
/-- nobody lies below himself -/
theorem Bel.no {fs : List Nat} {v : Nat} (f : ∃ k, Rch fs k v) (h : par fs v ≠ v) : ¬ Bel fs v (par fs v) := fun b => by
  obtain ⟨k, r⟩ := f
  cases r with
  | root h' => exact h h'
  | step _ r' =>
    have := b.le r' (.step h r')
    omega
theorem Pth.of {fs : List Nat} {k v : Nat} (a : Rch fs k v) : ∃ l, Pth fs v l ∧ l.length = k + 1 := by
  induction a with
  | root h => exact ⟨_, .root h, rfl⟩
  | step h _ ih =>
    obtain ⟨l, h1, h2⟩ := ih
    exact ⟨_, .step h h1, by rw [List.length_cons, h2]⟩
theorem Pth.inj {fs : List Nat} {v : Nat} {l m : List Nat} (a : Pth fs v l) (b : Pth fs v m) : l = m := by
  induction a generalizing m with
  | root h =>
    cases b with
    | root _ => rfl
    | step h' _ => exact absurd h h'
  | step h _ ih =>
    cases b with
    | root h' => exact absurd h' h
    | step _ r => rw [ih r]
theorem Pth.bel {fs : List Nat} {u : Nat} {l : List Nat} (a : Pth fs u l) (v : Nat) : v ∈ l ↔ Bel fs v u := by
  induction a with
  | root h =>
    refine ⟨fun z => ?_, fun z => ?_⟩
    · rw [List.mem_singleton.mp z]
      exact .refl
    · cases z with
      | refl => exact List.mem_singleton.mpr rfl
      | step h' _ => exact absurd h h'
  | step h _ ih =>
    refine ⟨fun z => ?_, fun z => ?_⟩
    · rcases List.mem_cons.mp z with z | z
      · rw [z]
        exact .refl
      · exact .step h (ih.mp z)
    · cases z with
      | refl => exact List.mem_cons_self
      | step _ b => exact List.mem_cons_of_mem _ (ih.mpr b)
theorem Bel.lt {fs : List Nat} (rng : ∀ v, v < fs.length → par fs v < fs.length) {v u : Nat} (b : Bel fs v u) (h : u < fs.length) : v < fs.length := by
  induction b with
  | refl => exact h
  | step _ _ ih => exact ih (rng _ h)
theorem Pth.nodup {fs : List Nat} (rch : ∀ v, v < fs.length → ∃ k, Rch fs k v) (rng : ∀ v, v < fs.length → par fs v < fs.length) {u : Nat} {l : List Nat} (a : Pth fs u l) (h : u < fs.length) : l.Nodup := by
  induction a with
  | root _ => exact List.nodup_cons.mpr ⟨List.not_mem_nil, List.nodup_nil⟩
  | step hn p ih => exact List.nodup_cons.mpr ⟨fun z => Bel.no (rch _ h) hn ((p.bel _).mp z), ih (rng _ h)⟩
/-- a list without repetition of numbers below n has at most n items -/
theorem nodup_le : ∀ {n : Nat} {l : List Nat}, l.Nodup → (∀ x ∈ l, x < n) → l.length ≤ n
  | 0, [], _, _ => Nat.le_refl _
  | 0, x :: _, _, hb => absurd (hb x List.mem_cons_self) (Nat.not_lt_zero _)
  | n + 1, l, h, hb => by
    by_cases hn : n ∈ l
    · have h2 := List.length_erase_of_mem hn
      have h3 : (l.erase n).length ≤ n := nodup_le (h.erase n) fun x hx => by
        have h4 := (List.Nodup.mem_erase_iff h).mp hx
        have := hb x h4.2
        have := h4.1
        omega
      have h5 : 0 < l.length := List.length_pos_of_mem hn
      omega
    · refine Nat.le_succ_of_le (nodup_le h fun x hx => ?_)
      have := hb x hx
      have : x ≠ n := fun e => hn (e ▸ hx)
      omega
theorem Forest.path {fs : List Nat} (F : Forest fs) {v : Nat} (h : v < fs.length) : ∃ l, Pth fs v l ∧ l.Nodup ∧ l.length ≤ fs.length ∧ (∀ x ∈ l, x < fs.length) ∧ Rch fs (l.length - 1) v ∧ 0 < l.length := by
  obtain ⟨k, r⟩ := F.rch v h
  obtain ⟨l, p, e⟩ := Pth.of r
  have nd := p.nodup F.rch F.rng h
  have lt : ∀ x ∈ l, x < fs.length := fun x hx => ((p.bel x).mp hx).lt F.rng h
  refine ⟨l, p, nd, nodup_le nd lt, lt, ?_, by omega⟩
  rw [e]
  exact r
/-! new forests of old ones -/
theorem par_set {fs : List Nat} {a b v : Nat} (h : a < fs.length) : par (fs.set a b) v = if v = a then b else par fs v := by
  unfold par
  rw [List.getD_eq_getElem?_getD, List.getD_eq_getElem?_getD, List.getElem?_set]
  by_cases e : a = v
  · subst e
    rw [if_pos rfl, if_pos rfl, if_pos h]
    rfl
  · rw [if_neg e, if_neg (fun z => e z.symm)]
/-- reaching a root, without a count -/
def Up (fs : List Nat) (v : Nat) : Prop := ∃ k, Rch fs k v
theorem Up.root {fs : List Nat} {v : Nat} (h : par fs v = v) : Up fs v := ⟨0, .root h⟩
theorem Up.step {fs : List Nat} {v : Nat} (h : Up fs (par fs v)) : Up fs v := by
  obtain ⟨k, r⟩ := h
  by_cases e : par fs v = v
  · exact .root e
  · exact ⟨k + 1, .step e r⟩
/-- v is put below w, on whose way it does not lie -/
theorem Forest.moved {fs : List Nat} (F : Forest fs) {v w : Nat} (hv : v < fs.length) (hw : w < fs.length) (nb : ¬ Bel fs v w) : Forest (fs.set v w) := by
  have key : ∀ {k u : Nat}, Rch fs k u → ¬ Bel fs v u → Up (fs.set v w) u := by
    intro k u r
    induction r with
    | root h =>
      rename_i u
      intro z
      have ne : ¬ u = v := fun e => z (e ▸ .refl)
      exact .root (by rw [par_set hv, if_neg ne]; exact h)
    | step h r ih =>
      rename_i k u
      intro z
      have ne : ¬ u = v := fun e => z (e ▸ .refl)
      refine .step ?_
      rw [par_set hv, if_neg ne]
      exact ih fun b => z (.step h b)
  obtain ⟨kw, rw'⟩ := F.rch w hw
  have upw := key rw' nb
  refine ⟨by rw [List.length_set]; exact F.pos, by rw [List.length_set]; exact F.few, fun u hu => ?_, fun u hu => ?_⟩
  · rw [List.length_set] at hu ⊢
    rw [par_set hv]
    by_cases e : u = v
    · rw [if_pos e]
      exact hw
    · rw [if_neg e]
      exact F.rng u hu
  · rw [List.length_set] at hu
    obtain ⟨k, r⟩ := F.rch u hu
    clear hu
    show Up _ _
    induction r with
    | root h =>
      rename_i u
      by_cases e : u = v
      · refine .step ?_
        rw [par_set hv, if_pos e]
        exact upw
      · exact .root (by rw [par_set hv, if_neg e]; exact h)
    | step h _ ih =>
      rename_i k u _
      by_cases e : u = v
      · refine .step ?_
        rw [par_set hv, if_pos e]
        exact upw
      · refine .step ?_
        rw [par_set hv, if_neg e]
        exact ih
theorem par_range {n v : Nat} (h : v < n) : par (List.range n) v = v := by
  unfold par
  rw [List.getD_eq_getElem?_getD, List.getElem?_range h]
  rfl
theorem Forest.range {n : Nat} (h0 : 0 < n) (h1 : n ≤ 24) : Forest (List.range n) := by
  refine ⟨by rw [List.length_range]; exact h0, by rw [List.length_range]; exact h1, fun v hv => ?_, fun v hv => ?_⟩
  · rw [List.length_range] at hv
    rw [par_range hv, List.length_range]
    exact hv
  · rw [List.length_range] at hv
    exact Up.root (par_range hv)
def tops (fs : List Nat) : List Nat := (List.range fs.length).filter fun v => decide (par fs v = v)
theorem mem_tops {fs : List Nat} {v : Nat} : v ∈ tops fs ↔ v < fs.length ∧ par fs v = v := by
  unfold tops
  rw [List.mem_filter, List.mem_range, decide_eq_true_iff]
theorem tops_nodup (fs : List Nat) : (tops fs).Nodup := List.Pairwise.filter _ List.nodup_range
/-- one root below another: one root fewer -/
theorem tops_moved {fs : List Nat} {a b : Nat} (ha : a ∈ tops fs) (hb : b ∈ tops fs) (ne : a ≠ b) : (tops (fs.set a b)).length + 1 = (tops fs).length := by
  have h1 := mem_tops.mp ha
  have e : tops (fs.set a b) = (tops fs).filter fun v => decide (v ≠ a) := by
    unfold tops
    rw [List.length_set, List.filter_filter]
    refine List.filter_congr fun v hv => ?_
    rw [par_set h1.1]
    by_cases z : v = a
    · subst z
      rw [if_pos rfl]
      simp [Ne.symm ne]
    · rw [if_neg z]
      simp [z]
  have e2 : (tops fs).filter (fun v => decide (v ≠ a)) = (tops fs).erase a := by
    rw [List.Nodup.erase_eq_filter (tops_nodup fs)]
    refine List.filter_congr fun v _ => ?_
    by_cases z : v = a <;> simp [z]
  rw [e, e2, List.length_erase_of_mem ha]
  have := List.length_pos_of_mem ha
  omega
end Lf
namespace Lf
/-! ### all that lies below v, found from children to children -/
def kids (fs : List Nat) (y : Nat) : List Nat := (List.range fs.length).filter fun u => decide (par fs u = y) && decide (u ≠ par fs u)
theorem mem_kids {fs : List Nat} {y u : Nat} : u ∈ kids fs y ↔ u < fs.length ∧ par fs u = y ∧ u ≠ par fs u := by
  unfold kids
  rw [List.mem_filter, List.mem_range, Bool.and_eq_true_iff, decide_eq_true_iff, decide_eq_true_iff]
structure Bfs (fs : List Nat) (v : Nat) (ins : List Nat) (c : Nat) : Prop where
  nd : ins.Nodup
  bel : ∀ u ∈ ins, u < fs.length ∧ Bel fs v u
  top : v ∈ ins
  cnt : c ≤ ins.length
  cls : ∀ j u, j < c → ins[j]? = some (par fs u) → u < fs.length → par fs u ≠ u → u ∈ ins
  org : ∀ u ∈ ins, u = v ∨ (par fs u ≠ u ∧ ∃ j, j < c ∧ ins[j]? = some (par fs u))
theorem Bfs.start {fs : List Nat} {v : Nat} (h : v < fs.length) : Bfs fs v [v] 0 :=
  ⟨List.nodup_cons.mpr ⟨List.not_mem_nil, List.nodup_nil⟩, fun u hu => by rw [List.mem_singleton.mp hu]; exact ⟨h, .refl⟩, List.mem_singleton.mpr rfl, Nat.zero_le _, fun j u hj => absurd hj (Nat.not_lt_zero _), fun u hu => .inl (List.mem_singleton.mp hu)⟩
theorem Bfs.le {fs : List Nat} {v c : Nat} {ins : List Nat} (B : Bfs fs v ins c) : ins.length ≤ fs.length := nodup_le B.nd fun u hu => (B.bel u hu).1
theorem Bfs.next {fs : List Nat} (rch : ∀ v, v < fs.length → ∃ k, Rch fs k v) {v c y : Nat} {ins : List Nat} (B : Bfs fs v ins c) (hy : ins[c]? = some y) : Bfs fs v (ins ++ kids fs y) (c + 1) := by
  have hc : c < ins.length := by
    rcases Nat.lt_or_ge c ins.length with z | z
    · exact z
    · rw [List.getElem?_eq_none z] at hy
      cases hy
  have ym : y ∈ ins := List.mem_of_getElem? hy
  have yb := B.bel y ym
  refine ⟨?_, ?_, ?_, ?_, ?_, ?_⟩
  · refine List.nodup_append.mpr ⟨B.nd, List.Pairwise.filter _ List.nodup_range, ?_⟩
    intro u hu w hw e
    subst e
    obtain ⟨k1, k2, k3⟩ := mem_kids.mp hw
    rcases B.org u hu with z | ⟨_, j, hj, ej⟩
    · subst z
      exact Bel.no (rch _ k1) (Ne.symm k3) (k2 ▸ yb.2)
    · rw [k2] at ej
      have e2 : j = c := (List.getElem?_inj (Nat.lt_trans hj hc) B.nd).mp (ej.trans hy.symm)
      omega
  · intro u hu
    rcases List.mem_append.mp hu with z | z
    · exact B.bel u z
    · obtain ⟨k1, k2, k3⟩ := mem_kids.mp z
      exact ⟨k1, .step (Ne.symm k3) (k2 ▸ yb.2)⟩
  · exact List.mem_append_left _ B.top
  · rw [List.length_append]
    omega
  · intro j u hj ej hu hn
    by_cases z : j < c
    · rw [List.getElem?_append_left (by omega)] at ej
      exact List.mem_append_left _ (B.cls j u z ej hu hn)
    · have z2 : j = c := by omega
      subst z2
      rw [List.getElem?_append_left hc, hy] at ej
      exact List.mem_append_right _ (mem_kids.mpr ⟨hu, (Option.some.inj ej).symm, Ne.symm hn⟩)
  · intro u hu
    rcases List.mem_append.mp hu with z | z
    · rcases B.org u z with z | ⟨h1, j, hj, ej⟩
      · exact .inl z
      · exact .inr ⟨h1, j, by omega, by rw [List.getElem?_append_left (by omega)]; exact ej⟩
    · obtain ⟨k1, k2, k3⟩ := mem_kids.mp z
      exact .inr ⟨Ne.symm k3, c, Nat.lt_succ_self _, by rw [List.getElem?_append_left hc, hy, k2]⟩
theorem Bfs.done {fs : List Nat} (rng : ∀ v, v < fs.length → par fs v < fs.length) {v : Nat} {ins : List Nat} (B : Bfs fs v ins ins.length) (u : Nat) : u ∈ ins ↔ u < fs.length ∧ Bel fs v u := by
  refine ⟨B.bel u, fun hh => ?_⟩
  obtain ⟨h, b⟩ := hh
  induction b with
  | refl => exact B.top
  | step hn _ ih =>
    obtain ⟨j, hj, ej⟩ := List.getElem_of_mem (ih (rng _ h))
    exact B.cls j _ hj (by rw [List.getElem?_eq_getElem hj, ej]) h hn
end Lf
namespace Lf
open PySem PySem.Spec PyProof.Rows L2
/-! ### rules -/
/-- a list or a tuple -/
def SqQ (K : PySem.W.Frag) (H : Hp) (p : Addr) (xs : List V) : Prop := SqL K H p xs ∨ SqT K H p xs
theorem same_seqT {K : PySem.W.Frag} {H H' : Hp} {a : Addr} {xs : List V} (e : Same H H') (h : SqT K H a xs) : SqT K H' a xs := by
  rcases h with (h | ⟨o, h⟩) | h
  · exact .inl (.inl (e _ _ h))
  · exact .inl (.inr ⟨o, e _ _ h⟩)
  · exact .inr h
theorem SqQ.same {K : PySem.W.Frag} {H H' : Hp} {p : Addr} {xs : List V} (s : Same H H') : SqQ K H p xs → SqQ K H' p xs
  | .inl h => .inl (s.seq h)
  | .inr h => .inr (same_seqT s h)
def rIxQ (K : PySem.W.Frag) : R2 := fun x y H Q => ∃ (p : Addr) (xs : List V) (i : Int) (v : V), x = .ref p ∧ y = .int i ∧ SqQ K H p xs ∧ atI xs i = some v ∧ Q v H
section
variable {X : Cx}
theorem ix_q : IxR X (rIxQ X.K) := by
  intro value slice pins s σ H x y v u Q I rx ry q hs
  obtain ⟨p, xs, i, z, h1, h2, h3, h4, h5⟩ := q
  rcases h3 with h3 | h3
  · exact ix_list value slice pins s σ H x y v u Q I rx ry ⟨p, xs, i, z, h1, h2, h3, h4, h5⟩ hs
  · exact ix_tup value slice pins s σ H x y v u Q I rx ry ⟨p, xs, i, z, h1, h2, h3, h4, h5⟩ hs
end
/-! ### xs[::k], k one or minus one -/
def tStepL (K : PySem.W.Frag) (te ts : TE) : TE := fun σ H Q => te σ H fun x H1 => ts σ H1 fun y H2 => ∃ (a : Addr) (xs : List V) (k : Int), x = .ref a ∧ y = .int k ∧ SqL K H2 a xs ∧ (k = 1 ∨ k = -1) ∧ ∀ p, H2 p = none → ∀ zs, (zs = xs ∨ zs = xs.reverse) → Q (.ref p) (upd H2 p (.lst zs))
theorem pick_one (its : Array Value) : slicePick its none none (some 1) = its := slicePick_all its
section
variable {X : Cx} {e st : Expr} {te ts : TE} {p3 pos : Pos}
theorem pe_stepL (he : PE X e te) (hst : PE X st ts) (tl : ∀ (a b : Addr), subscripted (.Slice none none (some st) p3) false (.ref a) (.ref b) = operate [.ref a, .ref b] (getItem (.ref a) (.ref b)) := by intros; with_unfolding_all rfl) :
    PE X (.Subscript e (.Slice none none (some st) p3) pos) (tStepL X.K te ts) := by
  refine ⟨fun pins s σ H Q I h => ?_⟩
  refine Subscript_ (thn (he.run pins s σ H _ I h) ?_)
  rintro v s1 ⟨x, H1, I1, r1, q1⟩
  refine wpAny_Slice (thn (po_none.run pins s1 σ H1 (fun o G => o = none ∧ G = H1) I1 ⟨rfl, rfl⟩) ?_)
  rintro vl s2 ⟨ol, G2, I2, pl, rfl, rfl⟩
  refine thn (po_none.run pins s2 σ G2 (fun o G => o = none ∧ G = G2) I2 ⟨rfl, rfl⟩) ?_
  rintro vu s3 ⟨ou, G3, I3, pu, rfl, rfl⟩
  rw [evalPart_some]
  refine thn (hst.run pins s3 σ G3 _ I3 q1) ?_
  rintro vs s4 ⟨y, H4, I4, ry, a, xs, k, rfl, rfl, hx, hk, q⟩
  cases (show v = Value.ref a from r1)
  obtain ⟨tk, rfl⟩ := ry
  have I5 : Inv X pins σ H4 { s4 with heap := s4.heap.push { cls := .type "slice", data := .fields #[vl, vu, .int k tk] } } := I4.kept (t' := s4.toks) fun b ob z => Heap.get?_push_of_some _ z
  obtain ⟨its, rv, plain, small⟩ := I5.list hx
  have same := rv.length
  show wpAny (model X.prog X.w) X.A (subscriptTail e (.Slice none none (some st) p3) (.ref a) (.ref s4.heap.objs.size)) (EP X pins σ Q) X.xe { s4 with heap := s4.heap.push { cls := .type "slice", data := .fields #[vl, vu, .int k tk] } }
  refine tail_any (ops := [.ref a, .ref s4.heap.objs.size]) plain.isList.typeIs (PySem.slot_list_getitem.lookup) ?_ (tl a _)
  rcases hk with rfl | rfl
  · refine wpAny_getItem_list_slice plain.isList (Heap.IsSliceOf.new _ vl vu _) pl pu (IsPart.int 1 tk) (by decide) ?_ (by rw [List.size_toArray]; omega)
    rw [pick_one]
    refine ⟨.ref _, _, I5.laid (t' := s4.toks) (o := .lst xs) (fun b ob z => Heap.get?_push_of_some _ z) (Nat.le_refl _) ?_, rfl, q _ (I5.hok.fresh (Nat.le_refl _)) xs (.inl rfl)⟩
    exact ⟨small, its, 0, rv, Heap.get?_push_size _ rfl⟩
  · refine wpAny_getItem_list_slice plain.isList (Heap.IsSliceOf.new _ vl vu _) pl pu (IsPart.int (-1) tk) (by decide) ?_ (by rw [List.size_toArray]; omega)
    rw [PySem.W.krv_pick]
    refine ⟨.ref _, _, I5.laid (t' := s4.toks) (o := .lst xs.reverse) (fun b ob z => Heap.get?_push_of_some _ z) (Nat.le_refl _) ?_, rfl, q _ (I5.hok.fresh (Nat.le_refl _)) xs.reverse (.inr rfl)⟩
    exact ⟨by rw [List.length_reverse]; exact small, _, 0, rv.reverse, Heap.get?_push_size _ rfl⟩
end
/-- numbers as values -/
def nv (l : List Nat) : List V := l.map fun x => V.int (x : Nat)
theorem nv_length (l : List Nat) : (nv l).length = l.length := List.length_map ..
theorem nv_get {l : List Nat} {i : Nat} (h : i < l.length) : (nv l)[i]? = some (.int ((l.getD i 0 : Nat) : Int)) := by
  unfold nv
  rw [List.getElem?_map, List.getD_eq_getElem?_getD, List.getElem?_eq_getElem h]
  rfl
theorem nv_some {l : List Nat} {i : Nat} {v : V} (h : (nv l)[i]? = some v) : i < l.length ∧ v = .int ((l.getD i 0 : Nat) : Int) := by
  have hi : i < l.length := by
    rcases Nat.lt_or_ge i l.length with z | z
    · exact z
    · rw [List.getElem?_eq_none (by rw [nv_length]; exact z)] at h
      cases h
  rw [nv_get hi] at h
  exact ⟨hi, (Option.some.inj h).symm⟩
theorem nv_append (l m : List Nat) : nv (l ++ m) = nv l ++ nv m := List.map_append ..
theorem dpNv {K : PySem.W.Frag} {H : Hp} : ∀ l : List Nat, DpAll K H (nv l) ((l.map fun x => ((x : Nat) : Int)).map PyData.int)
  | [] => .nil
  | x :: l => .cons (.int _) (dpNv l)
end Lf
namespace Lf
open PySem PySem.Spec PyProof.Rows L2
/-! ### enumerate of a tuple -/
theorem enumNew {v : Value} {o : Obj} {G : Heap → Prop} (B : Begins v o G) :
    Meets (Builtin.«enumerate.__new__» ⟨[.type "enumerate", v], []⟩) (fun _ R s => G s.heap ∧
      R (.ok (.ret (.ref (s.heap.push o).objs.size))) { s with heap := (s.heap.push o).push { cls := .type "enumerate", data := .fields #[.none, .bool false, .ref s.heap.objs.size, rawInt 0, .none, .none] } }) :=
  .of_wp fun prog w A R s want => by
    obtain ⟨hp, gens, drawn, tok, os⟩ := s
    obtain ⟨first, want⟩ := want
    have subE := sub_enumerate
    have it0 : ∀ {A' : Around} {E : Value → Shared → Prop} {Q : Value → Shared → Prop}, Q (.ref hp.objs.size) ⟨hp.push o, gens, drawn, tok, os⟩ → wpAny (model prog w) A' (pyIter v) Q E ⟨hp, gens, drawn, tok, os⟩ := fun z => B.iter prog w _ _ ⟨hp, gens, drawn, tok, os⟩ _ first z
    wp_walk using it0
    refine wpAny_stack_any fun st => wpAny_pure ?_
    split
    · rename_i c _ _ _ _ _
      cases (c == Value.type "enumerate") <;> (wp_walk using it0; exact ⟨_, rfl, want⟩)
    · wp_walk using it0
      exact ⟨_, rfl, want⟩
theorem enumMade {prog : Program} {w : World} {A : Around} {E : Value → Shared → Prop} {s : Shared} {v : Value} {o : Obj} {G : Heap → Prop} {Q : Value → Shared → Prop} (B : Begins v o G) (first : G s.heap)
    (want : ∀ h', IsEnum h' (s.heap.objs.size + 1) s.heap.objs.size 0 .none → h'.get? s.heap.objs.size = some o → (∀ b u, s.heap.get? b = some u → h'.get? b = some u) → Q (.ref (s.heap.objs.size + 1)) { s with heap := h' }) :
    wpAny (model prog w) A (call (.type "enumerate") [v]) Q E s := by
  refine callType_new F.called_enumerate (by decide) (F.typeCall_enumerate_1 _) (F.newCall_enumerate_1 _) (fun obj => F.args_object_init_2 obj _) F.entry_enumerate_new (enumNew B) ⟨first, ?_⟩
  have size : (s.heap.push o).objs.size = s.heap.objs.size + 1 := Heap.size_push ..
  show _ ∧ _
  rw [size]
  have isE : IsEnum ((s.heap.push o).push { cls := .type "enumerate", data := .fields #[.none, .bool false, .ref s.heap.objs.size, rawInt 0, .none, .none] }) (s.heap.objs.size + 1) s.heap.objs.size 0 .none := by
    have z := Heap.get?_push_size (s.heap.push o) (o := { cls := .type "enumerate", data := .fields #[.none, .bool false, .ref s.heap.objs.size, rawInt 0, .none, .none] }) rfl
    rw [size] at z
    exact z
  exact ⟨⟨_, isE, rfl⟩, want _ isE (Heap.get?_push_of_some _ (Heap.get?_push_size _ B.free)) fun b u z => Heap.get?_push_of_some _ (Heap.get?_push_of_some _ z)⟩
/-- the tuple at a, its items in new pairs -/
def ItT (K : PySem.W.Frag) (a : Addr) : It :=
  ⟨fun i H => ∃ (xs : List V) (x : V), SqT K H a xs ∧ xs[i]? = some x, fun i H v H' => ∃ T x, v = .ref T ∧ H T = none ∧ H' = upd H T (.tup [.int (i : Nat), x]) ∧ ∀ xs, SqT K H a xs → xs[i]? = some x, fun i H => ∃ xs : List V, SqT K H a xs ∧ xs.length = i⟩
theorem walkT {K : PySem.W.Frag} {a : Addr} {xs : List V} : Walk (ItT K a) xs.length (fun H => SqT K H a xs) (YPair (fun i => some (.int (i : Nat))) (fun i => xs[i]?)) := by
  refine ⟨fun i _ hi z => ⟨xs, xs[i], z, List.getElem?_eq_getElem hi⟩, fun _ z => ⟨xs, z, rfl⟩, ?_⟩
  rintro i H v H' _ z ⟨T, x, h1, h2, h3, h4⟩
  exact ⟨T, .int (i : Nat), x, h1, h2, h3, rfl, h4 xs z⟩
theorem turnT {P : Program} {w : World} {K : PySem.W.Frag} {elts : List Expr} {kk : Nat} {tpos : Pos} (a e it : Addr) :
    Turn P w K (.Tuple elts kk tpos) (ItT K a) [e, it] e (fun i h => (∃ old, IsEnum h e it ((i : Nat) : Int) old) ∧ h.IsTupleIter it a i ∧ e ≠ it ∧ a ≠ it ∧ e ≠ a) where
  mem := List.mem_cons_self
  obj := by
    rintro i h ⟨⟨old, he⟩, ⟨o, ho, hc, hd⟩, _⟩ b hb
    rcases List.mem_cons.mp hb with rfl | hb
    · exact ⟨_, he, fun v z => nomatch z⟩
    · rw [List.mem_singleton.mp hb]
      exact ⟨o, ho, fun v z => by rw [hd] at z; cases z⟩
  keep := by
    rintro i h h' ⟨⟨old, he⟩, hi, r⟩ k
    exact ⟨⟨old, k e List.mem_cons_self _ he⟩, hi.at fun o z => k it (List.mem_cons_of_mem _ List.mem_cons_self) o z, r⟩
  item := by
    intro X hP hw hK hc i pins s σ H E I hf st hg
    subst hP hw hK
    obtain ⟨⟨old, he⟩, hit, hne, hai, hea⟩ := st
    obtain ⟨xs, x, hq, hx⟩ := hg
    obtain ⟨its, rv, tp, hz⟩ := I.tuple hq
    obtain ⟨u, hu, ru⟩ := rv.get hx
    have inb : i < its.toArray.size := by
      rw [List.size_toArray]
      rcases Nat.lt_or_ge i its.length with z | z
      · exact z
      · rw [List.getElem?_eq_none z] at hu
        cases hu
    have isT : s.heap.IsTuple a its.toArray := by
      obtain ⟨o, ho, ht, n, hd⟩ := tp
      exact ⟨o, ho, ht, n, hd⟩
    have el : e < s.heap.objs.size := Heap.lt_size he
    have il : it < s.heap.objs.size := by
      obtain ⟨_, z, _⟩ := hit
      exact Heap.lt_size z
    refine wpAny_pyNext_enum_itemD (Draws.tuple (A := X.A.in1) (I.ok.hd hc) it a hai its.toArray) he ⟨hit, isT⟩ inb hne (by simp [hne, hea]) ?_
    rintro y h1 tk hy out ⟨hit1, _⟩ pair _ kept
    have ey : y = u := by
      have z : its[i]? = some y := by simpa using hy
      rw [hu] at z
      exact (Option.some.inj z).symm
    subst ey
    refine ⟨_, rfl, wpAny_letOwnedTupleGo_enum (s := { s with heap := h1, toks := tk + 1 }) out ?_⟩
    intro h2 he2 same
    have pair2 : h2.get? s.heap.objs.size = some { cls := .type "tuple", data := .seq #[.int i tk, y] } := (same.2 _ (Nat.ne_of_gt el)).trans pair
    have new : ObjOk X.prog X.w (upd H s.heap.objs.size (.tup [.int (i : Nat), x])) h2 s.heap.objs.size (.tup [.int (i : Nat), x]) :=
      ⟨by show 2 ≤ sizeLine; decide, [.int i tk, y], .cons ⟨_, rfl⟩ (.cons ru .nil), ⟨_, pair2, rfl, _, rfl⟩⟩
    have J : Inv X pins σ (upd H s.heap.objs.size (.tup [.int (i : Nat), x])) { s with heap := h2, toks := tk + 1 } := by
      refine I.turnedNew (ch := [e, it]) ?_ hf (Nat.le_refl _) new
      intro b ob hb z
      have be : b ≠ e := fun y => hb (by simp [y])
      have bi : b ≠ it := fun y => hb (by simp [y])
      exact (same.2 b be).trans (kept b ob be bi z)
    refine ⟨.ref s.heap.objs.size, _, J, rfl, ⟨_, x, rfl, I.hok.fresh (Nat.le_refl _), rfl, fun ys hys => ?_⟩, ⟨⟨y, ?_⟩, hit1.at fun o z => (same.2 it (Ne.symm hne)).trans z, hne, hai, hea⟩, fun b hb => ?_⟩
    · rw [I.tuple_inj hys hq]
      exact hx
    · have z : ((i + 1 : Nat) : Int) = (i : Int) + 1 := by omega
      rw [z]
      exact he2
    · have bl : b < s.heap.objs.size := by
        rcases List.mem_cons.mp hb with rfl | hb
        · exact el
        · rw [List.mem_singleton.mp hb]
          exact il
      rw [upd_ne (Nat.ne_of_lt bl)]
      exact (hf b hb).1
  done := by
    intro X hP hw hK hc i pins s σ H E I hf st hg
    subst hP hw hK
    obtain ⟨⟨old, he⟩, hit, hne, hai, hea⟩ := st
    obtain ⟨xs, hq, hx⟩ := hg
    obtain ⟨its, rv, tp, hz⟩ := I.tuple hq
    have isT : s.heap.IsTuple a its.toArray := by
      obtain ⟨o, ho, ht, n, hd⟩ := tp
      exact ⟨o, ho, ht, n, hd⟩
    obtain ⟨f0, f1, f2, f3, f4, f5⟩ := hf it (List.mem_cons_of_mem _ List.mem_cons_self)
    have same := rv.length
    have size : its.toArray.size = i := by
      rw [List.size_toArray]
      omega
    have last : s.heap.IsTupleIter it a its.toArray.size ∧ s.heap.IsTuple a its.toArray := ⟨by rw [size]; exact hit, isT⟩
    refine wpAny_pyNext_enum_endD (Draws.tuple (A := X.A.in1) (I.ok.hd hc) it a hai its.toArray) he last ?_
    intro h1 ext
    exact ⟨rfl, I.turned (t' := s.toks) (fun b o hb z => ext b o hb z) f0 f1 f3 f4 f5⟩
  self := fun A i s Q E st h => by
    obtain ⟨⟨_, he⟩, _⟩ := st
    exact wpAny_pyIter_enum he h
def iEnT (K : PySem.W.Frag) (ta : TA) : TI := fun σ H R => ta σ H fun vs H1 => ∃ a xs, vs = [.ref a] ∧ SqT K H1 a xs ∧ R (ItT K a) H1
theorem pi_enumT {X : Cx} {e : Expr} {ta : TA} {p pos tpos : Pos} {elts : List Expr} {kk : Nat} (hg : Gl X "enumerate") (hm : X.mg "enumerate" = none) (ha : PA X [e] ta) (hs : starEach [e] X.env = [(false, eval e X.env)] := by rfl) :
    PI X (.Tuple elts kk tpos) (.Call (.Name "enumerate" p) [e] [] pos) (iEnT X.K ta) := by
  refine ⟨fun pins s σ H R I h => ?_⟩
  refine Call_ (ld_blt I hg hm boot_enumerate (PyProof.Rows.callWith_type1 (thn (ha.run pos pins s σ H _ I h) ?_) hs rfl))
  rintro us s1 ⟨vs, H1, I1, r1, a, xs, rfl, hq, q⟩
  obtain ⟨u, rfl, r⟩ := vals1 r1
  cases (show u = Value.ref a from r)
  obtain ⟨its, rv, tp, hz⟩ := I1.tuple hq
  have isT : s1.heap.IsTuple a its.toArray := by
    obtain ⟨o, ho, ht, n, hd⟩ := tp
    exact ⟨o, ho, ht, n, hd⟩
  have al : a < s1.heap.objs.size := by
    obtain ⟨o, ho, _⟩ := tp
    exact Heap.lt_size ho
  refine enumMade (begins_tuple a its.toArray) isT ?_
  intro h1 isE isI kept
  refine wpAny_pyIter_enum isE ?_
  have I2 : Inv X pins σ H1 { s1 with heap := h1 } := I1.kept (t' := s1.toks) kept
  refine ⟨s1.heap.objs.size + 1, [s1.heap.objs.size + 1, s1.heap.objs.size], _, _, H1, rfl, I2, turnT a (s1.heap.objs.size + 1) s1.heap.objs.size, ⟨⟨.none, isE⟩, ⟨_, isI, rfl, rfl⟩, Nat.succ_ne_self _, Nat.ne_of_lt al, Nat.ne_of_gt (Nat.lt_succ_of_lt al)⟩, fun b hb => ?_, q⟩
  have le : s1.heap.objs.size ≤ b := by
    rcases List.mem_cons.mp hb with rfl | hb
    · exact Nat.le_succ _
    · rw [List.mem_singleton.mp hb]
      exact Nat.le_refl _
  exact I1.fpOk le (I1.hok.fresh le)
end Lf
namespace Lf
open PySem PySem.Spec PyProof.Rows L2
/-! ### tuples of any kind: slices, sums, the reverse of a short one, == () -/
theorem same_newT {H : Hp} {p : Addr} {o : HO} (h : H p = none) : Same H (upd H p o) := fun b u e => by
  rw [upd_ne (ne_of_none e h)]
  exact e
section
variable {prog : Program} {w : World} {A : Around} {E : Value → Shared → Prop} {s : Shared}
theorem adjBack (n : Nat) : Builtin.Slice.sliceAdjust none none (-1) (n : Int) = ((n : Int) - 1, -1) := by
  unfold Builtin.Slice.sliceAdjust
  simp
theorem plBack (n : Nat) : Builtin.Slice.slicePlaces ((n : Int) - 1) (-1) (-1) = n := by
  unfold Builtin.Slice.slicePlaces
  have h1 : ¬ ((-1 : Int) > 0) := by decide
  simp only [h1, if_false]
  split <;> simp_all <;> omega
theorem appBack {sl : Addr} {t : Tok} {n : Nat} {Q : Int × Int × Nat → Shared → Prop} (hs : s.heap.IsSliceOf sl .none .none (.int (-1) t)) (h : Q ((n : Int) - 1, -1, n) s) :
    wpAny (model prog w) A (Builtin.Slice.sliceApplied (.ref sl) (pure (n : Int))) Q E s := by
  obtain ⟨os, hos, hcs, hds⟩ := id hs
  unfold Builtin.Slice.sliceApplied Builtin.Slice.sliceFields
  refine wpAny_bind (wpAny_bind (wpAny_field hos hds (x := .none) rfl (wpAny_bind (wpAny_field hos hds (x := .none) rfl (wpAny_bind (wpAny_field hos hds (x := .int (-1) t) rfl (wpAny_pure ?_)))))))
  refine wpAny_bind (HT.slicePart_ (IsPart.int (-1) t) ?_)
  show wpAny _ _ (if ((-1 : Int) == 0) = true then _ else _) _ _ s
  rw [if_neg (by decide)]
  refine wpAny_bind (HT.slicePart_ IsPart.none (wpAny_bind (HT.slicePart_ IsPart.none (wpAny_bind (wpAny_pure ?_)))))
  show wpAny _ _ (match Builtin.Slice.sliceAdjust none none (-1) (n : Int) with | (lo, hi) => pure (lo, (-1 : Int), Builtin.Slice.slicePlaces lo hi (-1))) _ _ s
  rw [adjBack]
  show wpAny _ _ (pure ((n : Int) - 1, (-1 : Int), Builtin.Slice.slicePlaces ((n : Int) - 1) (-1) (-1))) _ _ s
  rw [plBack]
  exact wpAny_pure h
theorem pickBack (xs : List Value) (h : xs.length ≤ 2) : ((List.range xs.toArray.size).filterMap fun (k : Nat) => xs.toArray[(((xs.toArray.size : Nat) : Int) - 1 + (k : Int) * (-1)).toNat]?).toArray = xs.reverse.toArray := by
  match xs, h with
  | [], _ => rfl
  | [a], _ => rfl
  | [a, b], _ => rfl
theorem getBack {t sl : Addr} {items : List Value} {tk : Tok} {Q : Value → Shared → Prop} (ht : IsTup s.heap t items.toArray) (hs : s.heap.IsSliceOf sl .none .none (.int (-1) tk)) (few : items.length ≤ 2)
    (h : Q (.ref s.heap.objs.size) { s with heap := s.heap.push { cls := .type "tuple", data := .seq items.reverse.toArray } }) : wpAny (model prog w) A (getItem (.ref t) (.ref sl)) Q E s := by
  have fits : sizeOk (.seq items.reverse.toArray) := by
    show items.reverse.toArray.size ≤ sizeLine
    rw [List.size_toArray, List.length_reverse, sizeLine_eq]
    omega
  obtain ⟨os, hos, hcs, hds⟩ := id hs
  have isS : s.TypeIs (.ref sl) "slice" := ⟨os, hos, hcs⟩
  unfold getItem
  try with_reducible refine wpAny_holding ?_
  first | refine wpAny_bind (wpAny_pure ?_) | skip
  refine wpAny_bind (wpAny_sequenceKey ht.typeIs (by decide) ?_)
  refine wpAny_bind (wpAny_callSpecial?_slot (name := Str.ofString "__getitem__") ht.typeIs PyProof.Rows.slot_tuple_getitem (wpAny_call_entry PyProof.Rows.slot_tuple_getitem ht.typeIs entry_tuple_getitem ?_ (args_tuple_getitem _ _)))
  show wpAny _ _ (Builtin.Tuple.tupleItemsOf (.ref t) >>= _) _ _ s
  refine wpAny_bind (tupleItemsOf_ ht (wpAny_bind (wpAny_typeOf isS ?_)))
  rw [if_pos (by decide)]
  refine wpAny_bind (appBack hs ?_)
  have no : ¬ ((((((items.toArray.size : Nat) : Int) - 1) == 0) && ((-1 : Int) == 1) && (items.toArray.size == items.toArray.size)) = true) := by
    rw [show ((-1 : Int) == 1) = false from by decide, Bool.and_false, Bool.false_and]
    exact Bool.false_ne_true
  show wpAny _ _ (if (((((items.toArray.size : Nat) : Int) - 1) == 0) && ((-1 : Int) == 1) && (items.toArray.size == items.toArray.size)) = true then _ else _) _ _ s
  rw [if_neg no, pickBack items few]
  first
    | exact wpAny_bind (m := Builtin.Tuple.tupleExact _) (wpAny_newObj_type (wpAny_pure ⟨_, rfl, wpAny_pure h⟩) fits)
    | exact wpAny_bind (m := Builtin.Tuple.tupleExact _) (wpAny_newObj_type (wpAny_bind (wpAny_pure (wpAny_pure ⟨_, rfl, wpAny_pure h⟩))) fits)
    | exact wpAny_bind (wpAny_bind (m := Builtin.Tuple.tupleExact _) (wpAny_newObj_type (wpAny_pure (wpAny_pure ⟨_, rfl, wpAny_pure h⟩)) fits))
    | exact wpAny_bind (wpAny_bind (m := Builtin.Tuple.tupleExact _) (wpAny_newObj_type (wpAny_pure ⟨_, rfl, wpAny_pure h⟩) fits))
end
section
variable {X : Cx}
def tRevT (te : TE) : TE := fun σ H Q => te σ H fun x H1 => ∃ (a : Addr) (xs : List V), x = .ref a ∧ H1 a = some (.tup xs) ∧ xs.length ≤ 2 ∧ ∀ p, H1 p = none → Q (.ref p) (upd H1 p (.tup xs.reverse))
theorem pe_revT {e : Expr} {te : TE} {k : Nat} {p1 p2 p3 pos : Pos} (he : PE X e te) : PE X (.Subscript e (.Slice none none (some (.UnaryOp .USub (.Constant (.int 1) k p1) p2)) p3) pos) (tRevT te) := by
  refine ⟨fun pins s σ H Q I h => ?_⟩
  refine Subscript_ (thn (he.run pins s σ H _ I h) ?_)
  rintro v s1 ⟨x, H1, I1, r1, a, xs, rfl, hx, few, q⟩
  cases (show v = Value.ref a from r1)
  have hst : PE X (.UnaryOp .USub (.Constant (.int 1) k p1) p2) (tUn (rU fun i => .int (-i)) (tC (.int 1))) := pe_un un_neg pe_int
  refine wpAny_Slice (thn (po_none.run pins s1 σ H1 (fun o G => o = none ∧ G = H1) I1 ⟨rfl, rfl⟩) ?_)
  rintro vl s2 ⟨ol, G2, I2, pl, rfl, rfl⟩
  refine thn (po_none.run pins s2 σ G2 (fun o G => o = none ∧ G = G2) I2 ⟨rfl, rfl⟩) ?_
  rintro vu s3 ⟨ou, G3, I3, pu, rfl, rfl⟩
  cases pl
  cases pu
  rw [evalPart_some]
  refine thn (hst.run pins s3 σ G3 (fun y G => y = .int (-1) ∧ G = G3) I3 ⟨1, rfl, rfl, rfl⟩) ?_
  rintro vs s4 ⟨y, H4, I4, ry, rfl, rfl⟩
  obtain ⟨tk, rfl⟩ := ry
  have I5 : Inv X pins σ H4 { s4 with heap := s4.heap.push { cls := .type "slice", data := .fields #[.none, .none, .int (-1) tk] } } := I4.kept (t' := s4.toks) fun b ob z => Heap.get?_push_of_some _ z
  obtain ⟨its, rv, plain, small⟩ := I5.tuple (SqT.of hx)
  have same := rv.length
  show wpAny (model X.prog X.w) X.A (subscriptTail e (.Slice none none (some (.UnaryOp .USub (.Constant (.int 1) k p1) p2)) p3) (.ref a) (.ref s4.heap.objs.size)) (EP X pins σ Q) X.xe { s4 with heap := s4.heap.push { cls := .type "slice", data := .fields #[.none, .none, .int (-1) tk] } }
  refine tail_any (ops := [.ref a, .ref s4.heap.objs.size]) plain.typeIs (PyProof.Rows.slot_tuple_getitem.lookup) ?_ (by with_unfolding_all rfl)
  refine getBack plain (Heap.IsSliceOf.new _ _ _ _) (by omega) ?_
  refine ⟨.ref _, _, I5.laid (t' := s4.toks) (o := .tup xs.reverse) (fun b ob z => Heap.get?_push_of_some _ z) (Nat.le_refl _) ?_, rfl, q _ (I5.hok.fresh (Nat.le_refl _))⟩
  exact ⟨by rw [List.length_reverse]; exact small, its.reverse, rv.reverse, IsTup.new _ _⟩
/-- a slice of a tuple: some tuple of these items -/
def rSlW : V → Option Int → Option Int → Hp → VK → Prop := fun x lo hi H Q => ∃ (a : Addr) (xs : List V), x = .ref a ∧ H a = some (.tup xs) ∧ ∀ (r : Addr) (H' : Hp), Same H H' → H' r = some (.tup (cutV xs lo hi)) → Q (.ref r) H'
theorem sl_tupW : SlR X rSlW := by
  intro pins s σ H x v vl vu lo hi sl Q I rx hs pl pu h
  obtain ⟨a, xs, rfl, hx, q⟩ := h
  refine sl_tupA pins s σ H _ v vl vu lo hi sl Q I rx hs pl pu ⟨a, xs, rfl, SqT.of hx, fun hw => ?_, fun _ p np => q p _ (same_newT np) upd_same⟩
  refine q a H (Same.refl H) ?_
  unfold cutV
  rw [hw.1, hw.2, List.drop_zero, Nat.sub_zero, List.take_length]
  exact hx
/-- a sum of tuples: some tuple of these items -/
def rCatW : R2 := fun x y H Q => ∃ (a b : Addr) (xs ys : List V), x = .ref a ∧ y = .ref b ∧ H a = some (.tup xs) ∧ H b = some (.tup ys) ∧ xs.length + ys.length ≤ sizeLine ∧ ∀ (r : Addr) (H' : Hp), Same H H' → H' r = some (.tup (xs ++ ys)) → Q (.ref r) H'
theorem op_catW : OpR X (binaryOp .Add) rCatW := by
  intro pins s σ H x y v u Q I rx ry h
  obtain ⟨a, b, xs, ys, rfl, rfl, ha, hb, small, q⟩ := h
  refine op_catA pins s σ H _ _ v u Q I rx ry ⟨a, b, xs, ys, rfl, rfl, SqT.of ha, SqT.of hb, small, fun z => ?_, fun _ z => ?_, fun _ _ p np => q p _ (same_newT np) upd_same⟩
  · subst z
    exact q b H (Same.refl H) hb
  · subst z
    refine q a H (Same.refl H) ?_
    rw [List.append_nil]
    exact ha
/-- t == () -/
theorem op_eqE (hu : X.A.units < cLine) : OpR X (compareOp .Eq) (fun x y H Q => ∃ (a b : Addr) (xs : List V), x = .ref a ∧ y = .ref b ∧ SqT X.K H a xs ∧ H b = some (.tup []) ∧ Q (.bl xs.isEmpty) H) := by
  intro pins s σ H x y v u Q I rx ry h
  obtain ⟨a, b, xs, rfl, rfl, ha, hb, q⟩ := h
  cases (show v = Value.ref a from rx)
  cases (show u = Value.ref b from ry)
  obtain ⟨its, rv, ⟨o, ho, hc, n, hd⟩, _⟩ := I.tuple ha
  obtain ⟨jts, rw', ⟨o2, ho2, hc2, n2, hd2⟩, _⟩ := I.tuple (SqT.of hb)
  cases rw'
  have e : ((List.range (min its.toArray.size ([] : List Value).toArray.size)).all (fun _ => true) && its.toArray.size == ([] : List Value).toArray.size) = xs.isEmpty := by
    have same := rv.length
    cases xs with
    | nil =>
      cases rv
      rfl
    | cons x xs =>
      cases rv with
      | cons _ _ => rfl
  refine SeqAt.eq_tupleAt (e := fun _ => true) ⟨o, ho, hc, n, hd⟩ ⟨o2, ho2, hc2, n2, hd2⟩ hu (fun j _ h2 => absurd h2 (Nat.not_lt_zero j)) ?_
  rw [e]
  exact ⟨.bl _, H, I, rfl, q⟩
/-- repr of any data -/
theorem call_reprA (hs : ∃ o, X.base.get? sysModules = some o) (hg : X.A.guards = some []) (hu : X.A.units + 200 < cLine) :
    CallR X (.builtin "repr") (fun xs H Q => ∃ (v : V) (d : PyData), xs = [v] ∧ Rp H v d ∧ d.showable = true ∧ d.depth ≤ 100 ∧ d.shown.length ≤ sizeLine ∧ Q (.str d.shown) H) := by
  intro pins s σ H xs us Q I r h
  obtain ⟨v, d, rfl, hr, h1, h2, h3, q⟩ := h
  cases hr with
  | non =>
    obtain ⟨u, rfl, r1⟩ := vals1 r
    cases (show u = Value.none from r1)
    exact PySem.P.repr_of_none ⟨.str _, H, I.tok _, ⟨_, rfl⟩, q⟩
  | bl b =>
    obtain ⟨u, rfl, r1⟩ := vals1 r
    cases (show u = Value.bool b from r1)
    exact PySem.P.repr_of_bool ⟨.str _, H, I.tok _, ⟨_, rfl⟩, q⟩
  | int i =>
    obtain ⟨u, rfl, t, rfl⟩ := vals1 r
    exact PySem.P.repr_of_int (of_decide_eq_true h1) ⟨.str _, H, I.tok _, ⟨_, rfl⟩, q⟩
  | str x =>
    obtain ⟨u, rfl, t, rfl⟩ := vals1 r
    exact PySem.P.repr_of_str ⟨.str _, H, I.tok _, ⟨_, rfl⟩, q⟩ h3
  | lst e z => exact call_repr hs hg hu pins s σ H _ us Q I r ⟨_, _, rfl, .lst e z, h1, h2, h3, q⟩
  | tup e z => exact call_repr hs hg hu pins s σ H _ us Q I r ⟨_, _, rfl, .tup e z, h1, h2, h3, q⟩
  | ftp e z => exact call_repr hs hg hu pins s σ H _ us Q I r ⟨_, _, rfl, .ftp e z, h1, h2, h3, q⟩
  | dct e z => exact call_repr hs hg hu pins s σ H _ us Q I r ⟨_, _, rfl, .dct e z, h1, h2, h3, q⟩
end
/-! ### kinds -/
def tyD : PyData → String
  | .none => "NoneType"
  | .bool _ => "bool"
  | .int _ => "int"
  | .str _ => "str"
  | .list _ => "list"
  | .tuple _ => "tuple"
  | .dict _ => "dict"
theorem Rp.ty {K : PySem.W.Frag} {H : Hp} {v : V} {d : PyData} (h : Rp H v d) : TyX K H v (.type (tyD d)) := by
  cases h with
  | non => exact .base .non
  | bl b => exact .base (.bl b)
  | int i => exact .base (.int i)
  | str x => exact .base (.str x)
  | lst e _ => exact .base (.lst e)
  | tup e _ => exact .base (.tup e)
  | ftp e _ => exact .fTuple e
  | dct e _ => exact .base (.dK e)
theorem kInt {K : PySem.W.Frag} (d : PyData) : PySem.W.kitOne K (.type (tyD d)) (.type "int") = some (match d with | .int _ => true | .bool _ => true | _ => false) := by
  cases d with
  | none => exact kit_ty (show kitB "NoneType" "int" = some false by decide +kernel)
  | bool _ => exact kit_ty (show kitB "bool" "int" = some true by decide +kernel)
  | int _ => exact kit_ty (show kitB "int" "int" = some true by decide +kernel)
  | str _ => exact kit_ty (show kitB "str" "int" = some false by decide +kernel)
  | list _ => exact kit_ty (show kitB "list" "int" = some false by decide +kernel)
  | tuple _ => exact kit_ty (show kitB "tuple" "int" = some false by decide +kernel)
  | dict _ => exact kit_ty (show kitB "dict" "int" = some false by decide +kernel)
theorem kBool {K : PySem.W.Frag} (d : PyData) : PySem.W.kitOne K (.type (tyD d)) (.type "bool") = some (match d with | .bool _ => true | _ => false) := by
  cases d with
  | none => exact kit_ty (show kitB "NoneType" "bool" = some false by decide +kernel)
  | bool _ => exact kit_ty (show kitB "bool" "bool" = some true by decide +kernel)
  | int _ => exact kit_ty (show kitB "int" "bool" = some false by decide +kernel)
  | str _ => exact kit_ty (show kitB "str" "bool" = some false by decide +kernel)
  | list _ => exact kit_ty (show kitB "list" "bool" = some false by decide +kernel)
  | tuple _ => exact kit_ty (show kitB "tuple" "bool" = some false by decide +kernel)
  | dict _ => exact kit_ty (show kitB "dict" "bool" = some false by decide +kernel)
theorem kTup {K : PySem.W.Frag} (d : PyData) : PySem.W.kitOne K (.type (tyD d)) (.type "tuple") = some (match d with | .tuple _ => true | _ => false) := by
  cases d with
  | none => exact kit_ty (show kitB "NoneType" "tuple" = some false by decide +kernel)
  | bool _ => exact kit_ty (show kitB "bool" "tuple" = some false by decide +kernel)
  | int _ => exact kit_ty (show kitB "int" "tuple" = some false by decide +kernel)
  | str _ => exact kit_ty (show kitB "str" "tuple" = some false by decide +kernel)
  | list _ => exact kit_ty (show kitB "list" "tuple" = some false by decide +kernel)
  | tuple _ => exact kit_ty (show kitB "tuple" "tuple" = some true by decide +kernel)
  | dict _ => exact kit_ty (show kitB "dict" "tuple" = some false by decide +kernel)
end Lf
namespace Lf
open PySem PySem.Spec PyProof.Rows L2
/-! ### the first error: plain mathematics -/
def isInt : PyData → Bool
  | .int _ => true
  | _ => false
def isV (n : Nat) : PyData → Bool
  | .int i => decide (0 ≤ i) && decide (i < n)
  | _ => false
def unD : PyData → Nat
  | .int i => i.toNat
  | _ => 0
def it (fs : List Nat) : Nat → Nat → Nat
  | 0, v => v
  | k + 1, v => par fs (it fs k v)
def lead (fs : List Nat) (k v : Nat) : Bool := decide (par fs (it fs k v) = it fs k v)
def bad (ds : List PyData) (k : Nat) : Bool := !isV ds.length (ds.getD k .none)
def cyc (fs : List Nat) (v : Nat) : Bool := !lead fs fs.length v
def errD : PyData → PyData
  | .tuple ds => if ds.length = 0 ∨ 24 < ds.length then .tuple [.none, .str "length"] else
      match (List.range ds.length).find? (bad ds) with
      | some k => .tuple [.int (k : Nat), .str "parent"]
      | none => match (List.range ds.length).find? (cyc (ds.map unD)) with
        | some v => .tuple [.int (v : Nat), .str "cycle"]
        | none => .none
  | _ => .tuple [.none, .str "tuple"]
theorem find_first {p : Nat → Bool} {n i : Nat} (hi : i < n) (hp : p i = true) (h : ∀ j, j < i → p j = false) : (List.range n).find? p = some i := by
  rw [List.find?_range_eq_some]
  exact ⟨hp, List.mem_range.mpr hi, fun j hj => by rw [h j hj]; rfl⟩
theorem find_none {p : Nat → Bool} {n : Nat} (h : ∀ j, j < n → p j = false) : (List.range n).find? p = none := by
  rw [List.find?_eq_none]
  intro x hx
  rw [h x (List.mem_range.mp hx)]
  exact Bool.false_ne_true
theorem filter_find {p : Nat → Bool} {n : Nat} : ((List.range n).filter p)[0]? = (List.range n).find? p := by
  rw [← List.head?_filter, List.head?_eq_getElem?]
/-- steps taken the other way round -/
theorem it_par (fs : List Nat) (v : Nat) : ∀ k, it fs k (par fs v) = it fs (k + 1) v
  | 0 => rfl
  | k + 1 => by
    show par fs (it fs k (par fs v)) = par fs (it fs (k + 1) v)
    rw [it_par fs v k]
theorem lead_succ {fs : List Nat} {k v : Nat} : lead fs (k + 1) v = (lead fs k v || lead fs k (par fs v)) := by
  unfold lead
  rw [it_par]
  by_cases h : par fs (it fs k v) = it fs k v
  · have e : it fs (k + 1) v = it fs k v := h
    rw [e, decide_eq_true h]
    rfl
  · rw [decide_eq_false h]
    rfl
theorem it_lt {fs : List Nat} (rng : ∀ v, v < fs.length → par fs v < fs.length) {v : Nat} (h : v < fs.length) : ∀ k, it fs k v < fs.length
  | 0 => h
  | k + 1 => rng _ (it_lt rng h k)
end Lf
namespace Lf
open PySem PySem.Spec PyProof.Rows L2

/-! ### own errors as values -/
/-- C(e), C's own __init__ keeping its one argument under the name f -/
def spInit (K : PySem.W.Frag) (C : Addr) (f : Str) : Sp := fun vs H Q _ => ∃ (a : Addr) (v : V), vs = [.ref a, v] ∧ H a = some (exo a C none) ∧
  ∀ dx, H dx = none → dx ≠ a → Q .non (upd (upd H dx (exd dx [(f, v)])) a (exo a C (some dx)))
/-- what the class C must say, so that isinstance asks its instances rightly, and their fields are read -/
structure ExK (K : PySem.W.Frag) (C : Addr) : Prop where
  cl : (PySem.W.clsIn K C).isSome = true
  ga : PySem.W.findIn K (.ref C) "__getattribute__" = some (some (.builtin "BaseException.__getattribute__"))
  gg : PySem.W.findIn K (.ref C) "__getattr__" = some none
  sb : PySem.W.subIn K (.ref C) (.type "BaseException") = some true
  ca : PySem.W.findIn K (.ref C) "__class__" = some (some (.builtin "object.__class__"))
  cg : PySem.W.specialIn K (.builtin "object.__class__") "__get__" = some (some (.builtin "getset_descriptor.__get__"))
  ct : PySem.W.takesIn K (.builtin "object.__class__") = some true
  cm : PySem.W.mroIn K C (.type "object") = some true
  hd : PySem.W.hasDictIn K C = true
/-- an error of the class at C stands at a -/
def IsEx (H : Hp) (a C : Addr) : Prop := H a = some (exo a C none) ∨ ∃ (d : Addr) (fs : List (Str × V)), H a = some (exo a C (some d)) ∧ H d = some (exd d fs)
theorem IsEx.mono {H H' : Hp} {a C : Addr} (k : ∀ b o, H b = some o → H' b = some o) : IsEx H a C → IsEx H' a C
  | .inl h => .inl (k _ _ h)
  | .inr ⟨d, fs, h1, h2⟩ => .inr ⟨d, fs, k _ _ h1, k _ _ h2⟩
def rIsx (K : PySem.W.Frag) : List V → Hp → VK → Prop := fun xs H Q => ∃ (a C : Addr) (c : V) (u : Value) (b : Bool), xs = [.ref a, c] ∧ IsEx H a C ∧ ClsV c u ∧ ExK K C ∧ PySem.W.kitOne K (.ref C) u = some b ∧ Q (.bl b) H
section
variable {X : Cx} {x : Str} {p pos : Pos} {e : Expr} {te : TE}
/-- C(), an own error class without own __init__ -/
theorem pe_exc0 {C : Addr} {bmB : List Value} {B newId initId : String} (FB : ExcBaseFacts B newId initId bmB) (ex : PySem.W.excIn X.K C bmB newId = true) (gC : X.mg x = some (.ref C)) (kC : PySem.W.keepIn X.K (.ref C) = true) (hg : Gl X x)
    (hdb : (x == ("__debug__" : Str)) = false := by decide) :
    PE X (.Call (.Name x p) [] [] pos) (fun σ H Q => ∀ a, H a = none → Q (.ref a) (upd H a (exo a C none))) := by
  refine ⟨fun pins s σ H Q I h => ?_⟩
  refine wpAny_Call_Name_kw (ld_glob I hg gC ?_ hdb)
  apply PySem.W.callWith_K0 I.kIn kC
  obtain ⟨bm, N, nm, qn, bs, hdct, sn, sub, ab, col, dd, k0, k1, k2, k3, k5, mN, hC, hN, hni, tail⟩ := exc_obj I.kIn ex
  show wpAny _ _ (call (.ref C) []) _ _ _
  refine wpAny_call_exc_subT FB tail hC hN hni ?_ (by show 0 ≤ sizeLine; omega)
  intro h' a made
  have new : H a = none := I.hok.gone made.new
  obtain ⟨t, there, _, _⟩ := made.there
  exact ⟨.ref a, _, I.laidN made.keeps made.new new (exo_ok there), rfl, h a new⟩
/-- C(e): the new error and its own dict -/
theorem pe_excF {C fI : Addr} {k : Nat} {fd : FuncData} {f : Str} (T : OexC X.K C) (iC : PySem.W.findIn X.K (.ref C) "__init__" = some (some (.ref fI))) (tI : PySem.W.typeIn X.K (.ref fI) = some (.type "function"))
    (F1 : FnOk X.prog X.w X.K X.mg X.base CX0 k fI fd ["self", f] (spInit X.K C f)) (room : Room (k + 1) X.A) (hb : Binds X.K fd ["self", f] []) (hg : Gl X x) (hm : X.mg x = some (.ref C)) (he : PE X e te)
    (hdb : (x == ("__debug__" : Str)) = false := by decide) (hst : starEach [e] X.env = (false, eval e X.env) :: starEach [] X.env := by rfl) :
    PE X (.Call (.Name x p) [e] [] pos) (fun σ H Q => te σ H fun v H1 => ∀ a d, H1 a = none → H1 d = none → a ≠ d → Q (.ref a) (upd (upd H1 d (exd d [(f, v)])) a (exo a C (some d)))) := by
  refine ⟨fun pins s σ H Q I h => ?_⟩
  obtain ⟨nm, q, N, bs, bm, sn, sub, ab, col, dd, k0, k1, k2, k3, k5, hC, hbm⟩ := T.cls
  refine wpAny_Call_Name_kw (ld_glob I hg hm ?_ hdb)
  refine PySem.W.callWith_K (h₀ := X.base) I.ok.mod.kin T.kC ?_ hst (by rfl)
  rw [hst]
  show wpAny _ _ (spliced ((false, eval e X.env) :: backTo pos (starEach [] X.env))) _ _ s
  refine Calls.spliced_cons (thn (he.run pins s σ H _ I h) ?_)
  rintro u s1 ⟨v, H1, I1, r1, q1⟩
  refine Calls.spliced_nil ⟨I1.kIn, ?_⟩
  show wpAny _ _ (call (.ref C) [u]) _ _ _
  obtain ⟨hp, g, dr, tk, os⟩ := s1
  let a := hp.objs.size + 1
  let hp2 := (hp.push (PySem.W.kdv_tup [u])).push (PySem.HandSPX.excO C hp.objs.size)
  have up : hp.objs.size ≤ a := Nat.le_succ _
  have na : H1 a = none := I1.hok.fresh up
  have kept : ∀ b o, hp.get? b = some o → hp2.get? b = some o := fun b o z => Heap.get?_push_of_some _ (Heap.get?_push_of_some _ z)
  have there : hp2.get? a = some (PySem.HandSPX.excO C hp.objs.size) := by
    show ((hp.push (PySem.W.kdv_tup [u])).push (PySem.HandSPX.excO C hp.objs.size)).get? (hp.objs.size + 1) = _
    heap_get
  have I2 : Inv X pins σ (upd H1 a (exo a C none)) ⟨hp2, g, dr, tk, os⟩ := I1.laid (t' := tk) kept up (exo_ok there)
  have want : spInit X.K C f [.ref a, v] (upd H1 a (exo a C none)) (fun y H2 => y = .non ∧ ∃ d, H1 d = none ∧ a ≠ d ∧ H2 = upd (upd H1 d (exd d [(f, v)])) a (exo a C (some d))) (fun _ _ _ => False) := by
    refine ⟨a, v, rfl, upd_same, fun d hd hda => ⟨rfl, d, ?_, fun z => hda z.symm, ?_⟩⟩
    · rw [upd_ne hda] at hd
      exact hd
    · funext b
      by_cases h1 : b = a
      · rw [h1, upd_same, upd_same]
      · rw [upd_ne h1, upd_ne h1]
        by_cases h2 : b = d
        · rw [h2, upd_same, upd_same]
        · rw [upd_ne h2, upd_ne h2, upd_ne h1]
  have pairs : Vals [V.ref a, v] [Value.ref a, u] := .cons rfl (.cons r1 .nil)
  refine wpAny_call (PySem.HandSPX.call_own F.excBase_ValueError (fun Y => PySem.HandSPX.refsVE_contains Y bm hbm) (I1.kIn _ _ hC) (PySem.W.looks_findIn I1.kIn iC) (fun self => PySem.W.bind_fn I1.kIn self tI) (by show 1 ≤ sizeLine; rw [sizeLine_eq]; omega) ?_)
  have run := F1.run _ X.stack _ _ ⟨[Value.ref a, u], []⟩ [Value.ref a, u] _ _ (fun _ _ _ => False) (room.make C [u] []) (I2.env0.make C [u] []) (hb _ [Value.ref a, u] I2.kIn rfl) pairs want
  refine codeAny_mono run ?_
  intro r s' got
  cases r with
  | error er => exact False.elim got
  | ok fl =>
    cases fl with
    | next => exact False.elim got
    | brk => exact False.elim got
    | cont => exact False.elim got
    | ret y =>
      obtain ⟨yv, H2, hos, bare, un, held, ry, rfl, d, hd, had, rfl⟩ := got
      have U : Un (frs X.stack) [] H1 (upd (upd H1 d (exd d [(f, v)])) a (exo a C (some d))) hp s'.heap := (Un.laid kept up na).trans un
      refine ⟨ry, ⟨.ref a, _, I1.call' (ch := []) hos U held bare (fun b z => nomatch z), rfl, q1 a d na hd had⟩⟩
/-- isinstance(e, c), e an own error -/
theorem call_isx : CallR X (.builtin "isinstance") (rIsx X.K) := by
  intro pins s σ H xs us Q I r h
  obtain ⟨a, C, c, u, b, rfl, hx, hc, T, ek, q⟩ := h
  obtain ⟨u1, u2, rfl, r1, r2⟩ := vals2 r
  cases (show u1 = Value.ref a from r1)
  have e2 := hc.eq r2
  subst e2
  rcases hx with hx | ⟨d, fs, hx, hd⟩
  · obtain ⟨t1, ho⟩ := exo_at I.hok hx
    exact PySem.W.kia_one (PySem.W.kitx_exc (ox := { cls := .ref C, dict := none, data := .fields #[.ref t1, .none, .none, .none, .bool false, .none] }) (od := none) T.cl T.ga T.gg T.sb T.ca T.cg T.ct T.cm) I.kIn ⟨ho, rfl, rfl, trivial⟩ ek (fun z => nomatch z)
      fun tk => ⟨.bl b, H, I.tok tk, rfl, q⟩
  · obtain ⟨t1, ho⟩ := exo_at I.hok hx
    obtain ⟨mA, ⟨od, es, ep, hod, _⟩, _⟩ := exd_at I.hok hd
    exact PySem.W.kia_one (PySem.W.kitx_exc (ox := { cls := .ref C, dict := some d, data := .fields #[.ref t1, .none, .none, .none, .bool false, .none] }) (od := some od) T.cl T.ga T.gg T.sb T.ca T.cg T.ct T.cm) I.kIn ⟨ho, rfl, rfl, hod⟩ ek (fun z => nomatch z)
      fun tk => ⟨.bl b, H, I.tok tk, rfl, q⟩
/-- e.f, e an own error -/
theorem pe_exf {C : Addr} {f : Str} (T : ExK X.K C) (hno : PySem.W.findIn X.K (.ref C) f = some none) (he : PE X e te) (hb : attributeBase e f X.env (eval e X.env) = eval e X.env := by rfl) :
    PE X (.Attribute e f pos) (fun σ H Q => te σ H fun y H1 => ∃ (a d : Addr) (v : V), y = .ref a ∧ H1 a = some (exo a C (some d)) ∧ H1 d = some (exd d [(f, v)]) ∧ Q v H1) := by
  refine ⟨fun pins s σ H Q I h => ?_⟩
  refine attr_of hb (thn (he.run pins s σ H _ I h) ?_)
  rintro u s1 ⟨y, H1, I1, ry, a, d, v, rfl, ha, hd, q⟩
  cases (show u = Value.ref a from ry)
  obtain ⟨t1, ho⟩ := exo_at I1.hok ha
  obtain ⟨mA, hns, rel⟩ := exd_at I1.hok hd
  obtain ⟨od, hod, hl⟩ := lookIn_ns hns
  have lk : List.lookup f [(f, v)] = some v := by simp [List.lookup]
  obtain ⟨w, hw, rw'⟩ := RelO.some_of (v := v) (o := mA f) (by rw [← lk]; exact rel f)
  have J : PySem.W.InstAt s1.heap a { cls := .ref C, dict := some d, data := .fields #[.ref t1, .none, .none, .none, .bool false, .none] } C (some od) := ⟨ho, rfl, rfl, hod⟩
  exact HandSPX.exc_get I1.kIn J T.ga T.gg T.sb (PySem.W.findObj_own T.hd hno rfl (by rw [hl, hw])) (handed_of rw') ⟨v, H1, I1.tok _, rw', q⟩
end
/-- def __init__(self, f): self.f = f -/
theorem ok_init {P : Program} {w : World} {K : PySem.W.Frag} {mg : Str → Option Value} {base : Heap} {C fI : Addr} {fd : FuncData} {f qual : Str} {st : Stmt} (Fn : Fun K "__init__" qual st fI fd) (Sc : FnScope ["self", f] ["self", f] (defScope st)) (T : OexC K C) (hno : PySem.W.findIn K (.ref C) f = some none)
    (body : ∃ q1 q2 q3 q4, defBody st = [.Assign [.Attribute (.Name "self" q1) f q2] (.Name f q3) q4]) (v0 : Vis (defScope st) "self") (v1 : Vis (defScope st) f) (d1 : (f == Str.ofString "__debug__") = false) (d2 : (f == Str.ofString "__classdict__") = false) :
    FnOk P w K mg base CX0 1 fI fd ["self", f] (spInit K C f) := by
  refine Fn.ok Sc (fun vs H Q E h => ?_) (fun cdv A outer s H vs Q E hr h => ?_)
  · obtain ⟨a, v, rfl, _⟩ := h
    rfl
  · obtain ⟨a, v, rfl, ha, q⟩ := h
    obtain ⟨q1, q2, q3, q4, eb⟩ := body
    rw [eb]
    refine ⟨_, pss_one (ps_ost (pe_var (i := 0) rfl v0) (pe_var (i := 1) rfl v1 (hd := d1) (hcd := d2))), ?_⟩
    exact ⟨v, rfl, .ref a, rfl, a, C, rfl, T, hno, .inl ⟨ha, fun dx hd hne => q dx hd hne⟩⟩
end Lf
namespace Lf
open PySem PySem.Spec PyProof.Rows L2
/-! ### own errors with one field, raised and caught -/
section
variable {X : Cx}
theorem inst_caught {a D dd : Addr} {oe : Obj} {pn pins : List (Addr × Obj)} {σ : L2.St} {H : Hp} {s : Shared} {fs : List (Str × V)} (I : Inv (X.suite a ((a, oe) :: pn)) pins σ H s) (hz : Zc (.ref D) (some dd) oe) (hf : ∃ vs, oe.data = .fields vs) (hd : H dd = some (.xd fs)) :
    ∃ od, PySem.W.InstAt s.heap a oe D (some od) := by
  obtain ⟨ha, _⟩ := I.pin (a, oe) (List.mem_append_left _ List.mem_cons_self)
  obtain ⟨vs, hv⟩ := hf
  have hx : ObjOk X.prog X.w H s.heap dd (.xd fs) := I.hok dd _ hd
  obtain ⟨mA, hns, hr⟩ := hx
  obtain ⟨od, ho, hl⟩ := lookIn_ns hns
  exact ⟨od, ha, hz.1, by unfold PySem.W.notCls; rw [hv] <;> rfl, by rw [hz.2]; exact ho⟩
/-- isinstance(e, c), e the error that the suite holds, with its dict -/
def rIsD (K : PySem.W.Frag) (D a : Addr) (cls : Value) (d : Option Addr) : List V → Hp → VK → Prop := fun xs H Q => ∃ (c : V) (cv : Value) (b : Bool) (dd : Addr) (fs : List (Str × V)), xs = [.ref a, c] ∧ cls = .ref D ∧ d = some dd ∧ H dd = some (.xd fs) ∧ ClsV c cv ∧ PySem.W.kitOne K (.ref D) cv = some b ∧ Q (.bl b) H
theorem call_isD {a D : Addr} {cls : Value} {d : Option Addr} {oe : Obj} {pn : List (Addr × Obj)} (T : ExK X.K D) (hz : Zc cls d oe) (hf : ∃ vs, oe.data = .fields vs) : CallR (X.suite a ((a, oe) :: pn)) (.builtin "isinstance") (rIsD X.K D a cls d) := by
  intro pins s σ H xs us Q I r h
  obtain ⟨c, cv, b, dd, fs, rfl, rfl, rfl, hd, hc, ek, q⟩ := h
  obtain ⟨u1, u2, rfl, r1, r2⟩ := vals2 r
  cases (show u1 = Value.ref a from r1)
  have e2 := hc.eq r2
  subst e2
  obtain ⟨od, J⟩ := inst_caught I hz hf hd
  exact PySem.W.kia_one (PySem.W.kitx_exc T.cl T.ga T.gg T.sb T.ca T.cg T.ct T.cm) I.kIn J ek (fun z => nomatch z) fun tk => ⟨.bl b, H, I.kept (t' := tk) fun _ _ z => z, rfl, q⟩
/-- isinstance(e, (c1, c2, ..)) -/
def rIsDT (K : PySem.W.Frag) (D a : Addr) (cls : Value) (d : Option Addr) : List V → Hp → VK → Prop := fun xs H Q => ∃ (t : Addr) (cs : List V) (b : Bool) (dd : Addr) (fs : List (Str × V)), xs = [.ref a, .ref t] ∧ cls = .ref D ∧ d = some dd ∧ H dd = some (.xd fs) ∧ H t = some (.tup cs) ∧ (∀ its, Vals cs its → PySem.W.kitAny K (.ref D) its = some b) ∧ Q (.bl b) H
theorem call_isDT {a D : Addr} {cls : Value} {d : Option Addr} {oe : Obj} {pn : List (Addr × Obj)} (T : ExK X.K D) (hz : Zc cls d oe) (hf : ∃ vs, oe.data = .fields vs) : CallR (X.suite a ((a, oe) :: pn)) (.builtin "isinstance") (rIsDT X.K D a cls d) := by
  intro pins s σ H xs us Q I r h
  obtain ⟨t, cs, b, dd, fs, rfl, rfl, rfl, hd, ht, ek, q⟩ := h
  obtain ⟨u1, u2, rfl, r1, r2⟩ := vals2 r
  cases (show u1 = Value.ref a from r1)
  cases (show u2 = Value.ref t from r2)
  obtain ⟨od, J⟩ := inst_caught I hz hf hd
  obtain ⟨its, rv, ⟨⟨oc, odd, oda, osl⟩, ho, hc, n, hd'⟩, _⟩ := I.tuple (SqT.of ht)
  dsimp only at hc hd'
  subst hc hd'
  exact PySem.W.kia_tup (PySem.W.kitx_exc T.cl T.ga T.gg T.sb T.ca T.cg T.ct T.cm) I.kIn J ho (ek its rv) (fun z => nomatch z) fun tk => ⟨.bl b, H, I.kept (t' := tk) fun _ _ z => z, rfl, q⟩
/-- what raise C(v) leaves: some heap that keeps all, with the error's dict -/
theorem made_out {H H1 : Hp} {C : Addr} {f : Str} {v : V} {Q : XK} (sm : Same H H1) (q : ∀ (d : Addr) (H' : Hp), Same H H' → H d = none → H' d = some (.xd [(f, v)]) → Q (.ref C) (some d) H') (a : Addr) (na : H1 a = none) (d : Addr) (nd : (upd H1 a (exo a C none)) d = none) (ne : d ≠ a) :
    ∃ (d' : Addr) (fs : List (Str × V)), (upd (upd (upd H1 a (exo a C none)) d (exd d [(f, v)])) a (exo a C (some d))) a = some (exo a C (some d')) ∧ (upd (upd (upd H1 a (exo a C none)) d (exd d [(f, v)])) a (exo a C (some d))) d' = some (exd d' fs) ∧ H1 d' = none ∧
      Q (.ref C) (some d') (upd (del (upd (upd (upd H1 a (exo a C none)) d (exd d [(f, v)])) a (exo a C (some d))) a) d' (.xd fs)) := by
  have nd1 : H1 d = none := by
    rw [upd_ne ne] at nd
    exact nd
  refine ⟨d, [(f, v)], upd_same, by rw [upd_ne ne, upd_same], nd1, q d _ (fun b o e => ?_) (sm.free nd1) upd_same⟩
  have e1 := sm _ _ e
  have b1 : b ≠ a := ne_of_none e1 na
  have b2 : b ≠ d := ne_of_none e1 nd1
  rw [upd_ne b2, del_ne b1, upd_ne b1, upd_ne b2, upd_ne b1]
  exact e1
end
end Lf
namespace Lf
open PySem PySem.Spec PyProof.Rows L2
theorem flatNv : ∀ l : List Nat, (nv l).all flatV = true
  | [] => rfl
  | _ :: l => flatNv l
section
variable {X : Cx}
/-- xs[i] read ahead of xs[i] += e, i a place of the list -/
theorem get_listN : PGet X (fun x y H Q => ∃ (p : Addr) (xs : List V) (i : Nat) (v : V), x = .ref p ∧ y = .int (i : Nat) ∧ SqL X.K H p xs ∧ xs[i]? = some v ∧ Q v H) := by
  intro pins s σ H o i ov iv Q I ro ri h
  obtain ⟨p, xs, k, v, rfl, rfl, hq, hv, q⟩ := h
  cases (show ov = Value.ref p from ro)
  obtain ⟨t, rfl⟩ := ri
  obtain ⟨its, rv, plain, small⟩ := I.list hq
  obtain ⟨u, hu, ru⟩ := rv.get hv
  have same := rv.length
  have kl : k < its.length := by
    rcases Nat.lt_or_ge k its.length with z | z
    · exact z
    · rw [List.getElem?_eq_none z] at hu
      cases hu
  rw [sizeLine_eq] at small
  exact wpAny_getItem_list plain.isList (by omega) (by omega) (by simpa using hu) ⟨v, H, I, ru, q⟩
/-- t.index(x), a number's first place -/
theorem mt_tup_indexN : MtR X "tuple.index" (fun x xs H Q => ∃ (p : Addr) (ys : List Nat) (z j : Nat), x = .ref p ∧ xs = [.int (z : Nat)] ∧ SqT X.K H p (nv ys) ∧ ys[j]? = some z ∧ (∀ m, m < j → ys[m]? ≠ some z) ∧ Q (.int (j : Nat)) H) := by
  intro pins s σ H x xs v us Q I rx rs h
  obtain ⟨p, ys, z, j, rfl, rfl, hq, hy, hno, q⟩ := h
  cases (show v = Value.ref p from rx)
  obtain ⟨u, rfl, t, rfl⟩ := vals1 rs
  obtain ⟨its, rv, plain, small⟩ := I.tuple hq
  obtain ⟨⟨cls, dd, dt, sl⟩, ho, hc, n, hd⟩ := plain
  simp only at hc hd
  subst hc hd
  have size : its.toArray.size = ys.length := by rw [List.size_toArray, ← rv.length, nv_length]
  have hj : j < its.toArray.size := by
    rw [size]
    exact (List.getElem?_eq_some_iff.mp hy).1
  have place : ∀ (m : Nat) (hm : m < its.toArray.size), ∃ (y : Nat) (t' : Tok), ys[m]? = some y ∧ its.toArray[m] = Value.int (y : Nat) t' := by
    intro m hm
    have hm' : m < ys.length := by
      rw [← size]
      exact hm
    obtain ⟨w, hw, t', hw'⟩ := rv.get (i := m) (x := .int ((ys.getD m 0 : Nat) : Int)) (nv_get hm')
    refine ⟨ys.getD m 0, t', ?_, ?_⟩
    · rw [List.getD_eq_getElem?_getD, List.getElem?_eq_getElem hm']
      rfl
    · have e := (List.getElem?_eq_some_iff.mp hw).2
      rw [← hw', ← e]
      simp
  refine call_meets PySem.F.slot_tuple_index ⟨_, ho, rfl⟩ PySem.F.entry_tuple_index (PySem.F.args_tuple_index_2 _ _) (TI.tuple_indexAt p its.toArray n dd sl (.int (z : Nat) t) (eqU (.int (z : Nat))) j hj ?_ ?_)
    ⟨ho, fun w hw => mem_eqAt (x := .int (z : Nat)) ⟨t, rfl⟩ rfl rv (flatNv ys) w (by simpa using hw), ⟨.int (j : Nat), H, I.tok _, ⟨_, rfl⟩, q⟩⟩
  · obtain ⟨y, t', h1, h2⟩ := place j hj
    rw [hy] at h1
    cases h1
    rw [h2]
    show (((z : Nat) : Int) == ((z : Nat) : Int)) = true
    exact beq_self_eq_true _
  · intro m hm hmj
    obtain ⟨y, t', h1, h2⟩ := place m hm
    rw [h2]
    show (((y : Nat) : Int) == ((z : Nat) : Int)) = false
    refine beq_eq_false_iff_ne.mpr fun e => hno m hmj ?_
    rw [h1]
    have : y = z := by omega
    rw [this]
/-- tuple(a list), the new tuple known to the object -/
theorem call_tupleF : CallR X (.type "tuple") (fun xs H Q => ∃ (p : Addr) (ys : List V), xs = [.ref p] ∧ SqL X.K H p ys ∧ ∀ (l : Addr) (o : Obj), H l = none → o.cls = .type "tuple" → o.dict = none → Q (.ref l) (upd H l (.frz o (.tup ys)))) := by
  intro pins s σ H xs us Q I r h
  obtain ⟨p, ys, rfl, hq, q⟩ := h
  obtain ⟨u, rfl, rx⟩ := vals1 r
  cases (show u = Value.ref p from rx)
  obtain ⟨its, rv, plain, small⟩ := I.list hq
  have same := rv.length
  refine call_tuple_list plain.isList ?_ (by simp only [List.size_toArray] <;> omega)
  intro h1 kept
  have I1 : Inv X pins σ H { s with heap := h1 } := I.kept (t' := s.toks) kept
  have at1 : (h1.push { cls := .type "tuple", data := .seq its.toArray }).get? h1.objs.size = some { cls := .type "tuple", data := .seq its.toArray } := Heap.get?_push_size _ rfl
  refine ⟨.ref h1.objs.size, _, I1.laid (t' := s.toks) (o := .frz { cls := .type "tuple", data := .seq its.toArray } (.tup ys)) (fun b o z => Heap.get?_push_of_some _ z) (Nat.le_refl _) ?_, rfl, q _ _ (I1.hok.fresh (Nat.le_refl _)) rfl rfl⟩
  exact ⟨at1, small, its, rv, IsTup.new _ _⟩
/-- the call of a method of such a tuple -/
def tTM (r : V → List V → Hp → VK → Prop) (to : TE) (t : TA) : TE := fun σ H Q => to σ H fun x H1 => (∃ (p : Addr) (o : Obj) (xs : List V), x = .ref p ∧ H1 p = some (.frz o (.tup xs)) ∧ o.cls = .type "tuple" ∧ o.dict = none) ∧ t σ H1 fun ys H2 => r x ys H2 Q
theorem pe_tm {o e : Expr} {to : TE} {t : TA} {name : Str} {apos cpos : Pos} {id : String} {r : V → List V → Hp → VK → Prop} (pa : PlainAttrs "tuple") (slot : Slot "tuple" name id) (hty : typeOf (.builtin id) = pure (.type "method_descriptor")) (hm : MtR X id r) (ho : PE X o to) (ha : PA X [e] t)
    (hbase : attributeBase o name X.env (eval o X.env) = eval o X.env := by rfl)
    (hfew : ((backTo cpos (starEach [e] X.env)).all (fun x => !x.1) && (backToKw cpos (keywordEach [] X.env)).all (fun x => x.1.isSome) && decide ([e].length + ([] : List Keyword).length + (if ([] : List Keyword).isEmpty then 0 else 1) < 30)) = true := by rfl)
    (hline : (apos.endLine == cpos.line) = true := by rfl) (hs : starEach [e] X.env = (false, eval e X.env) :: starEach [] X.env := by rfl) :
    PE X (.Call (.Attribute o name apos) [e] [] cpos) (tTM r to t) := by
  refine ⟨fun pins s σ H Q I h => ?_⟩
  refine wpAny_Call_method_late hbase hfew hline rfl (thn (ho.run pins s σ H _ I h) ?_)
  rintro v s1 ⟨x, H1, I1, r1, ⟨p, ob, xs, rfl, hp, hc, hd⟩, q1⟩
  cases (show v = Value.ref p from r1)
  have at1 : s1.heap.get? p = some ob := (I1.hok p _ hp).1
  refine ⟨"tuple", id, pa, slot, hty, ⟨ob, at1, hc⟩, ?_, ?_⟩
  · intro b z
    cases z
    exact ⟨ob, at1, hd⟩
  · have args := ha.run cpos pins s1 σ H1 _ I1 q1
    rw [hs] at args ⊢
    refine Calls.callWith_builtin (by rfl) (Calls.evalArgs_plain (thn args ?_))
    rintro us s2 ⟨vs, H2, I2, r2, q2⟩
    exact hm pins s2 σ H2 (.ref p) vs (.ref p) us Q I2 rfl r2 q2
end
end Lf
namespace Lf
open PySem PySem.Spec PyProof.Rows L2
/-! ### the drawing well: a list of great numbers at l and a state below 2 ^ 64, both in the list at w -/
def Well (w l : Addr) (H : Hp) : Prop := w ≠ l ∧ ∃ (xs : List Int) (st : Int), H w = some (.lst [.ref l, .int st]) ∧ H l = some (.lst (xs.map V.int)) ∧ xs.length ≤ 63 ∧ 0 ≤ st ∧ st < 18446744073709551616
def Keep (w l : Addr) (H H' : Hp) : Prop := ∀ b o, b ≠ w → b ≠ l → H b = some o → H' b = some o
theorem Keep.refl {w l : Addr} {H : Hp} : Keep w l H H := fun _ _ _ _ h => h
theorem Keep.trans {w l : Addr} {H H1 H2 : Hp} (a : Keep w l H H1) (b : Keep w l H1 H2) : Keep w l H H2 := fun c o h1 h2 h => b c o h1 h2 (a c o h1 h2 h)
theorem Keep.of {w l : Addr} {H H1 : Hp} (a : Same H H1) : Keep w l H H1 := fun c o _ _ h => a c o h
theorem same_new {H : Hp} {p : Addr} {o : HO} (h : H p = none) : Same H (upd H p o) := fun b u e => by
  rw [upd_ne (ne_of_none e h)]
  exact e
theorem Well.same {w l : Addr} {H H' : Hp} (a : Well w l H) (s : Same H H') : Well w l H' := by
  obtain ⟨n, xs, st, h1, h2, h3⟩ := a
  exact ⟨n, xs, st, s _ _ h1, s _ _ h2, h3⟩

theorem dpInts {K : PySem.W.Frag} {H : Hp} : ∀ xs : List Int, DpAll K H (xs.map V.int) (xs.map PyData.int)
  | [] => .nil
  | x :: xs => .cons (.int x) (dpInts xs)
theorem layInts : ∀ xs : List Int, PyData.canLayAll0 (xs.map PyData.int) = true
  | [] => rfl
  | x :: xs => by
    show (PyData.canLay0 (.int x) && PyData.canLayAll0 (xs.map PyData.int)) = true
    rw [layInts xs]
    rfl
theorem deepInts : ∀ xs : List Int, PyData.depthAll (xs.map PyData.int) = 0
  | [] => rfl
  | x :: xs => by
    show max (PyData.depth (.int x)) (PyData.depthAll (xs.map PyData.int)) = 0
    rw [deepInts xs]
    rfl
theorem shInts (xs : List Int) : SeqAt.shaped (.list (xs.map PyData.int)) = true := by
  show (PyData.canLayAll0 (xs.map PyData.int) && decide (PyData.depthAll (xs.map PyData.int) + 1 ≤ 64)) = true
  rw [layInts, deepInts]
  rfl
theorem get_last {α : Type} (ys : List α) (y : α) : (ys ++ [y])[(ys ++ [y]).length - 1]? = some y := by
  rw [List.length_append]
  show (ys ++ [y])[ys.length]? = some y
  simp

theorem nil_or_snoc {α : Type} (xs : List α) : xs = [] ∨ ∃ ys y, xs = ys ++ [y] := by
  rcases List.eq_nil_or_concat xs with h | ⟨ys, y, h⟩
  · exact .inl h
  · exact .inr ⟨ys, y, by rw [h, List.concat_eq_append]⟩

def spWell (K : PySem.W.Frag) : Sp := fun vs H Q _ => ∃ (a : Addr) (ns : List Int), vs = [.ref a] ∧ SqL K H a (ns.map V.int) ∧ ns.length ≤ 63 ∧
  ∀ H' w l, Same H H' → Well w l H' → H w = none → H l = none → Q (.ref w) H'
def spPull : Sp := fun vs H Q _ => ∃ (w l : Addr) (many : Int), vs = [.ref w, .int many] ∧ Well w l H ∧ 0 < many ∧ many < 1073741824 ∧
  ∀ r H', 0 ≤ r → r < many → Well w l H' → Keep w l H H' → Q (.int r) H'
def spItem : Sp := fun vs H Q _ => ∃ (w l p : Addr) (xs : List V), vs = [.ref w, .ref p] ∧ Well w l H ∧ H p = some (.lst xs) ∧ p ≠ w ∧ p ≠ l ∧ xs ≠ [] ∧ xs.length < 1073741824 ∧
  ∀ v H', v ∈ xs → Well w l H' → Keep w l H H' → Q v H'

end Lf
namespace Lf
open PySem PySem.Spec PyProof.Rows L2
/-! ### walking a tuple, a list, a range, whatever the body does -/
theorem it_tup {K : PySem.W.Frag} {a : Addr} {xs : List V} {H0 : Hp} {Qd : Hp → Prop} {body : V → Hp → (Hp → Prop) → Prop} (Pv : Nat → Hp → Prop) (h0 : Pv 0 H0) (hl : ∀ i H, i ≤ xs.length → Pv i H → SqT K H a xs)
    (hs : ∀ i x H, xs[i]? = some x → Pv i H → body x H (Pv (i + 1))) (hd : ∀ H, Pv xs.length H → Qd H) :
    ∃ W : Nat → Nat → Hp → Prop, (∃ m, W 0 m H0) ∧ ∀ i m H, W i m H →
      ((Itt K a).stop i H ∧ Qd H) ∨ ((Itt K a).go i H ∧ ∃ Nx : Hp → Prop, (∀ H', Nx H' → ∃ m', m' < m ∧ W (i + 1) m' H') ∧ ∀ x H', (Itt K a).yld i H x H' → body x H' Nx) := by
  refine ⟨fun i m H => m = xs.length - i ∧ i ≤ xs.length ∧ Pv i H, ⟨xs.length, by simp, Nat.zero_le _, h0⟩, ?_⟩
  rintro i m H ⟨rfl, hi, p⟩
  have q := hl i H hi p
  by_cases hlt : i < xs.length
  · refine .inr ⟨⟨xs, xs[i], q, by simp [hlt]⟩, Pv (i + 1), fun H' p' => ⟨xs.length - (i + 1), by omega, rfl, hlt, p'⟩, fun x H' y => ?_⟩
    obtain ⟨e, y⟩ := y
    subst e
    exact hs i x _ (y xs q) p
  · have e : i = xs.length := by omega
    exact .inl ⟨⟨xs, q, by omega⟩, hd H (e ▸ p)⟩
theorem it_list {K : PySem.W.Frag} {a : Addr} {xs : List V} {H0 : Hp} {Qd : Hp → Prop} {body : V → Hp → (Hp → Prop) → Prop} (Pv : Nat → Hp → Prop) (h0 : Pv 0 H0) (hl : ∀ i H, i ≤ xs.length → Pv i H → SqL K H a xs)
    (hs : ∀ i x H, xs[i]? = some x → Pv i H → body x H (Pv (i + 1))) (hd : ∀ H, Pv xs.length H → Qd H) :
    ∃ W : Nat → Nat → Hp → Prop, (∃ m, W 0 m H0) ∧ ∀ i m H, W i m H →
      ((Itl K a).stop i H ∧ Qd H) ∨ ((Itl K a).go i H ∧ ∃ Nx : Hp → Prop, (∀ H', Nx H' → ∃ m', m' < m ∧ W (i + 1) m' H') ∧ ∀ x H', (Itl K a).yld i H x H' → body x H' Nx) := by
  refine ⟨fun i m H => m = xs.length - i ∧ i ≤ xs.length ∧ Pv i H, ⟨xs.length, by simp, Nat.zero_le _, h0⟩, ?_⟩
  rintro i m H ⟨rfl, hi, p⟩
  have q := hl i H hi p
  by_cases hlt : i < xs.length
  · refine .inr ⟨⟨xs, xs[i], q, by simp [hlt]⟩, Pv (i + 1), fun H' p' => ⟨xs.length - (i + 1), by omega, rfl, hlt, p'⟩, fun x H' y => ?_⟩
    obtain ⟨e, y⟩ := y
    subst e
    exact hs i x _ (y xs q) p
  · have e : i = xs.length := by omega
    exact .inl ⟨⟨xs, q, by omega⟩, hd H (e ▸ p)⟩
/-! ### defs by name -/
/-- the def st stands under its name, with these parameters -/
def Mk (K : PySem.W.Frag) (mg : Str → Option Value) (x : Str) (st : Stmt) (ps : List Str) : Prop := ∃ (f : Addr) (fd : FuncData), Fun K x x st f fd ∧ Binds K fd ps [] ∧ mg x = some (.ref f)
/-- .. and keeps its promise, at level k -/
def Df (P : Program) (w : World) (K : PySem.W.Frag) (mg : Str → Option Value) (base : Heap) (CX : CXT) (k : Nat) (x : Str) (ps : List Str) (sp : Sp) : Prop :=
  ∃ (f : Addr) (fd : FuncData), FnOk P w K mg base CX k f fd ps sp ∧ Binds K fd ps [] ∧ mg x = some (.ref f) ∧ PySem.W.keepIn K (.ref f) = true
/-- the same for a caller whose repr guard is empty -/
def DfG (P : Program) (w : World) (K : PySem.W.Frag) (mg : Str → Option Value) (base : Heap) (k : Nat) (x : Str) (ps : List Str) (sp : Sp) : Prop :=
  ∃ (f : Addr) (fd : FuncData), RunG P w K mg base k f fd ps sp ∧ Binds K fd ps [] ∧ mg x = some (.ref f) ∧ PySem.W.keepIn K (.ref f) = true ∧ ∀ vs H Q E, sp vs H Q E → vs.length = ps.length
theorem Df.of {P : Program} {w : World} {K : PySem.W.Frag} {mg : Str → Option Value} {base : Heap} {CX : CXT} {k : Nat} {x : Str} {ps : List Str} {sp : Sp} {st : Stmt} {f : Addr} {fd : FuncData} (F : Fun K x x st f fd) (b : Binds K fd ps []) (g : mg x = some (.ref f)) (G : FnOk P w K mg base CX k f fd ps sp) : Df P w K mg base CX k x ps sp := ⟨f, fd, G, b, g, F.kp⟩
section
variable {X : Cx} {k : Nat} {ps : List Str} {sp : Sp} {x : Str} {p pos : Pos} {e : Expr} {es : List Expr} {t : TA} {j : Nat} {CX : CXT} {E : XK}
/-- x(e, ..), x lets nothing out -/
theorem pe_dD (D : Df X.prog X.w X.K X.mg X.base CX k x ps sp) (hx : Passes CX X E) (hr : Room j X.A) (ha : PA X (e :: es) t) (hj : k ≤ j := by decide) (hg : Gl X x := by rfl)
    (hdb : (x == ("__debug__" : Str)) = false := by decide) (he : starEach (e :: es) X.env = (false, eval e X.env) :: starEach es X.env := by rfl) (hpl : (backTo pos (starEach es X.env)).any (·.1) = false := by rfl) :
    PE X (.Call (.Name x p) (e :: es) [] pos) (tCall sp [] E t) := by
  obtain ⟨f, fd, G, b, g, kp⟩ := D
  exact pe_call G (hr.mono hj) hg g kp b .nil hx ha hdb he hpl
theorem pe_d (D : Df X.prog X.w X.K X.mg X.base CX0 k x ps sp) (hr : Room j X.A) (ha : PA X (e :: es) t) (hj : k ≤ j := by decide) (hg : Gl X x := by rfl)
    (hdb : (x == ("__debug__" : Str)) = false := by decide) (he : starEach (e :: es) X.env = (false, eval e X.env) :: starEach es X.env := by rfl) (hpl : (backTo pos (starEach es X.env)).any (·.1) = false := by rfl) :
    PE X (.Call (.Name x p) (e :: es) [] pos) (tCall sp [] E0 t) := pe_dD D pass0 hr ha hj hg hdb he hpl
/-- x(e, ..), x may raise: the error goes on -/
theorem pe_dS {E : L2.St → XK} (D : Df X.prog X.w X.K X.mg X.base CX k x ps sp) (hr : Room j X.A) (hx : ∀ σ, PassesAt CX X σ (E σ)) (ha : PA X (e :: es) t) (hj : k ≤ j := by decide) (hg : Gl X x := by rfl)
    (hdb : (x == ("__debug__" : Str)) = false := by decide) (he : starEach (e :: es) X.env = (false, eval e X.env) :: starEach es X.env := by rfl) (hpl : (backTo pos (starEach es X.env)).any (·.1) = false := by rfl) :
    PE X (.Call (.Name x p) (e :: es) [] pos) (tCallS sp E t) := by
  obtain ⟨f, fd, G, b, g, kp⟩ := D
  exact pe_callS G (hr.mono hj) hg g kp b hx ha hdb he hpl
/-- x(e, ..), x shows data -/
theorem pe_dG (D : DfG X.prog X.w X.K X.mg X.base k x ps sp) (hgu : X.A.guards = some []) (hr : Room j X.A) (ha : PA X (e :: es) t) (hj : k ≤ j := by decide) (hg : Gl X x := by rfl)
    (hdb : (x == ("__debug__" : Str)) = false := by decide) (he : starEach (e :: es) X.env = (false, eval e X.env) :: starEach es X.env := by rfl) (hpl : (backTo pos (starEach es X.env)).any (·.1) = false := by rfl) :
    PE X (.Call (.Name x p) (e :: es) [] pos) (tCall sp [] E0 t) := by
  obtain ⟨f, fd, G, b, g, kp, len⟩ := D
  refine ⟨fun pins s σ H Q I h => ?_⟩
  refine wpAny_Call_Name_kw (ld_glob I hg g ?_ hdb)
  refine PySem.W.callWith_K (h₀ := X.base) I.ok.mod.kin kp (thn (ha.run pos pins s σ H _ I h) fun us s1 ⟨vs, H1, I1, r, q⟩ => ⟨I1.kIn, ?_⟩) he hpl
  have r2 : Vals (vs ++ []) (us ++ []) := r.append .nil
  have hl : (us ++ []).length = ps.length := by rw [← r2.length]; exact len _ _ _ _ q
  refine wpAny_call (codeAny_mono (G X.A X.stack s1 H1 ⟨us, []⟩ (us ++ []) (vs ++ []) Q E0 hgu (hr.mono hj) I1.env0 (b s1 us I1.kIn hl) r2 q) fun r s' hq => ?_)
  cases r with
  | error e => exact hq.elim
  | ok fl =>
    cases fl with
    | ret u => exact I1.after hq
    | next => exact False.elim hq
    | brk => exact False.elim hq
    | cont => exact False.elim hq
end
/-! ### an own error class with one field -/
structure ErrF (P : Program) (w : World) (K : PySem.W.Frag) (mg : Str → Option Value) (base : Heap) (nm f : Str) (C : Addr) : Prop where
  ex : ∃ (fI : Addr) (fdI : FuncData), PySem.W.findIn K (.ref C) "__init__" = some (some (.ref fI)) ∧ PySem.W.typeIn K (.ref fI) = some (.type "function") ∧ FnOk P w K mg base CX0 1 fI fdI ["self", f] (spInit K C f) ∧ Binds K fdI ["self", f] []
  T : OexC K C
  g : mg nm = some (.ref C)
section
variable {X : Cx} {nm f : Str} {p pos : Pos} {e : Expr} {es : List Expr} {ta : TA} {j : Nat} {C : Addr}
theorem pmk_err (R : ErrF X.prog X.w X.K X.mg X.base nm f C) (hr : Room j X.A) (ha : PA X (e :: es) ta) (hj : 2 ≤ j := by decide) (hg : Gl X nm := by rfl)
    (hdb : (nm == ("__debug__" : Str)) = false := by decide) (he : starEach (e :: es) X.env = (false, eval e X.env) :: starEach es X.env := by rfl) (hpl : (backTo pos (starEach es X.env)).any (·.1) = false := by rfl) :
    PMk X (.Call (.Name nm p) (e :: es) [] pos) (tMkO C (spInit X.K C f) [] ta) := by
  obtain ⟨fI, fdI, iC, tI, G, b⟩ := R.ex
  exact pmk_oex R.T iC tI G (hr.mono hj) b .nil pass0 hg R.g ha hdb he hpl
end
/-- the error with the value in its field f leaves -/
def OutF (f : Str) (C : Addr) (H : Hp) (v : V) (E : XK) : Prop := ∀ (dx : Addr) (H' : Hp), Same H H' → H dx = none → H' dx = some (.xd [(f, v)]) → E (.ref C) (some dx) H'
theorem OutF.same {f : Str} {C : Addr} {H H' : Hp} {v : V} {E : XK} (h : OutF f C H v E) (s : Same H H') : OutF f C H' v E := fun dx G sG n e => h dx G (s.trans sG) (s.free n) e
/-! ### tuples of numbers in a list under way -/
/-- tuples stand as they stood -/
def TK (H H' : Hp) : Prop := ∀ b xs, H b = some (.tup xs) → H' b = some (.tup xs)
theorem TK.refl {H : Hp} : TK H H := fun _ _ h => h
theorem TK.trans {H H1 H2 : Hp} (a : TK H H1) (b : TK H1 H2) : TK H H2 := fun c xs h => b c xs (a c xs h)
theorem TK.of {H H' : Hp} (s : Same H H') : TK H H' := fun b xs h => s _ _ h
theorem TK.lst {H : Hp} {D : Addr} {l : List V} {o : HO} (h : H D = some (.lst l)) : TK H (upd H D o) := fun b xs e => by
  rw [upd_ne fun z => by rw [z, h] at e; cases e]
  exact e
theorem TK.keep {w l : Addr} {H H' : Hp} (W : Well w l H) (k : Keep w l H H') : TK H H' := fun b xs e => by
  obtain ⟨_, _, _, hw, hl, _⟩ := W
  exact k b _ (fun z => by rw [z, hw] at e; cases e) (fun z => by rw [z, hl] at e; cases e) e
/-- rows of numbers, each a tuple -/
inductive Rows (H : Hp) : List V → List (List Nat) → Prop
  | nil : Rows H [] []
  | cons {q : Addr} {r : List Nat} {vs : List V} {rs : List (List Nat)} : H q = some (.tup (nv r)) → Rows H vs rs → Rows H (.ref q :: vs) (r :: rs)
theorem Rows.mono {H H' : Hp} (k : TK H H') : ∀ {vs : List V} {rs : List (List Nat)}, Rows H vs rs → Rows H' vs rs
  | _, _, .nil => .nil
  | _, _, .cons h q => .cons (k _ _ h) (q.mono k)
theorem Rows.append {H : Hp} : ∀ {vs us : List V} {rs ts : List (List Nat)}, Rows H vs rs → Rows H us ts → Rows H (vs ++ us) (rs ++ ts)
  | _, _, _, _, .nil, q => q
  | _, _, _, _, .cons h q, q' => .cons h (q.append q')
theorem Rows.snoc {H : Hp} {vs : List V} {rs : List (List Nat)} {q : Addr} {r : List Nat} (h : Rows H vs rs) (e : H q = some (.tup (nv r))) : Rows H (vs ++ [.ref q]) (rs ++ [r]) := h.append (.cons e .nil)
theorem Rows.length {H : Hp} : ∀ {vs : List V} {rs : List (List Nat)}, Rows H vs rs → vs.length = rs.length
  | _, _, .nil => rfl
  | _, _, .cons _ q => congrArg (· + 1) q.length
theorem Rows.get {H : Hp} : ∀ {vs : List V} {rs : List (List Nat)} {i : Nat} {v : V}, Rows H vs rs → vs[i]? = some v → ∃ q r, v = .ref q ∧ rs[i]? = some r ∧ H q = some (.tup (nv r))
  | _, _, 0, _, .cons h q, e => by cases e; exact ⟨_, _, rfl, rfl, h⟩
  | _, _, i + 1, _, .cons h q, e => q.get (i := i) e
  | _, _, 0, _, .nil, e => by cases e
  | _, _, _ + 1, _, .nil, e => by cases e
def nD (l : List Nat) : List PyData := l.map fun x => PyData.int ((x : Nat) : Int)
theorem rpN {H : Hp} : ∀ l : List Nat, RpAll H (nv l) (nD l)
  | [] => .nil
  | _ :: l => .cons (.int _) (rpN l)
def rowD (r : List Nat) : PyData := .tuple (nD r)
theorem Rows.rp {H : Hp} : ∀ {vs : List V} {rs : List (List Nat)}, Rows H vs rs → RpAll H vs (rs.map rowD)
  | _, _, .nil => .nil
  | _, _, .cons h q => .cons (.tup h (rpN _)) q.rp
theorem Rows.dp {K : PySem.W.Frag} {H : Hp} : ∀ {vs : List V} {rs : List (List Nat)}, Rows H vs rs → DpAll K H vs (rs.map rowD)
  | _, _, .nil => .nil
  | _, _, .cons (r := r) h q => .cons (.tup (SqT.of h) (by have := dpNv (K := K) (H := H) r; rw [List.map_map] at this; exact this)) q.dp
/-! ### a caught own error -/
structure CauN (K : PySem.W.Frag) (mg : Str → Option Value) (nm fld n1 n2 n3 : Str) (C L A1 A2 A3 : Addr) : Prop where
  ex : ExK K C
  no : PySem.W.findIn K (.ref C) fld = some none
  gC : mg nm = some (.ref C)
  gL : mg "LinkError" = some (.ref L)
  g1 : mg n1 = some (.ref A1)
  g2 : mg n2 = some (.ref A2)
  g3 : mg n3 = some (.ref A3)
  te : PySem.W.exmOne K (.ref C) (.ref L) = some true
  kV : PySem.W.kitOne K (.ref C) (.type "ValueError") = some true
  kC : PySem.W.kitOne K (.ref C) (.ref C) = some true
  k1 : PySem.W.kitOne K (.ref C) (.ref A1) = some false
  k2 : PySem.W.kitOne K (.ref C) (.ref A2) = some false
  k3 : PySem.W.kitOne K (.ref C) (.ref A3) = some false
theorem ExK.xf {K : PySem.W.Frag} {C : Addr} (T : ExK K C) : XfC K C := ⟨T.ga, T.gg, T.sb, T.hd⟩
theorem CauN.any3 {K : PySem.W.Frag} {mg : Str → Option Value} {nm fld n1 n2 n3 : Str} {C L A1 A2 A3 : Addr} (T : CauN K mg nm fld n1 n2 n3 C L A1 A2 A3) : ∀ its, Vals [V.ref A1, V.ref A2, V.ref A3] its → PySem.W.kitAny K (.ref C) its = some false := fun its r => by
  rw [ClsV.all (.cons (.own _) (.cons (.own _) (.cons (.own _) .nil))) r]
  simp only [PySem.W.kitAny, T.k1, T.k2, T.k3]
def exB (K : PySem.W.Frag) (C : Addr) : Bool :=
  (PySem.W.clsIn K C).isSome && (decide (PySem.W.findIn K (.ref C) "__getattribute__" = some (some (.builtin "BaseException.__getattribute__"))) && (decide (PySem.W.findIn K (.ref C) "__getattr__" = some none) && (decide (PySem.W.subIn K (.ref C) (.type "BaseException") = some true) &&
  (decide (PySem.W.findIn K (.ref C) "__class__" = some (some (.builtin "object.__class__"))) && (decide (PySem.W.specialIn K (.builtin "object.__class__") "__get__" = some (some (.builtin "getset_descriptor.__get__"))) && (decide (PySem.W.takesIn K (.builtin "object.__class__") = some true) && (decide (PySem.W.mroIn K C (.type "object") = some true) && PySem.W.hasDictIn K C)))))))
theorem exB_ok {K : PySem.W.Frag} {C : Addr} (h : exB K C = true) : ExK K C := by
  obtain ⟨h1, h⟩ := Bool.and_eq_true_iff.mp h
  obtain ⟨h2, h⟩ := Bool.and_eq_true_iff.mp h
  obtain ⟨h3, h⟩ := Bool.and_eq_true_iff.mp h
  obtain ⟨h4, h⟩ := Bool.and_eq_true_iff.mp h
  obtain ⟨h5, h⟩ := Bool.and_eq_true_iff.mp h
  obtain ⟨h6, h⟩ := Bool.and_eq_true_iff.mp h
  obtain ⟨h7, h⟩ := Bool.and_eq_true_iff.mp h
  obtain ⟨h8, h9⟩ := Bool.and_eq_true_iff.mp h
  exact ⟨h1, of_decide_eq_true h2, of_decide_eq_true h3, of_decide_eq_true h4, of_decide_eq_true h5, of_decide_eq_true h6, of_decide_eq_true h7, of_decide_eq_true h8, h9⟩
def cauB (K : PySem.W.Frag) (C L A1 A2 A3 : Addr) : Bool := exB K C && (decide (PySem.W.exmOne K (.ref C) (.ref L) = some true) && (decide (PySem.W.kitOne K (.ref C) (.type "ValueError") = some true) && (decide (PySem.W.kitOne K (.ref C) (.ref C) = some true) && (decide (PySem.W.kitOne K (.ref C) (.ref A1) = some false) && (decide (PySem.W.kitOne K (.ref C) (.ref A2) = some false) && decide (PySem.W.kitOne K (.ref C) (.ref A3) = some false))))))
theorem cau_ok {K : PySem.W.Frag} {mg : Str → Option Value} {nm fld n1 n2 n3 : Str} {C L A1 A2 A3 : Addr} (h : cauB K C L A1 A2 A3 = true) (no : PySem.W.findIn K (.ref C) fld = some none) (gC : mg nm = some (.ref C)) (gL : mg "LinkError" = some (.ref L)) (g1 : mg n1 = some (.ref A1)) (g2 : mg n2 = some (.ref A2)) (g3 : mg n3 = some (.ref A3)) : CauN K mg nm fld n1 n2 n3 C L A1 A2 A3 := by
  obtain ⟨h1, h⟩ := Bool.and_eq_true_iff.mp h
  obtain ⟨h2, h⟩ := Bool.and_eq_true_iff.mp h
  obtain ⟨h3, h⟩ := Bool.and_eq_true_iff.mp h
  obtain ⟨h4, h⟩ := Bool.and_eq_true_iff.mp h
  obtain ⟨h5, h⟩ := Bool.and_eq_true_iff.mp h
  obtain ⟨h6, h7⟩ := Bool.and_eq_true_iff.mp h
  exact ⟨exB_ok h1, no, gC, gL, g1, g2, g3, of_decide_eq_true h2, of_decide_eq_true h3, of_decide_eq_true h4, of_decide_eq_true h5, of_decide_eq_true h6, of_decide_eq_true h7⟩
theorem RpAll.get {H : Hp} : ∀ {vs : List V} {ds : List PyData} {i : Nat} {v : V}, RpAll H vs ds → vs[i]? = some v → ∃ d, ds[i]? = some d ∧ Rp H v d
  | _, _, 0, _, .cons h q, e => by cases e; exact ⟨_, rfl, h⟩
  | _, _, i + 1, _, .cons h q, e => q.get (i := i) e
  | _, _, 0, _, .nil, e => by cases e
  | _, _, _ + 1, _, .nil, e => by cases e
theorem RpAll.length {H : Hp} : ∀ {vs : List V} {ds : List PyData}, RpAll H vs ds → vs.length = ds.length
  | _, _, .nil => rfl
  | _, _, .cons _ q => congrArg (· + 1) q.length
/-- a value that is a tuple -/
theorem Rp.tupOf {K : PySem.W.Frag} {H : Hp} {v : V} {ds : List PyData} (h : Rp H v (.tuple ds)) : ∃ (a : Addr) (xs : List V), v = .ref a ∧ SqT K H a xs ∧ RpAll H xs ds := by
  cases h with
  | tup e q => exact ⟨_, _, rfl, SqT.of e, q⟩
  | ftp e q => exact ⟨_, _, rfl, .inl (.inr ⟨_, e⟩), q⟩
def kdI : PyData → Bool
  | .int _ => true
  | .bool _ => true
  | _ => false
def kdB : PyData → Bool
  | .bool _ => true
  | _ => false
def kdT : PyData → Bool
  | .tuple _ => true
  | _ => false
theorem m1_kit {K : PySem.W.Frag} (d : PyData) : PySem.W.kitOne K (.type (tyD d)) (.type "int") = some (kdI d) := by
  rw [kInt]
  cases d <;> rfl
theorem m2_kit {K : PySem.W.Frag} (d : PyData) : PySem.W.kitOne K (.type (tyD d)) (.type "bool") = some (kdB d) := by
  rw [kBool]
  cases d <;> rfl
theorem m3_kit {K : PySem.W.Frag} (d : PyData) : PySem.W.kitOne K (.type (tyD d)) (.type "tuple") = some (kdT d) := by
  rw [kTup]
  cases d <;> rfl
theorem m12 {d : PyData} (h : kdI d = true) (g : kdB d = false) : ∃ i, d = .int i := by
  cases d with
  | int i => exact ⟨i, rfl⟩
  | bool _ => cases g
  | _ => cases h
theorem RpAll.two {H : Hp} {xs : List V} {ds : List PyData} (h : RpAll H xs ds) (e : ds.length = 2) : ∃ x0 x1 d0 d1, xs = [x0, x1] ∧ ds = [d0, d1] ∧ Rp H x0 d0 ∧ Rp H x1 d1 := by
  match ds, e, h with
  | [_, _], _, .cons r0 (.cons r1 .nil) => exact ⟨_, _, _, _, rfl, rfl, r0, r1⟩
theorem kdT_of {d : PyData} (h : kdT d = true) : ∃ ds, d = .tuple ds := by
  cases d with
  | tuple ds => exact ⟨ds, rfl⟩
  | _ => cases h
theorem nat_ne {a b : Nat} (h : (!decide (V.int (a : Int) = V.int (b : Int))) = true) : a ≠ b := fun z => by
  rw [z, decide_eq_true rfl] at h
  cases h
theorem nat_eq {a b : Nat} (h : ¬ (!decide (V.int (a : Int) = V.int (b : Int))) = true) : a = b := Classical.byContradiction fun z => h (by rw [decide_eq_false (fun y => z (by have := V.int.inj y; omega))]; rfl)
theorem take_snoc {α : Type} {l : List α} {i : Nat} {x : α} (h : l[i]? = some x) : l.take (i + 1) = l.take i ++ [x] := by
  rw [List.take_add_one, h]
  rfl
end Lf
namespace Lf
open PySem PySem.Spec PyProof.Rows L2
/-! ### tuples of numbers compared -/
theorem eqv_nD : ∀ r s : List Nat, PyData.eqvAll (nD r) (nD s) = decide (r = s)
  | [], [] => rfl
  | [], _ :: _ => rfl
  | _ :: _, [] => rfl
  | x :: r, y :: s => by
    show ((((x : Nat) : Int) == ((y : Nat) : Int)) && PyData.eqvAll (nD r) (nD s)) = _
    rw [eqv_nD r s]
    by_cases h : x = y
    · subst h
      simp
    · have : (((x : Nat) : Int) == ((y : Nat) : Int)) = false := beq_eq_false_iff_ne.mpr fun e => h (by omega)
      rw [this]
      simp [h]
theorem any_rows (r : List Nat) : ∀ rs : List (List Nat), ((rs.map rowD).any fun z => PyData.eqv z (rowD r)) = decide (r ∈ rs)
  | [] => rfl
  | s :: rs => by
    rw [List.map_cons, List.any_cons, any_rows r rs]
    show (PyData.eqvAll (nD s) (nD r) || _) = _
    rw [eqv_nD]
    by_cases h : s = r
    · subst h
      simp
    · rw [decide_eq_false h, Bool.false_or]
      exact decide_eq_decide.mpr ⟨List.mem_cons_of_mem _, fun z => (List.mem_cons.mp z).elim (fun e => absurd e.symm h) id⟩
theorem layRow (r : List Nat) : PyData.canLayAll0 (nD r) = true := by
  have := layInts (r.map fun x => ((x : Nat) : Int))
  rw [List.map_map] at this
  exact this
theorem deepRow (r : List Nat) : PyData.depthAll (nD r) = 0 := by
  have := deepInts (r.map fun x => ((x : Nat) : Int))
  rw [List.map_map] at this
  exact this
theorem shRow (r : List Nat) : SeqAt.shaped (rowD r) = true := by
  show (PyData.canLayAll0 (nD r) && decide (PyData.depthAll (nD r) + 1 ≤ 64)) = true
  rw [layRow, deepRow]
  rfl
theorem layRows : ∀ rs : List (List Nat), PyData.canLayAll0 (rs.map rowD) = true
  | [] => rfl
  | r :: rs => by
    show (PyData.canLayAll0 (nD r) && PyData.canLayAll0 (rs.map rowD)) = true
    rw [layRows rs, layRow]
    rfl
theorem deepRows : ∀ rs : List (List Nat), PyData.depthAll (rs.map rowD) ≤ 1
  | [] => Nat.zero_le _
  | r :: rs => by
    show max (PyData.depthAll (nD r) + 1) (PyData.depthAll (rs.map rowD)) ≤ 1
    rw [deepRow]
    exact Nat.max_le.mpr ⟨Nat.le_refl _, deepRows rs⟩
theorem shRows (rs : List (List Nat)) : SeqAt.shaped (.list (rs.map rowD)) = true := by
  show (PyData.canLayAll0 (rs.map rowD) && decide (PyData.depthAll (rs.map rowD) + 1 ≤ 64)) = true
  rw [layRows, decide_eq_true (by have := deepRows rs; omega)]
  rfl
theorem dpRow {K : PySem.W.Frag} {H : Hp} {p : Addr} {r : List Nat} (h : SqT K H p (nv r)) : Dp K H (.ref p) (rowD r) := .tup h (by have := dpNv (K := K) (H := H) r; rw [List.map_map] at this; exact this)
theorem Rows.unsnoc {H : Hp} : ∀ {vs : List V} {rs : List (List Nat)} {r : List Nat}, Rows H vs (rs ++ [r]) → ∃ us q, vs = us ++ [.ref q] ∧ Rows H us rs ∧ H q = some (.tup (nv r))
  | _, [], _, .cons h .nil => ⟨[], _, rfl, .nil, h⟩
  | _, _ :: rs, _, .cons h q => by
    obtain ⟨us, q', e, h1, h2⟩ := Rows.unsnoc (rs := rs) q
    subst e
    exact ⟨_ :: us, q', rfl, .cons h h1, h2⟩
theorem eqv_row (r s : List Nat) : PyData.eqv (rowD r) (rowD s) = decide (r = s) := eqv_nD r s
theorem eqv_nil (l : List Nat) : PyData.eqv (.list ((l.map fun x => ((x : Nat) : Int)).map PyData.int)) (.list []) = l.isEmpty := by cases l <;> rfl
theorem Rows.dropLast {H : Hp} : ∀ {vs : List V} {rs : List (List Nat)}, Rows H vs rs → Rows H vs.dropLast rs.dropLast
  | _, _, .nil => .nil
  | _, _, .cons _ .nil => .nil
  | _, _, .cons h (.cons h2 q) => .cons h (Rows.dropLast (.cons h2 q))
def rInDT (K : PySem.W.Frag) : R2 := fun x y H Q => ∃ d ds, Dp K H x d ∧ Dp K H y (.tuple ds) ∧ SeqAt.shaped d = true ∧ SeqAt.shaped (.tuple ds) = true ∧ Q (.bl (ds.any fun z => PyData.eqv z d)) H
theorem op_inDT {X : Cx} (hu : X.A.units + 65 < cLine) : OpR X (compareOp .In) (rInDT X.K) := by
  intro pins s σ H x y v u Q I rx ry h
  obtain ⟨d, ds, hd, he, sd, se, q⟩ := h
  obtain ⟨as, r1⟩ := Dp.reads I d x v hd rx
  obtain ⟨bs, r2⟩ := Dp.reads I (.tuple ds) y u he ry
  exact SeqAt.in_tuple_reads r2 r1 (SeqAt.canLay_of_shaped se) (SeqAt.canLay_of_shaped sd) (room_in_shaped sd hu) ⟨.bl _, H, I, rfl, q⟩
theorem shRowsT (rs : List (List Nat)) : SeqAt.shaped (.tuple (rs.map rowD)) = true := shRows rs
end Lf
namespace Lf
open PySem PySem.Spec PyProof.Rows L2
/-! ### t[::-1] of a tuple of any length; str of any data -/
theorem range_pick {α : Type} (l : List α) : ∀ n, (List.range n).filterMap (fun k => l[k]?) = l.take n
  | 0 => rfl
  | n + 1 => by
    rw [List.range_succ, List.filterMap_append, range_pick l n, List.take_add_one]
    cases h : l[n]? <;> simp [h]
theorem fm_congr {α β : Type} {f g : α → Option β} : ∀ {l : List α}, (∀ a ∈ l, f a = g a) → l.filterMap f = l.filterMap g
  | [], _ => rfl
  | a :: l, h => by
    rw [List.filterMap_cons, List.filterMap_cons, h a List.mem_cons_self, fm_congr fun b hb => h b (List.mem_cons_of_mem _ hb)]
theorem pickBackA (xs : List Value) : ((List.range xs.toArray.size).filterMap fun (k : Nat) => xs.toArray[(((xs.toArray.size : Nat) : Int) - 1 + (k : Int) * (-1)).toNat]?).toArray = xs.reverse.toArray := by
  congr 1
  have e : (List.range xs.toArray.size).filterMap (fun (k : Nat) => xs.toArray[(((xs.toArray.size : Nat) : Int) - 1 + (k : Int) * (-1)).toNat]?) = (List.range xs.reverse.length).filterMap (fun k => xs.reverse[k]?) := by
    rw [List.size_toArray, List.length_reverse]
    refine fm_congr fun k hk => ?_
    have hk : k < xs.length := List.mem_range.mp hk
    rw [List.getElem?_reverse hk, List.getElem?_toArray]
    congr 1
    omega
  rw [e, range_pick, List.take_length]
section
variable {prog : Program} {w : World} {A : Around} {E : Value → Shared → Prop} {s : Shared}
theorem getBackA {t sl : Addr} {items : List Value} {tk : Tok} {Q : Value → Shared → Prop} (ht : IsTup s.heap t items.toArray) (hs : s.heap.IsSliceOf sl .none .none (.int (-1) tk)) (few : items.length ≤ sizeLine)
    (h : Q (.ref s.heap.objs.size) { s with heap := s.heap.push { cls := .type "tuple", data := .seq items.reverse.toArray } }) : wpAny (model prog w) A (getItem (.ref t) (.ref sl)) Q E s := by
  have fits : sizeOk (.seq items.reverse.toArray) := by
    show items.reverse.toArray.size ≤ sizeLine
    rw [List.size_toArray, List.length_reverse]
    exact few
  obtain ⟨os, hos, hcs, hds⟩ := id hs
  have isS : s.TypeIs (.ref sl) "slice" := ⟨os, hos, hcs⟩
  unfold getItem
  try with_reducible refine wpAny_holding ?_
  first | refine wpAny_bind (wpAny_pure ?_) | skip
  refine wpAny_bind (wpAny_sequenceKey ht.typeIs (by decide) ?_)
  refine wpAny_bind (wpAny_callSpecial?_slot (name := Str.ofString "__getitem__") ht.typeIs PyProof.Rows.slot_tuple_getitem (wpAny_call_entry PyProof.Rows.slot_tuple_getitem ht.typeIs entry_tuple_getitem ?_ (args_tuple_getitem _ _)))
  show wpAny _ _ (Builtin.Tuple.tupleItemsOf (.ref t) >>= _) _ _ s
  refine wpAny_bind (tupleItemsOf_ ht (wpAny_bind (wpAny_typeOf isS ?_)))
  rw [if_pos (by decide)]
  refine wpAny_bind (appBack hs ?_)
  have no : ¬ ((((((items.toArray.size : Nat) : Int) - 1) == 0) && ((-1 : Int) == 1) && (items.toArray.size == items.toArray.size)) = true) := by
    rw [show ((-1 : Int) == 1) = false from by decide, Bool.and_false, Bool.false_and]
    exact Bool.false_ne_true
  show wpAny _ _ (if (((((items.toArray.size : Nat) : Int) - 1) == 0) && ((-1 : Int) == 1) && (items.toArray.size == items.toArray.size)) = true then _ else _) _ _ s
  rw [if_neg no, pickBackA items]
  first
    | exact wpAny_bind (m := Builtin.Tuple.tupleExact _) (wpAny_newObj_type (wpAny_pure ⟨_, rfl, wpAny_pure h⟩) fits)
    | exact wpAny_bind (m := Builtin.Tuple.tupleExact _) (wpAny_newObj_type (wpAny_bind (wpAny_pure (wpAny_pure ⟨_, rfl, wpAny_pure h⟩))) fits)
    | exact wpAny_bind (wpAny_bind (m := Builtin.Tuple.tupleExact _) (wpAny_newObj_type (wpAny_pure (wpAny_pure ⟨_, rfl, wpAny_pure h⟩)) fits))
    | exact wpAny_bind (wpAny_bind (m := Builtin.Tuple.tupleExact _) (wpAny_newObj_type (wpAny_pure ⟨_, rfl, wpAny_pure h⟩) fits))
end
section
variable {X : Cx}
def tRevA (te : TE) : TE := fun σ H Q => te σ H fun x H1 => ∃ (a : Addr) (xs : List V), x = .ref a ∧ H1 a = some (.tup xs) ∧ ∀ p, H1 p = none → Q (.ref p) (upd H1 p (.tup xs.reverse))
theorem pe_revA {e : Expr} {te : TE} {k : Nat} {p1 p2 p3 pos : Pos} (he : PE X e te) : PE X (.Subscript e (.Slice none none (some (.UnaryOp .USub (.Constant (.int 1) k p1) p2)) p3) pos) (tRevA te) := by
  refine ⟨fun pins s σ H Q I h => ?_⟩
  refine Subscript_ (thn (he.run pins s σ H _ I h) ?_)
  rintro v s1 ⟨x, H1, I1, r1, a, xs, rfl, hx, q⟩
  cases (show v = Value.ref a from r1)
  have hst : PE X (.UnaryOp .USub (.Constant (.int 1) k p1) p2) (tUn (rU fun i => .int (-i)) (tC (.int 1))) := pe_un un_neg pe_int
  refine wpAny_Slice (thn (po_none.run pins s1 σ H1 (fun o G => o = none ∧ G = H1) I1 ⟨rfl, rfl⟩) ?_)
  rintro vl s2 ⟨ol, G2, I2, pl, rfl, rfl⟩
  refine thn (po_none.run pins s2 σ G2 (fun o G => o = none ∧ G = G2) I2 ⟨rfl, rfl⟩) ?_
  rintro vu s3 ⟨ou, G3, I3, pu, rfl, rfl⟩
  cases pl
  cases pu
  rw [evalPart_some]
  refine thn (hst.run pins s3 σ G3 (fun y G => y = .int (-1) ∧ G = G3) I3 ⟨1, rfl, rfl, rfl⟩) ?_
  rintro vs s4 ⟨y, H4, I4, ry, rfl, rfl⟩
  obtain ⟨tk, rfl⟩ := ry
  have I5 : Inv X pins σ H4 { s4 with heap := s4.heap.push { cls := .type "slice", data := .fields #[.none, .none, .int (-1) tk] } } := I4.kept (t' := s4.toks) fun b ob z => Heap.get?_push_of_some _ z
  obtain ⟨its, rv, plain, small⟩ := I5.tuple (SqT.of hx)
  have same := rv.length
  show wpAny (model X.prog X.w) X.A (subscriptTail e (.Slice none none (some (.UnaryOp .USub (.Constant (.int 1) k p1) p2)) p3) (.ref a) (.ref s4.heap.objs.size)) (EP X pins σ Q) X.xe { s4 with heap := s4.heap.push { cls := .type "slice", data := .fields #[.none, .none, .int (-1) tk] } }
  refine tail_any (ops := [.ref a, .ref s4.heap.objs.size]) plain.typeIs (PyProof.Rows.slot_tuple_getitem.lookup) ?_ (by with_unfolding_all rfl)
  refine getBackA plain (Heap.IsSliceOf.new _ _ _ _) (same ▸ small) ?_
  refine ⟨.ref _, _, I5.laid (t' := s4.toks) (o := .tup xs.reverse) (fun b ob z => Heap.get?_push_of_some _ z) (Nat.le_refl _) ?_, rfl, q _ (I5.hok.fresh (Nat.le_refl _))⟩
  exact ⟨by rw [List.length_reverse]; exact small, its.reverse, rv.reverse, IsTup.new _ _⟩
/-- str of a number or of a tuple -/
theorem call_strA (hs : ∃ o, X.base.get? sysModules = some o) (hg : X.A.guards = some []) (hu : X.A.units + 200 < cLine) :
    CallR X (.type "str") (fun xs H Q => ∃ (v : V) (d : PyData), xs = [v] ∧ Rp H v d ∧ d.showable = true ∧ d.depth ≤ 100 ∧ d.shown.length ≤ sizeLine ∧ ((∃ i, d = .int i) ∨ ∃ ds, d = .tuple ds) ∧ Q (.str d.shown) H) := by
  intro pins s σ H xs us Q I r h
  obtain ⟨v, d, rfl, hr, h1, h2, h3, h4, q⟩ := h
  rcases h4 with ⟨i, rfl⟩ | ⟨ds, rfl⟩
  · cases hr
    obtain ⟨u, rfl, t, rfl⟩ := vals1 r
    exact PySem.P.str_of_int (of_decide_eq_true h1) ⟨.str _, H, I.tok _, ⟨_, rfl⟩, q⟩
  · obtain ⟨a, xs, rfl, _, _⟩ := hr.tupOf (K := X.K)
    obtain ⟨u, rfl, r1⟩ := vals1 r
    cases (show u = Value.ref a from r1)
    obtain ⟨as, rd, na⟩ := Rp.reads I hs hr _ rfl
    exact str_of_reads rd h1 (fun _ => na) hg (by omega) (fun _ _ e => e) (fun h' t tk k => ⟨.str _, H, I.kept k, ⟨t, rfl⟩, q⟩) h3
end
end Lf
namespace Lf
open PySem PySem.Spec PyProof.Rows L2
/-! ### new tuples are known to the object: it has no dict, so that its methods can be called -/
def Tk (o : Obj) : Prop := o.cls = .type "tuple" ∧ o.dict = none
section
variable {X : Cx}
theorem tk_new {xs : Array Value} : Tk { cls := .type "tuple", data := .seq xs } := ⟨rfl, rfl⟩
/-- a new tuple is laid -/
theorem laidT {pins : List (Addr × Obj)} {σ : L2.St} {H : Hp} {s : Shared} {us : List Value} {xs : List V} {tk : Nat} (I : Inv X pins σ H s) (r : Vals xs us) (z : xs.length ≤ sizeLine) :
    Inv X pins σ (upd H s.heap.objs.size (.frz { cls := .type "tuple", data := .seq us.toArray } (.tup xs))) { s with heap := s.heap.push { cls := .type "tuple", data := .seq us.toArray }, toks := tk } :=
  I.laid (t' := tk) (o := .frz { cls := .type "tuple", data := .seq us.toArray } (.tup xs)) (fun b ob q => Heap.get?_push_of_some _ q) (Nat.le_refl _) ⟨Heap.get?_push_size _ rfl, z, us, r, IsTup.new _ _⟩
/-- t + u -/
def rCatK (K : PySem.W.Frag) : R2 := fun x y H Q => ∃ (a b : Addr) (xs ys : List V), x = .ref a ∧ y = .ref b ∧ SqT K H a xs ∧ SqT K H b ys ∧ xs.length + ys.length ≤ sizeLine ∧ (ys = [] → Q (.ref a) H) ∧ (xs = [] → Q (.ref b) H) ∧ (∀ p o, H p = none → Tk o → Q (.ref p) (upd H p (.frz o (.tup (xs ++ ys)))))
theorem op_catK : OpR X (binaryOp .Add) (rCatK X.K) := by
  intro pins s σ H x y v u Q I rx ry h
  obtain ⟨a, b, xs, ys, rfl, rfl, ha, hb, hz, q1, q0, q2⟩ := h
  cases rx
  cases ry
  obtain ⟨its, r1, p1, _⟩ := I.tuple ha
  obtain ⟨its2, r2, p2, _⟩ := I.tuple hb
  cases its with
  | nil =>
    have e : xs = [] := r1.nil_iff.mp rfl
    exact cat_tup0 p1 p2 ⟨.ref b, H, I, rfl, q0 e⟩
  | cons i its =>
    refine HT.cat_tup p1 p2 (fun z => nomatch z) (fun z => ?_) (fun z => ?_) (by rw [← r1.length, ← r2.length]; exact hz)
    · exact ⟨.ref a, H, I, rfl, q1 (r2.nil_iff.mp z)⟩
    · exact ⟨.ref s.heap.objs.size, _, laidT (tk := s.toks) I (r1.append r2) (by rw [List.length_append]; exact hz), rfl, q2 _ _ (I.hok.fresh (Nat.le_refl _)) tk_new⟩
/-- t[lo:hi]: the whole of it is t itself -/
def rSlK (K : PySem.W.Frag) : V → Option Int → Option Int → Hp → VK → Prop := fun x lo hi H Q => ∃ a xs, x = .ref a ∧ SqT K H a xs ∧
  (HT.sIx xs.length 0 lo = 0 ∧ HT.sIx xs.length xs.length hi = xs.length → Q (.ref a) H) ∧ (¬ (HT.sIx xs.length 0 lo = 0 ∧ HT.sIx xs.length xs.length hi = xs.length) → ∀ p o, H p = none → Tk o → Q (.ref p) (upd H p (.frz o (.tup (cutV xs lo hi)))))
theorem sl_tupK : SlR X (rSlK X.K) := by
  intro pins s σ H x v vl vu lo hi sl Q I rx hs pl pu h
  obtain ⟨a, xs, rfl, hx, whole, part⟩ := h
  by_cases hw : HT.sIx xs.length 0 lo = 0 ∧ HT.sIx xs.length xs.length hi = xs.length
  · exact sl_tupA pins s σ H _ v vl vu lo hi sl Q I rx hs pl pu ⟨a, xs, rfl, hx, whole, fun z => absurd hw z⟩
  · cases rx
    obtain ⟨its, r, ht, hz⟩ := I.tuple hx
    have size : its.toArray.size = xs.length := by rw [List.size_toArray]; exact r.length.symm
    refine ⟨"tuple", _, PyProof.Rows.slot_tuple_getitem.lookup, ht.typeIs, HT.getItem_tuple_cut ht hs pl pu (by rw [size]; exact hw) ?_ (by rw [size]; exact hz)⟩
    rw [size]
    exact ⟨.ref s.heap.objs.size, _, laidT (tk := s.toks) I ((r.drop (HT.sIx xs.length 0 lo)).take (HT.sIx xs.length xs.length hi - HT.sIx xs.length 0 lo)) (Nat.le_trans (cutV_length xs lo hi) hz), rfl, part hw _ _ (I.hok.fresh (Nat.le_refl _)) tk_new⟩
/-- (x, ..) -/
def tTupK (t : TA) : TE := fun σ H Q => t σ H fun xs H1 => xs.length ≤ sizeLine ∧ ∀ p o, H1 p = none → Tk o → Q (.ref p) (upd H1 p (.frz o (.tup xs)))
theorem pe_tupK {es : List Expr} {t : TA} {pos : Pos} {x1} (h : PA X es t) : PE X (.Tuple es x1 pos) (tTupK t) := by
  refine ⟨fun pins s σ H Q I hq => ?_⟩
  refine wpAny_Tuple_spliced (thn (h.run pos pins s σ H _ I hq) fun us s1 ⟨xs, H1, I1, r, z, q⟩ => ⟨by rw [← r.length]; exact z, ?_⟩)
  exact ⟨.ref s1.heap.objs.size, _, laidT (tk := s1.toks) I1 r z, rfl, q _ _ (I1.hok.fresh (Nat.le_refl _)) tk_new⟩
/-- tuple(a list), tuple(a tuple) -/
theorem call_tupleK : CallR X (.type "tuple") (fun xs H Q => ∃ (p : Addr) (ys : List V), xs = [.ref p] ∧ ((SqL X.K H p ys ∧ ∀ l o, H l = none → Tk o → Q (.ref l) (upd H l (.frz o (.tup ys)))) ∨ (SqT X.K H p ys ∧ Q (.ref p) H))) := by
  intro pins s σ H xs us Q I r h
  obtain ⟨p, ys, rfl, h⟩ := h
  rcases h with ⟨hq, q⟩ | h
  · exact call_tupleF pins s σ H _ us Q I r ⟨p, ys, rfl, hq, fun l o hl h1 h2 => q l o hl ⟨h1, h2⟩⟩
  · exact call_tuple_of pins s σ H _ us Q I r ⟨p, ys, rfl, .inr h⟩
/-- tuple(range(..)) -/
def tTupRgK (te : L2.St → Hp → (Int → Int → Hp → Prop) → Prop) : TE := fun σ H Q => te σ H fun a b H1 => RgOk a b ∧ ∀ p o, H1 p = none → Tk o → Q (.ref p) (upd H1 p (.frz o (.tup (rgV a b))))
theorem pe_tupRgK {e : Expr} {te : L2.St → Hp → (Int → Int → Hp → Prop) → Prop} {p pos : Pos} (hc : X.calm = true) (hg : Gl X "tuple") (hm : X.mg "tuple" = none) (he : PRg X e te) (na : starEach [e] X.env = (false, eval e X.env) :: starEach [] X.env := by rfl) : PE X (.Call (.Name "tuple" p) [e] [] pos) (tTupRgK te) := by
  refine ⟨fun pins s σ H Q I h => ?_⟩
  refine Call_ (ld_blt I hg hm boot_tuple (PyProof.Rows.callWith_type1 (args_cons (thn (he pins s σ H _ I h) ?_) na) na))
  rintro x s1 ⟨r, a, b, t, u, v, H1, rfl, hr, I1, ⟨b1, b2, b3, b4, b5⟩, q⟩
  refine args_nil (call_tuple_range (n := (b - a).toNat) (I1.ok.hd hc) hr (small_one b1 b2 b3 b4) (rangeSize_nat a b) b5 fun h' tk acc keep hin => ?_)
  have J := I1.kept (t' := tk) keep
  have K := laidT (tk := tk) J (vals_rg hin) (by rw [rgV_length, sizeLine_eq]; omega)
  rw [Array.toArray_toList] at K
  exact ⟨.ref h'.objs.size, _, K, rfl, q _ _ (J.hok.fresh (Nat.le_refl _)) tk_new⟩
end
end Lf
namespace Lf
open PySem PySem.Spec PyProof.Rows L2
/-! ## readings over data: a def's body without addresses -/
/-- a region that a def may change, with its state -/
structure Zn where
  S : Type
  at_ : Addr → Prop
  ok : S → Hp → Prop
  trk : ∀ {s : S} {H : Hp} {a : Addr}, ok s H → at_ a → H a ≠ none
  nt : ∀ {s : S} {H : Hp} {a : Addr} {xs : List V}, ok s H → at_ a → H a ≠ some (.tup xs)
  nf : ∀ {s : S} {H : Hp} {a : Addr} {o : Obj} {u : HO}, ok s H → at_ a → H a ≠ some (.frz o u)
  st : ∀ {s : S} {H H' : Hp}, ok s H → (∀ a o, at_ a → H a = some o → H' a = some o) → (∀ b xs, H b = some (.tup xs) → H' b = some (.tup xs)) → (∀ b o u, H b = some (.frz o u) → H' b = some (.frz o u)) → (∀ b f, H b = some (.ext f) → H' b = some (.ext f)) → ok s H'
def Z0 : Zn := ⟨Unit, fun _ => False, fun _ _ => True, fun _ h => h.elim, fun _ h => h.elim, fun _ h => h.elim, fun _ _ _ _ _ => trivial⟩
mutual
inductive Im (B : Addr → Prop) (H : Hp) : V → PyData → Prop
  | non : Im B H .non .none
  | bl (b : Bool) : Im B H (.bl b) (.bool b)
  | int (i : Int) : Im B H (.int i) (.int i)
  | str (x : Str) : Im B H (.str x) (.str x)
  | lst {a : Addr} {xs : List V} {ds : List PyData} : H a = some (.lst xs) → ¬ B a → ImAll B H xs ds → Im B H (.ref a) (.list ds)
  | ftp {a : Addr} {o : Obj} {xs : List V} {ds : List PyData} : H a = some (.frz o (.tup xs)) → Tk o → ImAll B H xs ds → Im B H (.ref a) (.tuple ds)
  | dct {a : Addr} {kvs : List (Key × V)} {es : List (PyData × PyData)} : H a = some (.dK kvs) → ¬ B a → ImKv B H kvs es → Im B H (.ref a) (.dict es)
inductive ImAll (B : Addr → Prop) (H : Hp) : List V → List PyData → Prop
  | nil : ImAll B H [] []
  | cons {v : V} {vs : List V} {d : PyData} {ds : List PyData} : Im B H v d → ImAll B H vs ds → ImAll B H (v :: vs) (d :: ds)
inductive ImKv (B : Addr → Prop) (H : Hp) : List (Key × V) → List (PyData × PyData) → Prop
  | nil : ImKv B H [] []
  | cons {k : Key} {v : V} {r : List (Key × V)} {d : PyData} {es : List (PyData × PyData)} : Im B H v d → ImKv B H r es → ImKv B H ((k, v) :: r) ((keyD k, d) :: es)
end
section
variable {B B' : Addr → Prop} {H H' : Hp}
mutual
theorem Im.mono (kl : ∀ b o, H b = some o → ¬ B b → H' b = some o ∧ ¬ B' b) (kt : ∀ b xs, H b = some (.tup xs) → H' b = some (.tup xs)) (kf : ∀ b o u, H b = some (.frz o u) → H' b = some (.frz o u)) : ∀ {v : V} {d : PyData}, Im B H v d → Im B' H' v d
  | _, _, .non => .non
  | _, _, .bl b => .bl b
  | _, _, .int i => .int i
  | _, _, .str x => .str x
  | _, _, .lst e n q => .lst (kl _ _ e n).1 (kl _ _ e n).2 (ImAll.mono kl kt kf q)
  | _, _, .ftp e t q => .ftp (kf _ _ _ e) t (ImAll.mono kl kt kf q)
  | _, _, .dct e n q => .dct (kl _ _ e n).1 (kl _ _ e n).2 (ImKv.mono kl kt kf q)
theorem ImAll.mono (kl : ∀ b o, H b = some o → ¬ B b → H' b = some o ∧ ¬ B' b) (kt : ∀ b xs, H b = some (.tup xs) → H' b = some (.tup xs)) (kf : ∀ b o u, H b = some (.frz o u) → H' b = some (.frz o u)) : ∀ {vs : List V} {ds : List PyData}, ImAll B H vs ds → ImAll B' H' vs ds
  | _, _, .nil => .nil
  | _, _, .cons q1 q2 => .cons (Im.mono kl kt kf q1) (ImAll.mono kl kt kf q2)
theorem ImKv.mono (kl : ∀ b o, H b = some o → ¬ B b → H' b = some o ∧ ¬ B' b) (kt : ∀ b xs, H b = some (.tup xs) → H' b = some (.tup xs)) (kf : ∀ b o u, H b = some (.frz o u) → H' b = some (.frz o u)) : ∀ {vs : List (Key × V)} {ds : List (PyData × PyData)}, ImKv B H vs ds → ImKv B' H' vs ds
  | _, _, .nil => .nil
  | _, _, .cons q1 q2 => .cons (Im.mono kl kt kf q1) (ImKv.mono kl kt kf q2)
end
mutual
theorem Im.rp : ∀ {v : V} {d : PyData}, Im B H v d → Rp H v d
  | _, _, .non => .non
  | _, _, .bl b => .bl b
  | _, _, .int i => .int i
  | _, _, .str x => .str x
  | _, _, .lst e _ q => .lst e q.rp
  | _, _, .ftp e _ q => .ftp e q.rp
  | _, _, .dct e _ q => .dct e q.rp
theorem ImAll.rp : ∀ {vs : List V} {ds : List PyData}, ImAll B H vs ds → RpAll H vs ds
  | _, _, .nil => .nil
  | _, _, .cons q1 q2 => .cons q1.rp q2.rp
theorem ImKv.rp : ∀ {vs : List (Key × V)} {ds : List (PyData × PyData)}, ImKv B H vs ds → RpKv H vs ds
  | _, _, .nil => .nil
  | _, _, .cons q1 q2 => .cons q1.rp q2.rp
end
mutual
def noL : PyData → Bool
  | .list _ => false
  | .dict _ => false
  | .tuple ds => noLs ds
  | _ => true
def noLs : List PyData → Bool
  | [] => true
  | d :: ds => noL d && noLs ds
end
mutual
theorem Im.free : ∀ {v : V} {d : PyData}, noL d = true → Im B H v d → Im B' H v d
  | _, _, _, .non => .non
  | _, _, _, .bl b => .bl b
  | _, _, _, .int i => .int i
  | _, _, _, .str x => .str x
  | _, _, h, .lst _ _ _ => by cases h
  | _, _, h, .ftp e t q => .ftp e t (ImAll.free h q)
  | _, _, h, .dct _ _ _ => by cases h
theorem ImAll.free : ∀ {vs : List V} {ds : List PyData}, noLs ds = true → ImAll B H vs ds → ImAll B' H vs ds
  | _, _, _, .nil => .nil
  | _, _, h, .cons q1 q2 => .cons (Im.free (Bool.and_eq_true_iff.mp h).1 q1) (ImAll.free (Bool.and_eq_true_iff.mp h).2 q2)
end
theorem ImAll.length : ∀ {vs : List V} {ds : List PyData}, ImAll B H vs ds → vs.length = ds.length
  | _, _, .nil => rfl
  | _, _, .cons _ q => congrArg (· + 1) q.length
theorem ImAll.get : ∀ {vs : List V} {ds : List PyData} {i : Nat} {d : PyData}, ImAll B H vs ds → ds[i]? = some d → ∃ v, vs[i]? = some v ∧ Im B H v d
  | _, _, 0, _, .cons h q, e => by cases e; exact ⟨_, rfl, h⟩
  | _, _, i + 1, _, .cons h q, e => q.get (i := i) e
  | _, _, 0, _, .nil, e => by cases e
  | _, _, _ + 1, _, .nil, e => by cases e
theorem ImAll.gets : ∀ {vs : List V} {ds : List PyData} {i : Nat} {v : V}, ImAll B H vs ds → vs[i]? = some v → ∃ d, ds[i]? = some d ∧ Im B H v d
  | _, _, 0, _, .cons h q, e => by cases e; exact ⟨_, rfl, h⟩
  | _, _, i + 1, _, .cons h q, e => q.gets (i := i) e
  | _, _, 0, _, .nil, e => by cases e
  | _, _, _ + 1, _, .nil, e => by cases e
theorem ImAll.append : ∀ {vs us : List V} {ds es : List PyData}, ImAll B H vs ds → ImAll B H us es → ImAll B H (vs ++ us) (ds ++ es)
  | _, _, _, _, .nil, q => q
  | _, _, _, _, .cons h q, q' => .cons h (q.append q')
theorem ImAll.snoc {vs : List V} {ds : List PyData} {v : V} {d : PyData} (q : ImAll B H vs ds) (h : Im B H v d) : ImAll B H (vs ++ [v]) (ds ++ [d]) := q.append (.cons h .nil)
theorem ImAll.set : ∀ {vs : List V} {ds : List PyData} (i : Nat) {v : V} {d : PyData}, ImAll B H vs ds → Im B H v d → ImAll B H (vs.set i v) (ds.set i d)
  | _, _, _, _, _, .nil, _ => .nil
  | _, _, 0, _, _, .cons _ q, h => .cons h q
  | _, _, i + 1, _, _, .cons h q, h' => .cons h (q.set i h')
theorem ImAll.take : ∀ {vs : List V} {ds : List PyData} (n : Nat), ImAll B H vs ds → ImAll B H (vs.take n) (ds.take n)
  | _, _, 0, _ => .nil
  | _, _, _ + 1, .nil => .nil
  | _, _, n + 1, .cons h q => .cons h (q.take n)
theorem ImAll.drop : ∀ {vs : List V} {ds : List PyData} (n : Nat), ImAll B H vs ds → ImAll B H (vs.drop n) (ds.drop n)
  | _, _, 0, q => q
  | _, _, _ + 1, .nil => .nil
  | _, _, n + 1, .cons _ q => q.drop n
theorem ImAll.reverse : ∀ {vs : List V} {ds : List PyData}, ImAll B H vs ds → ImAll B H vs.reverse ds.reverse
  | _, _, .nil => .nil
  | _, _, .cons h q => by
    rw [List.reverse_cons, List.reverse_cons]
    exact q.reverse.snoc h
end
/-! ### dicts -/
inductive ImPs {κ : Type} (B : Addr → Prop) (H : Hp) : List (κ × V) → List (κ × PyData) → Prop
  | nil : ImPs B H [] []
  | cons {k : κ} {v : V} {r : List (κ × V)} {d : PyData} {es : List (κ × PyData)} : Im B H v d → ImPs B H r es → ImPs B H ((k, v) :: r) ((k, d) :: es)
theorem ImPs.mono {κ : Type} {B B' : Addr → Prop} {H H' : Hp} (kl : ∀ b o, H b = some o → ¬ B b → H' b = some o ∧ ¬ B' b) (kt : ∀ b xs, H b = some (.tup xs) → H' b = some (.tup xs)) (kf : ∀ b o u, H b = some (.frz o u) → H' b = some (.frz o u)) : ∀ {r : List (κ × V)} {es : List (κ × PyData)}, ImPs B H r es → ImPs B' H' r es
  | _, _, .nil => .nil
  | _, _, .cons q1 q2 => .cons (Im.mono kl kt kf q1) (ImPs.mono kl kt kf q2)
/-! ### slots -/
inductive Sl where
  | no
  | im (d : PyData)
  | ow (a : Addr) (l : List PyData)
  | od (a : Addr) (es : List (Key × PyData))
  | ot (a : Addr) (es : List (List Key × PyData))
  | raw (v : V)
def ownOf : Sl → Option Addr
  | .ow a _ => some a
  | .od a _ => some a
  | .ot a _ => some a
  | _ => none
def own (ρ : List Sl) : List Addr := ρ.filterMap ownOf
def Bad (Z : Zn) (B0 : Addr → Prop) (ρ : List Sl) (a : Addr) : Prop := Z.at_ a ∨ B0 a ∨ a ∈ own ρ
def SlR (B : Addr → Prop) (H : Hp) : Sl → Option V → Prop
  | .no, _ => True
  | .im d, o => ∃ v, o = some v ∧ Im B H v d
  | .ow a l, o => o = some (.ref a) ∧ ∃ xs, H a = some (.lst xs) ∧ ImAll B H xs l
  | .od a es, o => o = some (.ref a) ∧ ∃ kvs, H a = some (.dK kvs) ∧ ImPs B H kvs es
  | .ot a es, o => o = some (.ref a) ∧ ∃ kvs, H a = some (.dT kvs) ∧ ImPs B H kvs es
  | .raw v, o => o = some v
structure Rel (Z : Zn) (B0 : Addr → Prop) (H0 : Hp) (ρ : List Sl) (s : Z.S) (σ : L2.St) (H : Hp) : Prop where
  ok : Z.ok s H
  len : σ.length = ρ.length
  sl : ∀ (i : Nat) (x : Sl), ρ[i]? = some x → ∃ o, σ[i]? = some o ∧ SlR (Bad Z B0 ρ) H x o
  nd : (own ρ).Nodup
  fr : ∀ a ∈ own ρ, H0 a = none ∧ ¬ Z.at_ a ∧ ¬ B0 a
  btr : ∀ a, B0 a → H a ≠ none
  frm : ∀ b o, H0 b = some o → ¬ Z.at_ b → H b = some o
def Gr (Z : Zn) (H H' : Hp) : Prop := ∀ b o, H b = some o → ¬ Z.at_ b → H' b = some o
theorem Gr.refl {Z : Zn} {H : Hp} : Gr Z H H := fun _ _ h _ => h
theorem Gr.trans {Z : Zn} {H H1 H2 : Hp} (a : Gr Z H H1) (b : Gr Z H1 H2) : Gr Z H H2 := fun c o h n => b c o (a c o h n) n
theorem Gr.of {Z : Zn} {H H' : Hp} (s : Same H H') : Gr Z H H' := fun b o h _ => s b o h
inductive Rv where
  | im (d : PyData)
  | bo (l : List PyData)
  | fr (l : List PyData)
  | rw (v : V)
def Rv.dat : Rv → PyData
  | .im d => d
  | .bo l => .list l
  | .fr l => .list l
  | .rw _ => .none
def RvR (Z : Zn) (B0 : Addr → Prop) (ρ : List Sl) (H H' : Hp) (v : V) : Rv → Prop
  | .im d => Im (Bad Z B0 ρ) H' v d
  | .bo l => ∃ a xs, a ∈ own ρ ∧ v = .ref a ∧ H' a = some (.lst xs) ∧ ImAll (Bad Z B0 ρ) H' xs l
  | .fr l => ∃ p xs, v = .ref p ∧ H p = none ∧ ¬ Z.at_ p ∧ H' p = some (.lst xs) ∧ ImAll (fun a => Bad Z B0 ρ a ∨ a = p) H' xs l
  | .rw u => v = u
section
variable {Z : Zn} {B0 : Addr → Prop} {H0 H H1 H2 : Hp} {ρ : List Sl} {s s1 s2 : Z.S} {σ : L2.St} {v : V} {r : Rv} {d : PyData} {vs : List V} {ds : List PyData} {B : Addr → Prop}
theorem Zn.ntup (ok : Z.ok s H) {b : Addr} {xs : List V} (h : H b = some (.tup xs)) : ¬ Z.at_ b := fun z => Z.nt ok z h
theorem Zn.nfrz (ok : Z.ok s H) {b : Addr} {o : Obj} {u : HO} (h : H b = some (.frz o u)) : ¬ Z.at_ b := fun z => Z.nf ok z h
theorem Im.grow (hB : ∀ a, Z.at_ a → B a) (ok : Z.ok s H) (g : Gr Z H H1) (h : Im B H v d) : Im B H1 v d := h.mono (fun b o e n => ⟨g b o e fun z => n (hB b z), n⟩) (fun b xs e => g b _ e (Zn.ntup ok e)) (fun b o u e => g b _ e (Zn.nfrz ok e))
theorem ImAll.grow (hB : ∀ a, Z.at_ a → B a) (ok : Z.ok s H) (g : Gr Z H H1) (h : ImAll B H vs ds) : ImAll B H1 vs ds := h.mono (fun b o e n => ⟨g b o e fun z => n (hB b z), n⟩) (fun b xs e => g b _ e (Zn.ntup ok e)) (fun b o u e => g b _ e (Zn.nfrz ok e))
theorem ImPs.grow {κ : Type} {r : List (κ × V)} {es : List (κ × PyData)} (hB : ∀ a, Z.at_ a → B a) (ok : Z.ok s H) (g : Gr Z H H1) (h : ImPs B H r es) : ImPs B H1 r es := h.mono (fun b o e n => ⟨g b o e fun z => n (hB b z), n⟩) (fun b xs e => g b _ e (Zn.ntup ok e)) (fun b o u e => g b _ e (Zn.nfrz ok e))
theorem own_mem {i : Nat} {a : Addr} {l : List PyData} (h : ρ[i]? = some (Sl.ow a l)) : a ∈ own ρ := List.mem_filterMap.mpr ⟨Sl.ow a l, List.mem_of_getElem? h, rfl⟩
theorem own_memG {i : Nat} {a : Addr} {x : Sl} (h : ρ[i]? = some x) (hx : ownOf x = some a) : a ∈ own ρ := List.mem_filterMap.mpr ⟨x, List.mem_of_getElem? h, hx⟩
theorem mem_own {a : Addr} (h : a ∈ own ρ) : ∃ (i : Nat) (x : Sl), ρ[i]? = some x ∧ ownOf x = some a := by
  obtain ⟨x, hx, e⟩ := List.mem_filterMap.mp h
  obtain ⟨i, hi, ei⟩ := List.getElem_of_mem hx
  exact ⟨i, x, by rw [List.getElem?_eq_getElem hi, ei], e⟩
/-- what stands at an owned address -/
theorem Rel.ob (R : Rel Z B0 H0 ρ s σ H) {i : Nat} {x : Sl} {a : Addr} (e : ρ[i]? = some x) (h : ownOf x = some a) : ∃ o, H a = some o ∧ (∀ ys, o ≠ .tup ys) ∧ ∀ u v, o ≠ .frz u v := by
  obtain ⟨o, _, h2⟩ := R.sl i _ e
  cases x with
  | no => cases h
  | im d => cases h
  | raw v => cases h
  | ow b l =>
    cases h
    obtain ⟨_, xs, hx, _⟩ := h2
    exact ⟨_, hx, (fun _ z => nomatch z), (fun _ _ z => nomatch z)⟩
  | od b l =>
    cases h
    obtain ⟨_, xs, hx, _⟩ := h2
    exact ⟨_, hx, (fun _ z => nomatch z), (fun _ _ z => nomatch z)⟩
  | ot b l =>
    cases h
    obtain ⟨_, xs, hx, _⟩ := h2
    exact ⟨_, hx, (fun _ z => nomatch z), (fun _ _ z => nomatch z)⟩
theorem Rel.nx (R : Rel Z B0 H0 ρ s σ H) {i : Nat} {x : Sl} {a : Addr} (e : ρ[i]? = some x) (h : ownOf x = some a) (f : Heap → Prop) : H a ≠ some (.ext f) := by
  obtain ⟨o, _, h2⟩ := R.sl i _ e
  intro z
  cases x with
  | no => cases h
  | im d => cases h
  | raw v => cases h
  | ow b l => cases h; obtain ⟨_, xs, hx, _⟩ := h2; rw [hx] at z; cases z
  | od b l => cases h; obtain ⟨_, xs, hx, _⟩ := h2; rw [hx] at z; cases z
  | ot b l => cases h; obtain ⟨_, xs, hx, _⟩ := h2; rw [hx] at z; cases z
theorem Rel.otr (R : Rel Z B0 H0 ρ s σ H) {a : Addr} (h : a ∈ own ρ) : H a ≠ none := by
  obtain ⟨i, x, e, hx⟩ := mem_own h
  obtain ⟨o, ho, _⟩ := R.ob e hx
  rw [ho]
  exact fun z => nomatch z
/-- what is bad is tracked -/
theorem Rel.bad (R : Rel Z B0 H0 ρ s σ H) {a : Addr} (h : Bad Z B0 ρ a) : H a ≠ none := by
  rcases h with h | h | h
  · exact Z.trk R.ok h
  · exact R.btr a h
  · exact R.otr h
theorem badZ : ∀ a, Z.at_ a → Bad Z B0 ρ a := fun _ h => .inl h
theorem Rel.h0 (R : Rel Z B0 H0 ρ s σ H) {a : Addr} (h : H a = none) : H0 a = none := by
  cases e : H0 a with
  | none => rfl
  | some o =>
    have nz : ¬ Z.at_ a := fun z => Z.trk R.ok z h
    have := R.frm a o e nz
    rw [h] at this
    cases this
theorem Rel.grow (R : Rel Z B0 H0 ρ s σ H) (ok : Z.ok s1 H1) (g : Gr Z H H1) : Rel Z B0 H0 ρ s1 σ H1 := by
  refine ⟨ok, R.len, fun i x e => ?_, R.nd, R.fr, fun a h z => ?_, fun b o e n => g b o (R.frm b o e n) n⟩
  · obtain ⟨o, h1, h2⟩ := R.sl i x e
    refine ⟨o, h1, ?_⟩
    cases x with
    | no => trivial
    | im d =>
      obtain ⟨v, h3, h4⟩ := h2
      exact ⟨v, h3, h4.grow badZ R.ok g⟩
    | ow a l =>
      obtain ⟨h3, xs, h4, h5⟩ := h2
      exact ⟨h3, xs, g a _ h4 (R.fr a (own_mem e)).2.1, h5.grow badZ R.ok g⟩
    | od a l =>
      obtain ⟨h3, xs, h4, h5⟩ := h2
      exact ⟨h3, xs, g a _ h4 (R.fr a (own_memG e rfl)).2.1, h5.grow badZ R.ok g⟩
    | ot a l =>
      obtain ⟨h3, xs, h4, h5⟩ := h2
      exact ⟨h3, xs, g a _ h4 (R.fr a (own_memG e rfl)).2.1, h5.grow badZ R.ok g⟩
    | raw v => exact h2
  · by_cases hz : Z.at_ a
    · exact Z.trk ok hz z
    · cases e : H a with
      | none => exact R.btr a h e
      | some o =>
        rw [g a o e hz] at z
        cases z
theorem none_back (ok : Z.ok s1 H1) (g : Gr Z H H1) {p : Addr} (h : H1 p = none) : H p = none := by
  cases e : H p with
  | none => rfl
  | some o =>
    rw [g p o e fun z => Z.trk ok z h] at h
    cases h
theorem RvR.grow (R : Rel Z B0 H0 ρ s1 σ H1) (g : Gr Z H1 H2) (h : RvR Z B0 ρ H H1 v r) : RvR Z B0 ρ H H2 v r := by
  cases r with
  | im d => exact Im.grow badZ R.ok g h
  | bo l =>
    obtain ⟨a, xs, h1, h2, h3, h4⟩ := h
    exact ⟨a, xs, h1, h2, g a _ h3 (R.fr a h1).2.1, h4.grow badZ R.ok g⟩
  | fr l =>
    obtain ⟨p, xs, h1, h2, hz, h3, h4⟩ := h
    exact ⟨p, xs, h1, h2, hz, g p _ h3 hz, h4.grow (fun a z => .inl (badZ a z)) R.ok g⟩
  | rw u => exact h
theorem RvR.back (ok : Z.ok s1 H1) (g : Gr Z H H1) (h : RvR Z B0 ρ H1 H2 v r) : RvR Z B0 ρ H H2 v r := by
  cases r with
  | fr l =>
    obtain ⟨p, xs, h1, h2, hz, h3, h4⟩ := h
    exact ⟨p, xs, h1, none_back ok g h2, hz, h3, h4⟩
  | _ => exact h
end
end Lf
namespace Lf
open PySem PySem.Spec PyProof.Rows L2
/-! ### sorted of a tuple of ints -/
section
variable {prog : Program} {w : World} {A : Around} {E : Value → Shared → Prop} {s : Shared}
theorem collect_tup {l : Addr} {vs : List Value} {Q : List Value → Shared → Prop} (hl : IsTup s.heap l vs.toArray) (hsz : vs.length ≤ sizeLine)
    (h : Q vs { s with heap := (s.heap.push (seqObj "list" #[] 0)).update s.heap.objs.size (Obj.mapSeq (· ++ vs.toArray)) }) : wpAny (model prog w) A (collect (.ref l)) Q E s := by
  obtain ⟨o, ho, hc, n, hd⟩ := hl
  have ho' : (s.heap.push (seqObj "list" #[] 0)).get? l = some o := Heap.get?_push_of_some _ ho
  unfold collect
  refine wpAny_bind (wpAny_runValue (codeAny_builtin entry_proto_collect' ?_))
  show wpAny _ _ (do again (.builtin "list.__iadd__" ⟨[← newList [], .ref l], []⟩)) _ _ s
  refine wpAny_bind (wpAny_newList (wpAny_pure ⟨Code.quiet_builtin _ (by decide +kernel), codeAny_builtin entry_list_iadd' ?_⟩))
  show wpAny _ _ (Builtin.List.listExtendWith (.ref s.heap.objs.size) (.ref l) (.ref s.heap.objs.size)) _ _ { s with heap := s.heap.push (seqObj "list" #[] 0) }
  unfold Builtin.List.listExtendWith
  refine wpAny_bind (wpAny_typeOf (T := "tuple") ⟨o, ho', hc⟩ ?_)
  rw [if_pos (by rw [show (Value.type "tuple" == Value.type "tuple") = true from rfl, Bool.or_true])]
  refine wpAny_bind (listItems_at ho' hd ?_)
  refine wpAny_bind (listItems_at (xs := #[]) (n := 0) (Heap.get?_push_size _ rfl) rfl ?_)
  rw [if_neg (by simp)]
  refine wpAny_bind (listUpdate_at (xs := #[]) (n := 0) (Heap.get?_push_size _ rfl) rfl ?_ (Nat.zero_le _) (by show (#[] ++ vs.toArray).size ≤ sizeLine + 1; simp only [Array.size_append, List.size_toArray, List.length_nil]; omega))
  refine wpAny_pure ?_
  refine wpAny_bind (wpAny_load (get?_update_seq (Heap.get?_push_size _ rfl) _) ?_)
  show wpAny _ _ (pure ((#[] : Array Value) ++ vs.toArray).toList) Q E _
  rw [show ((#[] : Array Value) ++ vs.toArray).toList = vs by simp]
  exact wpAny_pure h
theorem sorted_tupI {l : Addr} {vs : List Value} {ns : List Int} {Q : Value → Shared → Prop} (hl : IsTup s.heap l vs.toArray) (hI : IntsAre vs ns) (hL : vs.length ≤ sizeLine)
    (h : ∀ (out : Array Value) (ns' : List Int), IntsAre out.toList ns' → ns'.Perm ns → ns'.Pairwise (· ≤ ·) → Q (.ref (s.heap.objs.size + 1)) { s with heap := sortedAll s.heap vs out }) :
    wpAny (model prog w) A (call (.builtin "sorted") [.ref l]) Q E s := by
  refine Calls.call_function_entry kind_sorted plain_sorted entry_sorted (args_sorted1 _) ?_
  unfold Builtin.«sorted»
  refine wpAny_bind (m := checkCount "sorted" 1 1 _) (wpAny_pure ?_)
  refine wpAny_bind (collect_tup hl hL ?_)
  refine wpAny_bind (wpAny_newList ?_)
  have hsz : ((s.heap.push (seqObj "list" #[] 0)).update s.heap.objs.size (Obj.mapSeq (· ++ vs.toArray))).objs.size = s.heap.objs.size + 1 := by
    rw [Heap.size_update, size_push']
  have hoL : (((s.heap.push (seqObj "list" #[] 0)).update s.heap.objs.size (Obj.mapSeq (· ++ vs.toArray))).push (seqObj "list" vs.toArray 0)).get? (s.heap.objs.size + 1) = some (seqObj "list" vs.toArray 0) := by
    rw [← hsz]
    exact Heap.get?_push_size _ rfl
  show wpAny _ _ _ _ _ { s with heap := ((s.heap.push (seqObj "list" #[] 0)).update s.heap.objs.size (Obj.mapSeq (· ++ vs.toArray))).push (seqObj "list" vs.toArray 0) }
  rw [hsz]
  refine wpAny_bind (wpAny_holding (wpAny_call_entry slot_list_sort ⟨_, hoL, rfl⟩ entry_list_sort (list_sort_treeAny hoL hI hL fun out ns' a1 a2 a3 => ⟨_, rfl, ?_⟩) (args_list_sort _)))
  exact wpAny_pure ⟨_, rfl, h out ns' a1 a2 a3⟩
end
section
variable {X : Cx}
theorem cr_sortedTI : CallR X (.builtin "sorted") (fun vs H Q => ∃ (a : Addr) (ns : List Int), vs = [V.ref a] ∧ SqT X.K H a (ns.map V.int) ∧ ∀ (ns' : List Int) (p : Addr), ns'.Perm ns → ns'.Pairwise (· ≤ ·) → H p = none → Q (.ref p) (upd H p (.lst (ns'.map V.int)))) := by
  intro pins s σ H vs us Q I r h
  obtain ⟨a, ns, rfl, hs, q⟩ := h
  obtain ⟨its, rv, hl, hz⟩ := I.tuple hs
  rw [Vals.ref1 r]
  have hi := rv.ints
  refine sorted_tupI hl hi (by rw [← rv.length]; exact hz) fun out ns' h1 h2 h3 => ?_
  obtain ⟨ep, he'⟩ := PyProof.Rows.sortedAll_at s.heap its out
  have hlen : (ns'.map V.int).length ≤ sizeLine := by
    rw [List.length_map, h2.length_eq]
    rw [List.length_map] at hz
    exact hz
  exact ⟨.ref _, upd H (s.heap.objs.size + 1) (.lst (ns'.map V.int)), I.laid (t' := s.toks) (fun _ _ => PyProof.Rows.sortedAll_old) (Nat.le_succ _) ⟨hlen, out.toList, ep, vals_of_ints h1, he'⟩, rfl, q ns' _ h2 h3 (I.hok.fresh (Nat.le_succ _))⟩
/-- xs != [], any items -/
theorem op_neEL (hu : X.A.units < cLine) : OpR X (compareOp .NotEq) (fun x y H Q => ∃ (a b : Addr) (xs : List V), x = .ref a ∧ y = .ref b ∧ SqL X.K H a xs ∧ H b = some (.lst []) ∧ Q (.bl (!xs.isEmpty)) H) := by
  intro pins s σ H x y v u Q I rx ry h
  obtain ⟨a, b, xs, rfl, rfl, ha, hb, q⟩ := h
  cases (show v = Value.ref a from rx)
  cases (show u = Value.ref b from ry)
  obtain ⟨its, rv, pl, _⟩ := I.list ha
  obtain ⟨jts, rw', pl2, _⟩ := I.list (SqL.of hb)
  cases rw'
  cases rv with
  | nil => exact SeqAt.RcNeAt.lists (e := fun _ => true) pl.isList pl2.isList rfl hu (fun j j1 _ => absurd j1 (Nat.not_lt_zero j)) _ _ _ _ ⟨.bl _, H, I, rfl, q⟩
  | cons _ _ => exact SeqAt.RcNeAt.lists_lengths pl.isList pl2.isList (by simp) hu _ _ _ _ ⟨.bl _, H, I, rfl, q⟩
end
end Lf
namespace Lf
open PySem PySem.Spec PyProof.Rows L2
abbrev DX (Z : Zn) := Z.S → List Sl → (Rv → Z.S → Prop) → Prop
abbrev DT (Z : Zn) := Z.S → List Sl → (Bool → Z.S → Prop) → Prop
abbrev DA (Z : Zn) := Z.S → List Sl → (List Rv → Z.S → Prop) → Prop
def Rv.D : Rv → Option PyData
  | .im d => some d
  | .bo l => some (.list l)
  | .fr l => some (.list l)
  | .rw _ => none
/-- what may be kept -/
def Rv.st : Rv → Option PyData
  | .im d => some d
  | .fr l => some (.list l)
  | _ => none
def liftE (Z : Zn) (d : DX Z) : TE := fun σ H Q => ∃ (B0 : Addr → Prop) (H0 : Hp) (ρ : List Sl) (s : Z.S) (Qd : Rv → Z.S → Prop), Rel Z B0 H0 ρ s σ H ∧ d s ρ Qd ∧
  ∀ r s' v H', Qd r s' → Rel Z B0 H0 ρ s' σ H' → Gr Z H H' → RvR Z B0 ρ H H' v r → Q v H'
def liftT (Z : Zn) (d : DT Z) : TT := fun σ H Q => ∃ (B0 : Addr → Prop) (H0 : Hp) (ρ : List Sl) (s : Z.S) (Qd : Bool → Z.S → Prop), Rel Z B0 H0 ρ s σ H ∧ d s ρ Qd ∧
  ∀ b s' H', Qd b s' → Rel Z B0 H0 ρ s' σ H' → Gr Z H H' → Q b H'
inductive RvRs (Z : Zn) (B0 : Addr → Prop) (ρ : List Sl) (H H' : Hp) : List V → List Rv → Prop
  | nil : RvRs Z B0 ρ H H' [] []
  | cons {v : V} {vs : List V} {r : Rv} {rs : List Rv} : RvR Z B0 ρ H H' v r → RvRs Z B0 ρ H H' vs rs → RvRs Z B0 ρ H H' (v :: vs) (r :: rs)
def liftA (Z : Zn) (d : DA Z) : TA := fun σ H Q => ∃ (B0 : Addr → Prop) (H0 : Hp) (ρ : List Sl) (s : Z.S) (Qd : List Rv → Z.S → Prop), Rel Z B0 H0 ρ s σ H ∧ d s ρ Qd ∧
  ∀ rs s' vs H', Qd rs s' → Rel Z B0 H0 ρ s' σ H' → Gr Z H H' → RvRs Z B0 ρ H H' vs rs → Q vs H'
abbrev DE (Z : Zn) (X : Cx) (e : Expr) (d : DX Z) : Prop := PE X e (liftE Z d)
abbrev DTs (Z : Zn) (X : Cx) (e : Expr) (d : DT Z) : Prop := PT X e (liftT Z d)
abbrev DAs (Z : Zn) (X : Cx) (es : List Expr) (d : DA Z) : Prop := PA X es (liftA Z d)
section
variable {Z : Zn} {X : Cx} {B0 : Addr → Prop} {H0 H H1 H2 : Hp} {ρ : List Sl} {s s1 s2 : Z.S} {σ : L2.St} {v u : V} {r x y : Rv} {e a b c : Expr} {da db dc : DX Z} {pos p : Pos}
theorem PE.of {t t' : TE} (h : PE X e t) (w : ∀ σ H Q, t' σ H Q → t σ H Q) : PE X e t' := ⟨fun pins s σ H Q I q => h.run pins s σ H Q I (w σ H Q q)⟩
theorem PT.of {t t' : TT} (h : PT X e t) (w : ∀ σ H Q, t' σ H Q → t σ H Q) : PT X e t' := ⟨fun pins s σ H Q I q => h.run pins s σ H Q I (w σ H Q q)⟩
theorem PA.of {es : List Expr} {t t' : TA} (h : PA X es t) (w : ∀ σ H Q, t' σ H Q → t σ H Q) : PA X es t' := ⟨fun po pins s σ H Q I q => h.run po pins s σ H Q I (w σ H Q q)⟩
theorem RvRs.grow (R : Rel Z B0 H0 ρ s1 σ H1) (g : Gr Z H1 H2) : ∀ {vs : List V} {rs : List Rv}, RvRs Z B0 ρ H H1 vs rs → RvRs Z B0 ρ H H2 vs rs
  | _, _, .nil => .nil
  | _, _, .cons h q => .cons (h.grow R g) (q.grow R g)
theorem RvRs.back (ok : Z.ok s1 H1) (g : Gr Z H H1) : ∀ {vs : List V} {rs : List Rv}, RvRs Z B0 ρ H1 H2 vs rs → RvRs Z B0 ρ H H2 vs rs
  | _, _, .nil => .nil
  | _, _, .cons h q => .cons (h.back ok g) (q.back ok g)
theorem Rel.same (R : Rel Z B0 H0 ρ s σ H) (sm : Same H H1) : Rel Z B0 H0 ρ s σ H1 := R.grow (Z.st R.ok (fun a o _ e => sm a o e) (fun b _ e => sm b _ e) (fun b _ _ e => sm b _ e) (fun b _ e => sm b _ e)) (Gr.of sm)
/-! ### names, constants -/
def dVar (i : Nat) : DX Z := fun s ρ Q => match ρ[i]? with
  | some (.im d) => Q (.im d) s
  | some (.ow _ l) => Q (.bo l) s
  | some (.raw v) => Q (.rw v) s
  | _ => False
theorem de_var {i : Nat} {n : Str} (hN : X.N[i]? = some n) (hv : Vis X.env.scope n) (hd : (n == ("__debug__" : Str)) = false := by decide) (hcd : (n == ("__classdict__" : Str)) = false := by decide) : DE Z X (.Name n pos) (dVar i) := by
  refine PE.of (pe_var hN hv hd hcd) fun σ H Q h => ?_
  obtain ⟨B0, H0, ρ, s, Qd, R, hd, hq⟩ := h
  unfold dVar at hd
  cases e : ρ[i]? with
  | none => rw [e] at hd; exact hd.elim
  | some z =>
    obtain ⟨o, h1, h2⟩ := R.sl i z e
    rw [e] at hd
    cases z with
    | no => exact hd.elim
    | im d =>
      obtain ⟨v, rfl, h3⟩ := h2
      exact ⟨v, h1, hq _ s v H hd R Gr.refl h3⟩
    | ow a l =>
      obtain ⟨rfl, xs, h3, h4⟩ := h2
      exact ⟨.ref a, h1, hq _ s _ H hd R Gr.refl ⟨a, xs, own_mem e, rfl, h3, h4⟩⟩
    | od a l => exact hd.elim
    | ot a l => exact hd.elim
    | raw v =>
      cases h2
      exact ⟨v, h1, hq _ s v H hd R Gr.refl rfl⟩
def dC (d : PyData) : DX Z := fun s _ Q => Q (.im d) s
theorem de_c {d : PyData} (h : PE X e (tC v)) (hv : ∀ B H, Im B H v d) : DE Z X e (dC d) := by
  refine PE.of h fun σ H Q ⟨B0, H0, ρ, s, Qd, R, hd, hq⟩ => ?_
  exact hq _ s v H hd R Gr.refl (hv _ _)
theorem de_int {i j pos} : DE Z X (.Constant (.int i) j pos) (dC (.int i)) := de_c pe_int fun _ _ => .int i
theorem de_bl {i j pos} : DE Z X (.Constant (.bool i) j pos) (dC (.bool i)) := de_c pe_bl fun _ _ => .bl i
theorem de_non {j pos} : DE Z X (.Constant .none j pos) (dC .none) := de_c pe_non fun _ _ => .non
theorem de_str {i j pos} : DE Z X (.Constant (.str i) j pos) (dC (.str i)) := de_c pe_str fun _ _ => .str i
/-! ### reading a result -/
theorem ImAll.bot {B : Addr → Prop} {vs : List V} {ds : List PyData} (h : ImAll B H vs ds) : ImAll (fun _ => False) H vs ds := h.mono (fun _ _ e _ => ⟨e, fun z => z⟩) (fun _ _ e => e) (fun _ _ _ e => e)
theorem Im.bot {B : Addr → Prop} {v : V} {d : PyData} (h : Im B H v d) : Im (fun _ => False) H v d := h.mono (fun _ _ e _ => ⟨e, fun z => z⟩) (fun _ _ e => e) (fun _ _ _ e => e)
theorem RvR.rd {d : PyData} (h : RvR Z B0 ρ H H1 v r) (e : r.D = some d) : Im (fun _ => False) H1 v d := by
  cases r with
  | im d' =>
    cases e
    exact Im.bot h
  | bo l =>
    cases e
    obtain ⟨a, xs, _, rfl, h3, h4⟩ := h
    exact .lst h3 (fun z => z) h4.bot
  | fr l =>
    cases e
    obtain ⟨a, xs, rfl, _, _, h3, h4⟩ := h
    exact .lst h3 (fun z => z) h4.bot
  | rw u => cases e
theorem RvR.st {d : PyData} (R : Rel Z B0 H0 ρ s σ H) (h : RvR Z B0 ρ H H1 v r) (e : r.st = some d) : Im (Bad Z B0 ρ) H1 v d := by
  cases r with
  | im d' =>
    cases e
    exact h
  | fr l =>
    cases e
    obtain ⟨a, xs, rfl, h1, h2, h3, h4⟩ := h
    exact .lst h3 (fun z => R.bad z h1) (h4.mono (fun _ _ e n => ⟨e, fun z => n (.inl z)⟩) (fun _ _ e => e) (fun _ _ _ e => e))
  | _ => cases e
/-- a list -/
theorem RvR.lst {l : List PyData} (h : RvR Z B0 ρ H H1 v r) (e : r.D = some (.list l)) : ∃ a xs, v = .ref a ∧ H1 a = some (.lst xs) ∧ ImAll (Bad Z B0 ρ) H1 xs l := by
  cases r with
  | im d' =>
    cases e
    cases h with
    | lst h1 _ h2 => exact ⟨_, _, rfl, h1, h2⟩
  | bo l =>
    cases e
    obtain ⟨a, xs, _, rfl, h3, h4⟩ := h
    exact ⟨a, xs, rfl, h3, h4⟩
  | fr l =>
    cases e
    obtain ⟨a, xs, rfl, _, _, h3, h4⟩ := h
    exact ⟨a, xs, rfl, h3, h4.mono (fun _ _ e n => ⟨e, fun z => n (.inl z)⟩) (fun _ _ e => e) (fun _ _ _ e => e)⟩
  | rw u => cases e
theorem RvR.tup {K : PySem.W.Frag} {l : List PyData} (h : RvR Z B0 ρ H H1 v r) (e : r.D = some (.tuple l)) : ∃ a xs, v = .ref a ∧ SqT K H1 a xs ∧ ImAll (Bad Z B0 ρ) H1 xs l := by
  cases r with
  | im d' =>
    cases e
    cases h with
    | ftp h1 _ h2 => exact ⟨_, _, rfl, .inl (.inr ⟨_, h1⟩), h2⟩
  | bo l => cases e
  | fr l => cases e
  | rw u => cases e
theorem RvR.vI {i : Int} (h : RvR Z B0 ρ H H1 v r) (e : r.D = some (.int i)) : v = .int i := by cases h.rd e; rfl
theorem RvR.vB {i : Bool} (h : RvR Z B0 ρ H H1 v r) (e : r.D = some (.bool i)) : v = .bl i := by cases h.rd e; rfl
theorem RvR.vS {i : Str} (h : RvR Z B0 ρ H H1 v r) (e : r.D = some (.str i)) : v = .str i := by cases h.rd e; rfl
theorem RvR.vN (h : RvR Z B0 ρ H H1 v r) (e : r.D = some .none) : v = .non := by cases h.rd e; rfl
mutual
theorem dp_of {K : PySem.W.Frag} {B : Addr → Prop} : ∀ {v : V} {d : PyData}, PyData.canLay0 d = true → Im B H v d → Dp K H v d
  | _, _, _, .non => .non
  | _, _, _, .bl b => .bl b
  | _, _, _, .int i => .int i
  | _, _, _, .str x => .str x
  | _, _, h, .lst e _ q => .lst (SqL.of e) (dps_of (by simpa [PyData.canLay0] using h) q)
  | _, _, h, .ftp e _ q => .tup (.inl (.inr ⟨_, e⟩)) (dps_of (by simpa [PyData.canLay0] using h) q)
  | _, _, h, .dct _ _ _ => by simp [PyData.canLay0] at h
theorem dps_of {K : PySem.W.Frag} {B : Addr → Prop} : ∀ {vs : List V} {ds : List PyData}, PyData.canLayAll0 ds = true → ImAll B H vs ds → DpAll K H vs ds
  | _, _, _, .nil => .nil
  | _, _, h, .cons q1 q2 => by
    simp only [PyData.canLayAll0, Bool.and_eq_true] at h
    exact .cons (dp_of h.1 q1) (dps_of h.2 q2)
end
/-! ### operators -/
abbrev Op := Rv → Rv → (Rv → Prop) → Prop
def dBin (op : Op) (da db : DX Z) : DX Z := fun s ρ Q => da s ρ fun x s1 => db s1 ρ fun y s2 => op x y fun r => Q r s2
def Op2 (K : PySem.W.Frag) (r : R2) (op : Op) : Prop := ∀ (Z : Zn) (B0 : Addr → Prop) (ρ : List Sl) (s : Z.S) (H0 : Hp) (σ : L2.St) (Ha Hb H : Hp) (v u : V) (x y : Rv) (Qd : Rv → Prop) (Q : VK), Rel Z B0 H0 ρ s σ H → RvR Z B0 ρ Ha H v x → RvR Z B0 ρ Hb H u y → op x y Qd →
  (∀ r' v' H', Qd r' → Same H H' → RvR Z B0 ρ H H' v' r' → Q v' H') → r v u H Q
theorem lift_bin {op : Op} {r : R2} {K : PySem.W.Frag} (h2 : Op2 K r op) {σ : L2.St} {H : Hp} {Q : VK} (h : liftE Z (dBin op da db) σ H Q) : tOp r (liftE Z da) (liftE Z db) σ H Q := by
  obtain ⟨B0, H0, ρ, s, Qd, R, hd, hq⟩ := h
  refine ⟨B0, H0, ρ, s, _, R, hd, fun x s1 v H1 qx R1 g1 r1 => ?_⟩
  refine ⟨B0, H0, ρ, s1, _, R1, qx, fun y s2 u H2 qy R2 g2 r2 => ?_⟩
  exact h2 Z B0 ρ s2 H0 σ _ _ H2 v u x y _ Q R2 (r1.grow R1 g2) r2 qy fun r' v' H' q sm rr => hq r' s2 v' H' q (R2.same sm) (g1.trans (g2.trans (Gr.of sm))) (rr.back R2.ok (g1.trans g2))
theorem Op2.or {K : PySem.W.Frag} {r r' : R2} {op op' : Op} (h : Op2 K r op) (h' : Op2 K r' op') : Op2 K (fun x y H Q => r x y H Q ∨ r' x y H Q) (fun x y Q => op x y Q ∨ op' x y Q) := fun Z B0 ρ s H0 σ Ha Hb H v u x y Qd Q R rx ry q k => by
  rcases q with q | q
  · exact .inl (h Z B0 ρ s H0 σ Ha Hb H v u x y Qd Q R rx ry q k)
  · exact .inr (h' Z B0 ρ s H0 σ Ha Hb H v u x y Qd Q R rx ry q k)
/-- two ints -/
def opI (C : Int → Int → Prop) (g : Int → Int → PyData) : Op := fun x y Q => match x.D, y.D with
  | some (.int i), some (.int j) => C i j ∧ Q (.im (g i j))
  | _, _ => False
theorem opI_get {C : Int → Int → Prop} {g : Int → Int → PyData} {Q : Rv → Prop} (h : opI C g x y Q) : ∃ i j, x.D = some (.int i) ∧ y.D = some (.int j) ∧ C i j ∧ Q (.im (g i j)) := by
  unfold opI at h
  split at h
  · rename_i i j e1 e2
    exact ⟨i, j, e1, e2, h⟩
  · exact h.elim
theorem op2_I {K : PySem.W.Frag} {C : Int → Int → Prop} {g : Int → Int → PyData} {gv : Int → Int → V} (hg : ∀ i j B H, Im B H (gv i j) (g i j)) : Op2 K (rI C gv) (opI C g) := fun Z B0 ρ s H0 σ Ha Hb H v u x y Qd Q R rx ry q k => by
  obtain ⟨i, j, e1, e2, hc, q⟩ := opI_get q
  exact ⟨i, j, rx.vI e1, ry.vI e2, hc, k _ _ _ q (Same.refl H) (hg i j _ _)⟩
def opI0 (g : Int → Int → PyData) : Op := fun x y Q => match x.D, y.D with
  | some (.int i), some (.int j) => Q (.im (g i j))
  | _, _ => False
theorem opI0_get {g : Int → Int → PyData} {Q : Rv → Prop} (h : opI0 g x y Q) : ∃ i j, x.D = some (.int i) ∧ y.D = some (.int j) ∧ Q (.im (g i j)) := by
  unfold opI0 at h
  split at h
  · rename_i i j e1 e2
    exact ⟨i, j, e1, e2, h⟩
  · exact h.elim
theorem op2_I0 {K : PySem.W.Frag} {g : Int → Int → PyData} {gv : Int → Int → V} (hg : ∀ i j B H, Im B H (gv i j) (g i j)) : Op2 K (rI0 gv) (opI0 g) := fun Z B0 ρ s H0 σ Ha Hb H v u x y Qd Q R rx ry q k => by
  obtain ⟨i, j, e1, e2, q⟩ := opI0_get q
  exact ⟨i, j, rx.vI e1, ry.vI e2, k _ _ _ q (Same.refl H) (hg i j _ _)⟩
end
end Lf
namespace Lf
open PySem PySem.Spec PyProof.Rows L2
section
variable {Z : Zn} {X : Cx} {B0 : Addr → Prop} {H0 H H1 H2 : Hp} {ρ : List Sl} {s s1 s2 : Z.S} {σ : L2.St} {v u : V} {r x y : Rv} {e a b c : Expr} {da db dc : DX Z} {pos p : Pos} {K : PySem.W.Frag} {B : Addr → Prop}
theorem ImAll.same {vs : List V} {ds : List PyData} (h : ImAll B H vs ds) (sm : Same H H1) : ImAll B H1 vs ds := h.mono (fun b o e n => ⟨sm b o e, n⟩) (fun b xs e => sm b _ e) (fun b o u e => sm b _ e)
theorem Im.same {d : PyData} (h : Im B H v d) (sm : Same H H1) : Im B H1 v d := h.mono (fun b o e n => ⟨sm b o e, n⟩) (fun b xs e => sm b _ e) (fun b o u e => sm b _ e)
theorem ImAll.fresh {vs : List V} {ds : List PyData} {q : Addr} {o : HO} (h : ImAll B H vs ds) (hq : H q = none) : ImAll (fun a => B a ∨ a = q) (upd H q o) vs ds :=
  h.mono (fun b o e n => ⟨by rw [upd_ne (ne_of_none e hq)]; exact e, fun z => z.elim n (ne_of_none e hq)⟩) (fun b xs e => by rw [upd_ne (ne_of_none e hq)]; exact e) (fun b o u e => by rw [upd_ne (ne_of_none e hq)]; exact e)
/-- a new list -/
theorem Rel.newL (R : Rel Z B0 H0 ρ s σ H) {q : Addr} {xs : List V} {l : List PyData} (hq : H q = none) (h : ImAll (Bad Z B0 ρ) H xs l) : RvR Z B0 ρ H (upd H q (.lst xs)) (.ref q) (.fr l) :=
  ⟨q, xs, rfl, hq, fun z => Z.trk R.ok z hq, upd_same, h.fresh hq⟩
theorem newT {q : Addr} {xs : List V} {l : List PyData} {o : Obj} (hq : H q = none) (tk : Tk o) (h : ImAll (Bad Z B0 ρ) H xs l) : RvR Z B0 ρ H (upd H q (.frz o (.tup xs))) (.ref q) (.im (.tuple l)) := Im.ftp upd_same tk (h.same (same_new hq))
theorem smB {n : Nat} (h : n ≤ 1000000) : n ≤ sizeLine := by rw [sizeLine_eq]; omega
/-! ### + -/
def opAdd : Op := fun x y Q => match x.D, y.D with
  | some (.int i), some (.int j) => Q (.im (.int (i + j)))
  | some (.list l), some (.list m) => l.length + m.length ≤ 1000000 ∧ Q (.fr (l ++ m))
  | some (.tuple l), some (.tuple m) => l.length + m.length ≤ 1000000 ∧ Q (.im (.tuple (l ++ m)))
  | some (.str i), some (.str j) => i.length + j.length ≤ 1000000 ∧ Q (.im (.str (i ++ j)))
  | _, _ => False
theorem de_add (ha : DE Z X a da) (hb : DE Z X b db) : DE Z X (.BinOp a .Add b pos) (dBin opAdd da db) := by
  refine PE.of (pe_op ((op_add.or op_cat).or (op_catK.or op_add_str)) ha hb) fun σ H Q h => lift_bin (K := X.K) ?_ h
  intro Z B0 ρ s H0 σ Ha Hb H v u x y Qd Q R rx ry q k
  unfold opAdd at q
  split at q
  · rename_i i j e1 e2
    exact .inl (.inl ⟨i, j, rx.vI e1, ry.vI e2, k _ _ _ q (Same.refl H) (Im.int _)⟩)
  · rename_i l m e1 e2
    obtain ⟨a, xs, rfl, h1, h2⟩ := rx.lst e1
    obtain ⟨b, ys, rfl, h3, h4⟩ := ry.lst e2
    refine .inl (.inr ⟨a, b, xs, ys, rfl, rfl, h1, h3, by rw [h2.length, h4.length]; exact smB q.1, fun p hp => k _ _ _ q.2 (same_new hp) (R.newL hp (h2.append h4))⟩)
  · rename_i l m e1 e2
    obtain ⟨a, xs, rfl, h1, h2⟩ := rx.tup (K := X.K) e1
    obtain ⟨b, ys, rfl, h3, h4⟩ := ry.tup (K := X.K) e2
    refine .inr (.inl ⟨a, b, xs, ys, rfl, rfl, h1, h3, by rw [h2.length, h4.length]; exact smB q.1, fun e => ?_, fun e => ?_, fun p o hp tk => k _ _ _ q.2 (same_new hp) (newT hp tk (h2.append h4))⟩)
    · subst e
      have e : m = [] := List.length_eq_zero_iff.mp h4.length.symm
      subst e
      rw [List.append_nil] at q
      refine k _ _ _ q.2 (Same.refl H) ?_
      cases x with
      | im d => cases e1; exact rx
      | _ => cases e1
    · subst e
      have e : l = [] := List.length_eq_zero_iff.mp h2.length.symm
      subst e
      rw [List.nil_append] at q
      refine k _ _ _ q.2 (Same.refl H) ?_
      cases y with
      | im d => cases e2; exact ry
      | _ => cases e2
  · rename_i i j e1 e2
    exact .inr (.inr ⟨i, j, rx.vS e1, ry.vS e2, smB q.1, k _ _ _ q.2 (Same.refl H) (Im.str _)⟩)
  · exact q.elim
/-! ### ints -/
abbrev opSub : Op := opI0 fun i j => .int (i - j)
theorem de_sub (ha : DE Z X a da) (hb : DE Z X b db) : DE Z X (.BinOp a .Sub b pos) (dBin opSub da db) := PE.of (pe_op op_sub ha hb) fun σ H Q h => lift_bin (K := X.K) (op2_I0 fun _ _ _ _ => .int _) h
/-- // by a positive number below 2 ^ 9000 -/
abbrev opDiv : Op := opI CDivW fun i j => .int (i / j)
theorem de_div (ha : DE Z X a da) (hb : DE Z X b db) : DE Z X (.BinOp a .FloorDiv b pos) (dBin opDiv da db) := PE.of (pe_op op_fdivW ha hb) fun σ H Q h => lift_bin (K := X.K) (op2_I fun _ _ _ _ => .int _) h
abbrev opMod : Op := opI (fun _ j => 0 < j) fun i j => .int (i % j)
theorem de_mod (ha : DE Z X a da) (hb : DE Z X b db) : DE Z X (.BinOp a .Mod b pos) (dBin opMod da db) := PE.of (pe_op op_mod ha hb) fun σ H Q h => lift_bin (K := X.K) (op2_I fun _ _ _ _ => .int _) h
abbrev opPow : Op := opI CPow fun i j => .int (i ^ j.toNat)
theorem de_pow (ha : DE Z X a da) (hb : DE Z X b db) : DE Z X (.BinOp a .Pow b pos) (dBin opPow da db) := PE.of (pe_op op_pow ha hb) fun σ H Q h => lift_bin (K := X.K) (op2_I fun _ _ _ _ => .int _) h
abbrev opShl : Op := opI CPow fun i j => .int (i * 2 ^ j.toNat)
theorem de_shl (ha : DE Z X a da) (hb : DE Z X b db) : DE Z X (.BinOp a .LShift b pos) (dBin opShl da db) := PE.of (pe_op op_shl ha hb) fun σ H Q h => lift_bin (K := X.K) (op2_I fun _ _ _ _ => .int _) h
abbrev opBand : Op := opI0 fun i j => .int (Builtin.bitAnd i j)
theorem de_band (ha : DE Z X a da) (hb : DE Z X b db) : DE Z X (.BinOp a .BitAnd b pos) (dBin opBand da db) := PE.of (pe_op op_and ha hb) fun σ H Q h => lift_bin (K := X.K) (op2_I0 fun _ _ _ _ => .int _) h
/-! ### * -/
def opMul : Op := fun x y Q => match x.D, y.D with
  | some (.int i), some (.int j) => CMulW i j ∧ Q (.im (.int (i * j)))
  | some (.list l), some (.int k) => -(2 ^ 63) ≤ k ∧ k < 2 ^ 63 ∧ l.length * k.toNat ≤ 1000000 ∧ Q (.fr (List.replicate k.toNat l).flatten)
  | _, _ => False
theorem ImAll.rep {vs : List V} {ds : List PyData} (h : ImAll B H vs ds) : ∀ n : Nat, ImAll B H (List.replicate n vs).flatten (List.replicate n ds).flatten
  | 0 => .nil
  | n + 1 => by
    rw [List.replicate_succ, List.replicate_succ, List.flatten_cons, List.flatten_cons]
    exact h.append (h.rep n)
theorem de_mul (ha : DE Z X a da) (hb : DE Z X b db) : DE Z X (.BinOp a .Mult b pos) (dBin opMul da db) := by
  refine PE.of (pe_op (op_mulW.or op_rep) ha hb) fun σ H Q h => lift_bin (K := X.K) ?_ h
  intro Z B0 ρ s H0 σ Ha Hb H v u x y Qd Q R rx ry q k
  unfold opMul at q
  split at q
  · rename_i i j e1 e2
    exact .inl ⟨i, j, rx.vI e1, ry.vI e2, q.1, k _ _ _ q.2 (Same.refl H) (Im.int _)⟩
  · rename_i l m e1 e2
    obtain ⟨a, xs, rfl, h1, h2⟩ := rx.lst e1
    exact .inr ⟨a, m, xs, rfl, ry.vI e2, h1, q.1, q.2.1, by rw [h2.length]; exact smB q.2.2.1, fun p hp => k _ _ _ q.2.2.2 (same_new hp) (R.newL hp (h2.rep _))⟩
  · exact q.elim
/-! ### comparisons -/
def cmpI (g : Int → Int → Bool) : Op := opI0 fun i j => .bool (g i j)
theorem de_lt (ha : DE Z X a da) (hb : DE Z X b db) : DE Z X (.Compare a [.Lt] [b] pos) (dBin (cmpI fun i j => decide (i < j)) da db) := PE.of (pe_cmpR op_lt ha hb (nomark _)) fun σ H Q h => lift_bin (K := X.K) (op2_I0 fun _ _ _ _ => .bl _) h
theorem de_le (ha : DE Z X a da) (hb : DE Z X b db) : DE Z X (.Compare a [.LtE] [b] pos) (dBin (cmpI fun i j => decide (i ≤ j)) da db) := PE.of (pe_cmpR op_le ha hb (nomark _)) fun σ H Q h => lift_bin (K := X.K) (op2_I0 fun _ _ _ _ => .bl _) h
theorem de_gt (ha : DE Z X a da) (hb : DE Z X b db) : DE Z X (.Compare a [.Gt] [b] pos) (dBin (cmpI fun i j => decide (j < i)) da db) := PE.of (pe_cmpR op_gt ha hb (nomark _)) fun σ H Q h => lift_bin (K := X.K) (op2_I0 fun _ _ _ _ => .bl _) h
theorem de_ge (ha : DE Z X a da) (hb : DE Z X b db) : DE Z X (.Compare a [.GtE] [b] pos) (dBin (cmpI fun i j => decide (j ≤ i)) da db) := PE.of (pe_cmpR op_ge ha hb (nomark _)) fun σ H Q h => lift_bin (K := X.K) (op2_I0 fun _ _ _ _ => .bl _) h
/-- == of data -/
def opEq : Op := fun x y Q => match x.D, y.D with
  | some (.int i), some (.int j) => Q (.im (.bool (decide (i = j))))
  | some (.str i), some (.str j) => Q (.im (.bool (decide (i = j))))
  | some d, some e => SeqAt.shaped d = true ∧ SeqAt.shaped e = true ∧ Q (.im (.bool (PyData.eqv d e)))
  | _, _ => False
def opNe : Op := fun x y Q => match x.D, y.D with
  | some (.int i), some (.int j) => Q (.im (.bool (!decide (i = j))))
  | some (.str i), some (.str j) => Q (.im (.bool (!decide (i = j))))
  | some d, some e => SeqAt.shaped d = true ∧ SeqAt.shaped e = true ∧ Q (.im (.bool (!PyData.eqv d e)))
  | _, _ => False
theorem decI {i j : Int} : decide (V.int i = V.int j) = decide (i = j) := decide_eq_decide.mpr ⟨fun z => V.int.inj z, fun z => by rw [z]⟩
theorem decS {i j : Str} : decide (V.str i = V.str j) = decide (i = j) := decide_eq_decide.mpr ⟨fun z => V.str.inj z, fun z => by rw [z]⟩
theorem de_eq (hu : X.A.units + 65 < cLine) (ha : DE Z X a da) (hb : DE Z X b db) : DE Z X (.Compare a [.Eq] [b] pos) (dBin opEq da db) := by
  refine PE.of (pe_cmpR (op_eq.or (op_eqD (by omega))) ha hb (nomark _)) fun σ H Q h => lift_bin (K := X.K) ?_ h
  intro Z B0 ρ s H0 σ Ha Hb H v u x y Qd Q R rx ry q k
  unfold opEq at q
  split at q
  · rename_i i j e1 e2
    rw [rx.vI e1, ry.vI e2]
    exact .inl ⟨rfl, by rw [decI]; exact k _ _ _ q (Same.refl H) (Im.bl _)⟩
  · rename_i i j e1 e2
    rw [rx.vS e1, ry.vS e2]
    exact .inl ⟨rfl, by rw [decS]; exact k _ _ _ q (Same.refl H) (Im.bl _)⟩
  · rename_i d e _ _ e1 e2
    exact .inr ⟨d, e, dp_of (SeqAt.canLay_of_shaped q.1) (rx.rd e1), dp_of (SeqAt.canLay_of_shaped q.2.1) (ry.rd e2), q.1, q.2.1, k _ _ _ q.2.2 (Same.refl H) (Im.bl _)⟩
  · exact q.elim
theorem de_ne (hu : X.A.units + 65 < cLine) (ha : DE Z X a da) (hb : DE Z X b db) : DE Z X (.Compare a [.NotEq] [b] pos) (dBin opNe da db) := by
  refine PE.of (pe_cmpR (op_ne.or (op_neD (by omega))) ha hb (nomark _)) fun σ H Q h => lift_bin (K := X.K) ?_ h
  intro Z B0 ρ s H0 σ Ha Hb H v u x y Qd Q R rx ry q k
  unfold opNe at q
  split at q
  · rename_i i j e1 e2
    rw [rx.vI e1, ry.vI e2]
    exact .inl ⟨rfl, by rw [decI]; exact k _ _ _ q (Same.refl H) (Im.bl _)⟩
  · rename_i i j e1 e2
    rw [rx.vS e1, ry.vS e2]
    exact .inl ⟨rfl, by rw [decS]; exact k _ _ _ q (Same.refl H) (Im.bl _)⟩
  · rename_i d e _ _ e1 e2
    exact .inr ⟨d, e, dp_of (SeqAt.canLay_of_shaped q.1) (rx.rd e1), dp_of (SeqAt.canLay_of_shaped q.2.1) (ry.rd e2), q.1, q.2.1, k _ _ _ q.2.2 (Same.refl H) (Im.bl _)⟩
  · exact q.elim
/-- x in a list or a tuple -/
def opIn (neg : Bool) : Op := fun x y Q => match x.D, y.D with
  | some d, some (.list l) => SeqAt.shaped d = true ∧ SeqAt.shaped (.list l) = true ∧ Q (.im (.bool (neg != l.any fun z => PyData.eqv z d)))
  | some d, some (.tuple l) => SeqAt.shaped d = true ∧ SeqAt.shaped (.list l) = true ∧ Q (.im (.bool (neg != l.any fun z => PyData.eqv z d)))
  | _, _ => False
theorem op_notInDT {X : Cx} (hu : X.A.units + 65 < cLine) : OpR X (compareOp .NotIn) (fun x y H Q => ∃ d ds, Dp X.K H x d ∧ Dp X.K H y (.tuple ds) ∧ SeqAt.shaped d = true ∧ SeqAt.shaped (.tuple ds) = true ∧ Q (.bl (!ds.any fun z => PyData.eqv z d)) H) := by
  intro pins s σ H x y v u Q I rx ry h
  obtain ⟨d, ds, h1, h2, h3, h4, q⟩ := h
  obtain ⟨as, ra⟩ := Dp.reads I _ _ _ h1 rx
  obtain ⟨bs, rb⟩ := Dp.reads I _ _ _ h2 ry
  exact SeqAt.notIn_tuple_reads rb ra (SeqAt.canLay_of_shaped h4) (SeqAt.canLay_of_shaped h3) (room_in_shaped h3 hu) ⟨.bl _, H, I, rfl, q⟩
theorem shT (l : List PyData) : SeqAt.shaped (.tuple l) = SeqAt.shaped (.list l) := rfl
theorem de_in (hu : X.A.units + 65 < cLine) (ha : DE Z X a da) (hb : DE Z X b db) (hm : behindInMarks .In b = false := by rfl) : DE Z X (.Compare a [.In] [b] pos) (dBin (opIn false) da db) := by
  refine PE.of (pe_cmpR ((op_inD hu).or (op_inDT hu)) ha hb hm) fun σ H Q h => lift_bin (K := X.K) ?_ h
  intro Z B0 ρ s H0 σ Ha Hb H v u x y Qd Q R rx ry q k
  unfold opIn at q
  split at q
  · rename_i d l e1 e2
    refine .inl ⟨d, l, dp_of (SeqAt.canLay_of_shaped q.1) (rx.rd e1), dp_of (SeqAt.canLay_of_shaped q.2.1) (ry.rd e2), q.1, q.2.1, ?_⟩
    refine k _ _ _ q.2.2 (Same.refl H) ?_
    rw [Bool.false_bne]
    exact Im.bl _
  · rename_i d l e1 e2
    refine .inr ⟨d, l, dp_of (SeqAt.canLay_of_shaped q.1) (rx.rd e1), dp_of (SeqAt.canLay_of_shaped q.2.1) (ry.rd e2), q.1, q.2.1, ?_⟩
    refine k _ _ _ q.2.2 (Same.refl H) ?_
    rw [Bool.false_bne]
    exact Im.bl _
  · exact q.elim
theorem de_notin (hu : X.A.units + 65 < cLine) (ha : DE Z X a da) (hb : DE Z X b db) (hm : behindInMarks .NotIn b = false := by rfl) : DE Z X (.Compare a [.NotIn] [b] pos) (dBin (opIn true) da db) := by
  refine PE.of (pe_cmpR ((op_notInD hu).or (op_notInDT hu)) ha hb hm) fun σ H Q h => lift_bin (K := X.K) ?_ h
  intro Z B0 ρ s H0 σ Ha Hb H v u x y Qd Q R rx ry q k
  unfold opIn at q
  split at q
  · rename_i d l e1 e2
    refine .inl ⟨d, l, dp_of (SeqAt.canLay_of_shaped q.1) (rx.rd e1), dp_of (SeqAt.canLay_of_shaped q.2.1) (ry.rd e2), q.1, q.2.1, ?_⟩
    refine k _ _ _ q.2.2 (Same.refl H) ?_
    rw [Bool.true_bne]
    exact Im.bl _
  · rename_i d l e1 e2
    refine .inr ⟨d, l, dp_of (SeqAt.canLay_of_shaped q.1) (rx.rd e1), dp_of (SeqAt.canLay_of_shaped q.2.1) (ry.rd e2), q.1, q.2.1, ?_⟩
    refine k _ _ _ q.2.2 (Same.refl H) ?_
    rw [Bool.true_bne]
    exact Im.bl _
  · exact q.elim
/-! ### x[i] -/
def opIx : Op := fun x y Q => match x.D, y.D with
  | some (.list l), some (.int i) => ∃ d, atI l i = some d ∧ Q (.im d)
  | some (.tuple l), some (.int i) => ∃ d, atI l i = some d ∧ Q (.im d)
  | _, _ => False
theorem ImAll.atI {vs : List V} {ds : List PyData} {i : Int} {d : PyData} (h : ImAll B H vs ds) (e : L2.atI ds i = some d) : ∃ v, L2.atI vs i = some v ∧ Im B H v d := by
  unfold L2.atI at e ⊢
  rw [h.length]
  cases z : ixN ds.length i with
  | none => rw [z] at e; cases e
  | some j =>
    rw [z] at e
    exact h.get (i := j) e
theorem IxR.or {r r' : R2} (h : IxR X r) (h' : IxR X r') : IxR X (fun x y H Q => r x y H Q ∨ r' x y H Q) := by
  intro value slice pins s σ H x y v u Q I rx ry q hs
  rcases q with q | q
  · exact h value slice pins s σ H x y v u Q I rx ry q hs
  · exact h' value slice pins s σ H x y v u Q I rx ry q hs
theorem de_ix (ha : DE Z X a da) (hb : DE Z X b db) (hs : PlainIx b := by exact fun _ _ => rfl) : DE Z X (.Subscript a b pos) (dBin opIx da db) := by
  refine PE.of (pe_ix (IxR.or ix_list ix_tup) ha hb hs) fun σ H Q h => lift_bin (K := X.K) ?_ h
  intro Z B0 ρ s H0 σ Ha Hb H v u x y Qd Q R rx ry q k
  unfold opIx at q
  split at q
  · rename_i l i e1 e2
    obtain ⟨d, hd, q⟩ := q
    obtain ⟨a, xs, rfl, h1, h2⟩ := rx.lst e1
    obtain ⟨w, hw, h3⟩ := h2.atI hd
    exact .inl ⟨a, xs, i, w, rfl, ry.vI e2, SqL.of h1, hw, k _ _ _ q (Same.refl H) h3⟩
  · rename_i l i e1 e2
    obtain ⟨d, hd, q⟩ := q
    obtain ⟨a, xs, rfl, h1, h2⟩ := rx.tup (K := X.K) e1
    obtain ⟨w, hw, h3⟩ := h2.atI hd
    exact .inr ⟨a, xs, i, w, rfl, ry.vI e2, h1, hw, k _ _ _ q (Same.refl H) h3⟩
  · exact q.elim
end
end Lf
namespace Lf
open PySem PySem.Spec PyProof.Rows L2
section
variable {Z : Zn} {X : Cx} {B0 : Addr → Prop} {H0 H H1 H2 : Hp} {ρ : List Sl} {s s1 s2 : Z.S} {σ : L2.St} {v u : V} {r x y : Rv} {e a b c : Expr} {es : List Expr} {de da db dc : DX Z} {das : DA Z} {pos p : Pos} {K : PySem.W.Frag} {B : Addr → Prop}
/-! ### arguments -/
def dANil : DA Z := fun s _ Q => Q [] s
def dACons (de : DX Z) (da : DA Z) : DA Z := fun s ρ Q => de s ρ fun r s1 => da s1 ρ fun rs s2 => Q (r :: rs) s2
theorem da_nil : DAs Z X [] dANil := PA.of pa_nil fun σ H Q ⟨B0, H0, ρ, s, Qd, R, hd, hq⟩ => hq [] s [] H hd R Gr.refl .nil
theorem da_cons (he : DE Z X e de) (ha : DAs Z X es das) (hs : starEach (e :: es) X.env = (false, eval e X.env) :: starEach es X.env := by rfl) : DAs Z X (e :: es) (dACons de das) := by
  refine PA.of (pa_cons he ha hs) fun σ H Q ⟨B0, H0, ρ, s, Qd, R, hd, hq⟩ => ?_
  refine ⟨B0, H0, ρ, s, _, R, hd, fun r s1 v H1 qx R1 g1 r1 => ?_⟩
  refine ⟨B0, H0, ρ, s1, _, R1, qx, fun rs s2 vs H2 qy R2 g2 r2 => ?_⟩
  exact hq _ s2 _ H2 qy R2 (g1.trans g2) (.cons (r1.grow R1 g2) (r2.back R1.ok g1))
/-- what is kept -/
def sts : List Rv → Option (List PyData)
  | [] => some []
  | r :: rs => match r.st, sts rs with
    | some d, some ds => some (d :: ds)
    | _, _ => none
theorem sts_get {r : Rv} {rs : List Rv} {ds : List PyData} (h : sts (r :: rs) = some ds) : ∃ d es, r.st = some d ∧ sts rs = some es ∧ ds = d :: es := by
  unfold sts at h
  split at h
  · rename_i d es h1 h2
    cases h
    exact ⟨d, es, h1, h2, rfl⟩
  · cases h
theorem RvRs.st (R : Rel Z B0 H0 ρ s σ H) : ∀ {vs : List V} {rs : List Rv} {ds : List PyData}, RvRs Z B0 ρ H H1 vs rs → sts rs = some ds → ImAll (Bad Z B0 ρ) H1 vs ds
  | _, _, _, .nil, h => by cases h; exact .nil
  | _, _, _, .cons q1 q2, h => by
    obtain ⟨d, es, h1, h2, rfl⟩ := sts_get h
    exact .cons (RvR.st R q1 h1) (RvRs.st R q2 h2)
def dLst (da : DA Z) : DX Z := fun s ρ Q => da s ρ fun rs s1 => ∃ ds, sts rs = some ds ∧ ds.length ≤ 1000000 ∧ Q (.fr ds) s1
def dTup (da : DA Z) : DX Z := fun s ρ Q => da s ρ fun rs s1 => ∃ ds, sts rs = some ds ∧ ds.length ≤ 1000000 ∧ Q (.im (.tuple ds)) s1
theorem de_lst (ha : DAs Z X es das) : DE Z X (.List es pos) (dLst das) := by
  refine PE.of (pe_lst ha) fun σ H Q ⟨B0, H0, ρ, s, Qd, R, hd, hq⟩ => ?_
  refine ⟨B0, H0, ρ, s, _, R, hd, fun rs s1 vs H1 qx R1 g1 r1 => ?_⟩
  obtain ⟨ds, h1, h2, q⟩ := qx
  have im := RvRs.st R r1 h1
  refine ⟨by rw [im.length]; exact smB h2, fun p hp => hq _ s1 _ _ q (R1.same (same_new hp)) (g1.trans (Gr.of (same_new hp))) ((R1.newL hp im).back R1.ok g1)⟩
theorem de_tup {x1} (ha : DAs Z X es das) : DE Z X (.Tuple es x1 pos) (dTup das) := by
  refine PE.of (pe_tupK ha) fun σ H Q ⟨B0, H0, ρ, s, Qd, R, hd, hq⟩ => ?_
  refine ⟨B0, H0, ρ, s, _, R, hd, fun rs s1 vs H1 qx R1 g1 r1 => ?_⟩
  obtain ⟨ds, h1, h2, q⟩ := qx
  have im := RvRs.st R r1 h1
  exact ⟨by rw [im.length]; exact smB h2, fun p o hp tk => hq _ s1 _ _ q (R1.same (same_new hp)) (g1.trans (Gr.of (same_new hp))) (newT hp tk im)⟩
/-! ### calls of built-ins -/
abbrev Cb := List Rv → (Rv → Prop) → Prop
def dCB (f : Cb) (da : DA Z) : DX Z := fun s ρ Q => da s ρ fun rs s1 => f rs fun r => Q r s1
def Cb2 (rr : List V → Hp → VK → Prop) (f : Cb) : Prop := ∀ (Z : Zn) (B0 : Addr → Prop) (ρ : List Sl) (s : Z.S) (H0 : Hp) (σ : L2.St) (Ha H : Hp) (vs : List V) (xs : List Rv) (Qd : Rv → Prop) (Q : VK), Rel Z B0 H0 ρ s σ H → RvRs Z B0 ρ Ha H vs xs → f xs Qd →
  (∀ r' v' H', Qd r' → Same H H' → RvR Z B0 ρ H H' v' r' → Q v' H') → rr vs H Q
theorem lift_cb {rr : List V → Hp → VK → Prop} {f : Cb} (h2 : Cb2 rr f) {σ : L2.St} {H : Hp} {Q : VK} (h : liftE Z (dCB f das) σ H Q) : tCB rr (liftA Z das) σ H Q := by
  obtain ⟨B0, H0, ρ, s, Qd, R, hd, hq⟩ := h
  refine ⟨B0, H0, ρ, s, _, R, hd, fun rs s1 vs H1 qx R1 g1 r1 => ?_⟩
  exact h2 Z B0 ρ s1 H0 σ _ H1 vs rs _ Q R1 r1 qx fun r' v' H' q sm rr => hq r' s1 v' H' q (R1.same sm) (g1.trans (Gr.of sm)) (rr.back R1.ok g1)
theorem CallR.or {f : Value} {r r' : List V → Hp → VK → Prop} (h : CallR X f r) (h' : CallR X f r') : CallR X f (fun xs H Q => r xs H Q ∨ r' xs H Q) := by
  intro pins s σ H xs us Q I rs q
  rcases q with q | q
  · exact h pins s σ H xs us Q I rs q
  · exact h' pins s σ H xs us Q I rs q
theorem RvRs.one {vs : List V} {x : Rv} (h : RvRs Z B0 ρ H H1 vs [x]) : ∃ v, vs = [v] ∧ RvR Z B0 ρ H H1 v x := by
  cases h with
  | cons q1 q2 =>
    cases q2
    exact ⟨_, rfl, q1⟩
theorem RvRs.two {vs : List V} {x y : Rv} (h : RvRs Z B0 ρ H H1 vs [x, y]) : ∃ v u, vs = [v, u] ∧ RvR Z B0 ρ H H1 v x ∧ RvR Z B0 ρ H H1 u y := by
  cases h with
  | cons q1 q2 =>
    obtain ⟨u, rfl, q3⟩ := q2.one
    exact ⟨_, u, rfl, q1, q3⟩
def opLen : Cb := fun rs Q => match rs with
  | [x] => match x.D with
    | some (.list l) => Q (.im (.int (l.length : Nat)))
    | some (.tuple l) => Q (.im (.int (l.length : Nat)))
    | some (.str z) => z.length ≤ 1000000 ∧ Q (.im (.int (z.length : Nat)))
    | _ => False
  | _ => False
theorem de_len (hg : Gl X "len") (hm : X.mg "len" = none) (ha : DAs Z X (e :: es) das) (he : starEach (e :: es) X.env = (false, eval e X.env) :: starEach es X.env := by rfl) (hpl : (backTo pos (starEach es X.env)).any (·.1) = false := by rfl) : DE Z X (.Call (.Name "len" p) (e :: es) [] pos) (dCB opLen das) := by
  refine PE.of (pe_callB call_len hg hm PySem.boot_len ha (by decide) (by decide) he hpl) fun σ H Q h => lift_cb ?_ h
  intro Z B0 ρ s H0 σ Ha H vs xs Qd Q R rr q k
  unfold opLen at q
  split at q
  · rename_i x
    obtain ⟨v, rfl, r1⟩ := rr.one
    split at q
    · rename_i l e1
      obtain ⟨a, ys, rfl, h1, h2⟩ := r1.lst e1
      exact ⟨_, _, rfl, .inl ⟨ys, SqL.of h1, rfl⟩, by rw [h2.length]; exact k _ _ _ q (Same.refl H) (Im.int _)⟩
    · rename_i l e1
      obtain ⟨a, ys, rfl, h1, h2⟩ := r1.tup (K := X.K) e1
      exact ⟨_, _, rfl, .inr ⟨ys, h1, rfl⟩, by rw [h2.length]; exact k _ _ _ q (Same.refl H) (Im.int _)⟩
    · rename_i z e1
      rw [r1.vS e1]
      exact ⟨_, _, rfl, ⟨smB q.1, rfl⟩, k _ _ _ q.2 (Same.refl H) (Im.int _)⟩
    · exact q.elim
  · exact q.elim
def opAbs : Cb := fun rs Q => match rs with
  | [x] => match x.D with
    | some (.int i) => Q (.im (.int (if i < 0 then -i else i)))
    | _ => False
  | _ => False
theorem de_abs (hg : Gl X "abs") (hm : X.mg "abs" = none) (ha : DAs Z X (e :: es) das) (he : starEach (e :: es) X.env = (false, eval e X.env) :: starEach es X.env := by rfl) (hpl : (backTo pos (starEach es X.env)).any (·.1) = false := by rfl) : DE Z X (.Call (.Name "abs" p) (e :: es) [] pos) (dCB opAbs das) := by
  refine PE.of (pe_callB call_abs hg hm (by decide +kernel) ha (by decide) (by decide) he hpl) fun σ H Q h => lift_cb ?_ h
  intro Z B0 ρ s H0 σ Ha H vs xs Qd Q R rr q k
  unfold opAbs at q
  split at q
  · obtain ⟨v, rfl, r1⟩ := rr.one
    split at q
    · rename_i i e1
      rw [r1.vI e1]
      exact ⟨i, rfl, k _ _ _ q (Same.refl H) (Im.int _)⟩
    · exact q.elim
  · exact q.elim
theorem nums_of {vs : List V} : ∀ {ns : List Int}, ImAll B H vs (ns.map PyData.int) → vs = ns.map V.int := fun {ns} h => by
  induction ns generalizing vs with
  | nil => cases h; rfl
  | cons n ns ih =>
    cases h with
    | cons q1 q2 =>
      cases q1
      rw [ih q2]
      rfl
theorem im_nums : ∀ ns : List Int, ImAll B H (ns.map V.int) (ns.map PyData.int)
  | [] => .nil
  | n :: ns => .cons (.int n) (im_nums ns)
/-- max, min of a list of ints, a tuple of ints, of two ints -/
def opMax : Cb := fun rs Q => match rs with
  | [x] => match x.D with
    | some (.list l) => ∃ ns : List Int, l = ns.map .int ∧ 0 < ns.length ∧ ∀ m, m ∈ ns → (∀ y ∈ ns, y ≤ m) → Q (.im (.int m))
    | some (.tuple l) => ∃ ns : List Int, l = ns.map .int ∧ 0 < ns.length ∧ ∀ m, m ∈ ns → (∀ y ∈ ns, y ≤ m) → Q (.im (.int m))
    | _ => False
  | [x, y] => match x.D, y.D with
    | some (.int i), some (.int j) => Q (.im (.int (if j > i then j else i)))
    | _, _ => False
  | _ => False
def opMin : Cb := fun rs Q => match rs with
  | [x] => match x.D with
    | some (.list l) => ∃ ns : List Int, l = ns.map .int ∧ 0 < ns.length ∧ ∀ m, m ∈ ns → (∀ y ∈ ns, m ≤ y) → Q (.im (.int m))
    | _ => False
  | [x, y] => match x.D, y.D with
    | some (.int i), some (.int j) => Q (.im (.int (if j < i then j else i)))
    | _, _ => False
  | _ => False
theorem foldl_max (n : Int) : ∀ ns : List Int, ns.foldl max n ∈ n :: ns ∧ ∀ y ∈ n :: ns, y ≤ ns.foldl max n := fun ns => by
  induction ns generalizing n with
  | nil => exact ⟨List.mem_cons_self, fun y hy => by rw [List.mem_singleton.mp hy]; exact Int.le_refl _⟩
  | cons m ns ih =>
    rw [List.foldl_cons]
    obtain ⟨h1, h2⟩ := ih (max n m)
    refine ⟨?_, fun y hy => ?_⟩
    · rcases List.mem_cons.mp h1 with h | h
      · rw [h]
        rcases Int.le_total n m with z | z
        · rw [Int.max_eq_right z]; simp
        · rw [Int.max_eq_left z]; simp
      · exact List.mem_cons_of_mem _ (List.mem_cons_of_mem _ h)
    · have h3 := h2 (max n m) List.mem_cons_self
      rcases List.mem_cons.mp hy with rfl | hy
      · exact Int.le_trans (Int.le_max_left _ _) h3
      · rcases List.mem_cons.mp hy with rfl | hy
        · exact Int.le_trans (Int.le_max_right _ _) h3
        · exact h2 y (List.mem_cons_of_mem _ hy)
theorem alike_ints : ∀ ns : List Int, PySem.W.AlikeAll (ns.map PyData.int) := fun ns => by
  refine ⟨fun x hx y hy => ?_, fun x hx => ?_⟩
  · obtain ⟨i, _, rfl⟩ := List.mem_map.mp hx
    obtain ⟨j, _, rfl⟩ := List.mem_map.mp hy
    rfl
  · obtain ⟨i, _, rfl⟩ := List.mem_map.mp hx
    exact fun z => nomatch z
theorem cr_maxT (hc : X.calm = true) (hu : X.A.units + 65 < cLine) : CallR X (.builtin "max") (fun vs H Q => ∃ (a : Addr) (ns : List Int), vs = [V.ref a] ∧ SqT X.K H a (ns.map V.int) ∧ 0 < ns.length ∧ ∀ m, m ∈ ns → (∀ y ∈ ns, y ≤ m) → Q (.int m) H) := by
  intro pins s σ H vs us Q I r h
  obtain ⟨a, ns, rfl, hs, hne, q⟩ := h
  obtain ⟨u, rfl, r1⟩ := vals1 r
  cases (show u = Value.ref a from r1)
  obtain ⟨its, rv, ht, _⟩ := I.tuple hs
  cases ns with
  | nil => exact absurd hne (Nat.lt_irrefl 0)
  | cons n ns =>
    obtain ⟨as, ra⟩ := Dp.readsAll I ((n :: ns).map PyData.int) _ its (dpInts (K := X.K) (H := H) (n :: ns)) rv
    refine PySem.W.max_tuple_data (x := .int n) (xs := ns.map .int) (as := as) (I.ok.hd hc) ht ra (alike_ints (n :: ns)) ?_ fun i v h' tk bs hi rd hk => ?_
    · have := deepInts (n :: ns)
      show X.A.units + 1 + PyData.depthAll ((n :: ns).map PyData.int) < cLine
      rw [this]
      omega
    · rw [PySem.W.maxD_ints] at rd
      cases rd with
      | int i t =>
        obtain ⟨h1, h2⟩ := foldl_max n ns
        exact ⟨.int _, H, I.kept hk, ⟨_, rfl⟩, q _ h1 h2⟩
end
end Lf
namespace Lf
open PySem PySem.Spec PyProof.Rows L2
section
variable {Z : Zn} {X : Cx} {B0 : Addr → Prop} {H0 H H1 H2 : Hp} {ρ : List Sl} {s s1 s2 : Z.S} {σ : L2.St} {v u : V} {r x y : Rv} {e a b c : Expr} {es : List Expr} {de da db dc : DX Z} {das : DA Z} {pos p : Pos} {K : PySem.W.Frag} {B : Addr → Prop}
theorem de_max (hc : X.calm = true) (hu : X.A.units + 65 < cLine) (hg : Gl X "max") (hm : X.mg "max" = none) (ha : DAs Z X (e :: es) das) (he : starEach (e :: es) X.env = (false, eval e X.env) :: starEach es X.env := by rfl) (hpl : (backTo pos (starEach es X.env)).any (·.1) = false := by rfl) : DE Z X (.Call (.Name "max" p) (e :: es) [] pos) (dCB opMax das) := by
  refine PE.of (pe_callB ((CallR.or (cr_max hc) (cr_maxT hc hu)).or (call_max2 hc)) hg hm (by decide +kernel) ha (by decide) (by decide) he hpl) fun σ H Q h => lift_cb ?_ h
  intro Z B0 ρ s H0 σ Ha H vs xs Qd Q R rr q k
  unfold opMax at q
  split at q
  · obtain ⟨v, rfl, r1⟩ := rr.one
    split at q
    · rename_i l e1
      obtain ⟨ns, rfl, h0, q⟩ := q
      obtain ⟨a, ys, rfl, h1, h2⟩ := r1.lst e1
      rw [nums_of h2] at h1
      exact .inl (.inl ⟨a, ns, rfl, SqL.of h1, h0, fun m m1 m2 => k _ _ _ (q m m1 m2) (Same.refl H) (Im.int _)⟩)
    · rename_i l e1
      obtain ⟨ns, rfl, h0, q⟩ := q
      obtain ⟨a, ys, rfl, h1, h2⟩ := r1.tup (K := X.K) e1
      rw [nums_of h2] at h1
      exact .inl (.inr ⟨a, ns, rfl, h1, h0, fun m m1 m2 => k _ _ _ (q m m1 m2) (Same.refl H) (Im.int _)⟩)
    · exact q.elim
  · obtain ⟨v, u, rfl, r1, r2⟩ := rr.two
    split at q
    · rename_i i j e1 e2
      rw [r1.vI e1, r2.vI e2]
      exact .inr ⟨i, j, rfl, k _ _ _ q (Same.refl H) (Im.int _)⟩
    · exact q.elim
  · exact q.elim
theorem de_min (hc : X.calm = true) (hg : Gl X "min") (hm : X.mg "min" = none) (ha : DAs Z X (e :: es) das) (he : starEach (e :: es) X.env = (false, eval e X.env) :: starEach es X.env := by rfl) (hpl : (backTo pos (starEach es X.env)).any (·.1) = false := by rfl) : DE Z X (.Call (.Name "min" p) (e :: es) [] pos) (dCB opMin das) := by
  refine PE.of (pe_callB (CallR.or (cr_min hc) (call_min2 hc)) hg hm (by decide +kernel) ha (by decide) (by decide) he hpl) fun σ H Q h => lift_cb ?_ h
  intro Z B0 ρ s H0 σ Ha H vs xs Qd Q R rr q k
  unfold opMin at q
  split at q
  · obtain ⟨v, rfl, r1⟩ := rr.one
    split at q
    · rename_i l e1
      obtain ⟨ns, rfl, h0, q⟩ := q
      obtain ⟨a, ys, rfl, h1, h2⟩ := r1.lst e1
      rw [nums_of h2] at h1
      exact .inl ⟨a, ns, rfl, SqL.of h1, h0, fun m m1 m2 => k _ _ _ (q m m1 m2) (Same.refl H) (Im.int _)⟩
    · exact q.elim
  · obtain ⟨v, u, rfl, r1, r2⟩ := rr.two
    split at q
    · rename_i i j e1 e2
      rw [r1.vI e1, r2.vI e2]
      exact .inr ⟨i, j, rfl, k _ _ _ q (Same.refl H) (Im.int _)⟩
    · exact q.elim
  · exact q.elim
/-! ### sum -/
theorem cr_sumT (hc : X.calm = true) : CallR X (.builtin "sum") (fun vs H Q => ∃ (a : Addr) (ns : List Int), vs = [V.ref a] ∧ SqT X.K H a (ns.map V.int) ∧ Q (.int ns.sum) H) := by
  intro pins s σ H vs us Q I r h
  obtain ⟨a, ns, rfl, hs, q⟩ := h
  obtain ⟨u, rfl, r1⟩ := vals1 r
  cases (show u = Value.ref a from r1)
  obtain ⟨its, rv, ht, _⟩ := I.tuple hs
  have hi := rv.ints
  obtain ⟨xs, e⟩ := hi.allInts.items
  have hn : numsOf (intItems xs).toList = ns := by rw [← e]; exact hi.numsOf
  rw [nums_intItems] at hn
  rw [e] at ht
  refine PySem.W.ktm_sumG (I.ok.hd hc) ht fun h' tk t' hk => ?_
  rw [preSum_eq, List.take_of_length_le (by simp), hn]
  exact ⟨.int _, H, I.kept hk, ⟨_, rfl⟩, q⟩
def opSum : Cb := fun rs Q => match rs with
  | [x] => match x.D with
    | some (.list l) => ∃ ns : List Int, l = ns.map .int ∧ Q (.im (.int ns.sum))
    | some (.tuple l) => ∃ ns : List Int, l = ns.map .int ∧ Q (.im (.int ns.sum))
    | _ => False
  | _ => False
theorem de_sum (hc : X.calm = true) (hg : Gl X "sum") (hm : X.mg "sum" = none) (ha : DAs Z X (e :: es) das) (he : starEach (e :: es) X.env = (false, eval e X.env) :: starEach es X.env := by rfl) (hpl : (backTo pos (starEach es X.env)).any (·.1) = false := by rfl) : DE Z X (.Call (.Name "sum" p) (e :: es) [] pos) (dCB opSum das) := by
  refine PE.of (pe_callB (CallR.or (cr_sum hc) (cr_sumT hc)) hg hm (by decide +kernel) ha (by decide) (by decide) he hpl) fun σ H Q h => lift_cb ?_ h
  intro Z B0 ρ s H0 σ Ha H vs xs Qd Q R rr q k
  unfold opSum at q
  split at q
  · obtain ⟨v, rfl, r1⟩ := rr.one
    split at q
    · rename_i l e1
      obtain ⟨ns, rfl, q⟩ := q
      obtain ⟨a, ys, rfl, h1, h2⟩ := r1.lst e1
      rw [nums_of h2] at h1
      exact .inl ⟨a, ns, rfl, SqL.of h1, k _ _ _ q (Same.refl H) (Im.int _)⟩
    · rename_i l e1
      obtain ⟨ns, rfl, q⟩ := q
      obtain ⟨a, ys, rfl, h1, h2⟩ := r1.tup (K := X.K) e1
      rw [nums_of h2] at h1
      exact .inr ⟨a, ns, rfl, h1, k _ _ _ q (Same.refl H) (Im.int _)⟩
    · exact q.elim
  · exact q.elim
/-! ### list, tuple, sorted, int -/
def opList : Cb := fun rs Q => match rs with
  | [x] => match x.D with
    | some (.list l) => Q (.fr l)
    | some (.tuple l) => Q (.fr l)
    | _ => False
  | _ => False
theorem de_list (hg : Gl X "list") (hm : X.mg "list" = none) (ha : DAs Z X (e :: es) das) (he : starEach (e :: es) X.env = (false, eval e X.env) :: starEach es X.env := by rfl) (hpl : (backTo pos (starEach es X.env)).any (·.1) = false := by rfl) : DE Z X (.Call (.Name "list" p) (e :: es) [] pos) (dCB opList das) := by
  refine PE.of (pe_callTy call_list_of hg hm (by decide +kernel) ha (by decide) (by decide) he hpl) fun σ H Q h => lift_cb ?_ h
  intro Z B0 ρ s H0 σ Ha H vs xs Qd Q R rr q k
  unfold opList at q
  split at q
  · obtain ⟨v, rfl, r1⟩ := rr.one
    split at q
    · rename_i l e1
      obtain ⟨a, ys, rfl, h1, h2⟩ := r1.lst e1
      exact ⟨a, ys, rfl, .inl (SqL.of h1), fun p hp => k _ _ _ q (same_new hp) (R.newL hp h2)⟩
    · rename_i l e1
      obtain ⟨a, ys, rfl, h1, h2⟩ := r1.tup (K := X.K) e1
      exact ⟨a, ys, rfl, .inr h1, fun p hp => k _ _ _ q (same_new hp) (R.newL hp h2)⟩
    · exact q.elim
  · exact q.elim
def opTuple : Cb := fun rs Q => match rs with
  | [x] => match x.D with
    | some (.list l) => Q (.im (.tuple l))
    | some (.tuple l) => Q (.im (.tuple l))
    | _ => False
  | _ => False
theorem de_tuple (hg : Gl X "tuple") (hm : X.mg "tuple" = none) (ha : DAs Z X (e :: es) das) (he : starEach (e :: es) X.env = (false, eval e X.env) :: starEach es X.env := by rfl) (hpl : (backTo pos (starEach es X.env)).any (·.1) = false := by rfl) : DE Z X (.Call (.Name "tuple" p) (e :: es) [] pos) (dCB opTuple das) := by
  refine PE.of (pe_callTy call_tupleK hg hm (by decide +kernel) ha (by decide) (by decide) he hpl) fun σ H Q h => lift_cb ?_ h
  intro Z B0 ρ s H0 σ Ha H vs xs Qd Q R rr q k
  unfold opTuple at q
  split at q
  · rename_i x
    obtain ⟨v, rfl, r1⟩ := rr.one
    split at q
    · rename_i l e1
      obtain ⟨a, ys, rfl, h1, h2⟩ := r1.lst e1
      exact ⟨a, ys, rfl, .inl ⟨SqL.of h1, fun p o hp tk => k _ _ _ q (same_new hp) (newT hp tk h2)⟩⟩
    · rename_i l e1
      obtain ⟨a, ys, rfl, h1, h2⟩ := r1.tup (K := X.K) e1
      refine ⟨a, ys, rfl, .inr ⟨h1, k _ _ _ q (Same.refl H) ?_⟩⟩
      cases x with
      | im d => cases e1; exact r1
      | _ => cases e1
    · exact q.elim
  · exact q.elim
def opSorted : Cb := fun rs Q => match rs with
  | [x] => match x.D with
    | some (.list l) => ∃ ns : List Int, l = ns.map .int ∧ ∀ ns' : List Int, ns'.Perm ns → ns'.Pairwise (· ≤ ·) → Q (.fr (ns'.map .int))
    | some (.tuple l) => ∃ ns : List Int, l = ns.map .int ∧ ∀ ns' : List Int, ns'.Perm ns → ns'.Pairwise (· ≤ ·) → Q (.fr (ns'.map .int))
    | _ => False
  | _ => False
theorem de_sorted (hg : Gl X "sorted") (hm : X.mg "sorted" = none) (ha : DAs Z X (e :: es) das) (he : starEach (e :: es) X.env = (false, eval e X.env) :: starEach es X.env := by rfl) (hpl : (backTo pos (starEach es X.env)).any (·.1) = false := by rfl) : DE Z X (.Call (.Name "sorted" p) (e :: es) [] pos) (dCB opSorted das) := by
  refine PE.of (pe_callB (CallR.or cr_sortedI cr_sortedTI) hg hm (by decide +kernel) ha (by decide) (by decide) he hpl) fun σ H Q h => lift_cb ?_ h
  intro Z B0 ρ s H0 σ Ha H vs xs Qd Q R rr q k
  unfold opSorted at q
  split at q
  · obtain ⟨v, rfl, r1⟩ := rr.one
    split at q
    · rename_i l e1
      obtain ⟨ns, rfl, q⟩ := q
      obtain ⟨a, ys, rfl, h1, h2⟩ := r1.lst e1
      rw [nums_of h2] at h1
      exact .inl ⟨a, ns, rfl, SqL.of h1, fun ns' p h3 h4 hp => k _ _ _ (q ns' h3 h4) (same_new hp) (R.newL hp (im_nums ns'))⟩
    · rename_i l e1
      obtain ⟨ns, rfl, q⟩ := q
      obtain ⟨a, ys, rfl, h1, h2⟩ := r1.tup (K := X.K) e1
      rw [nums_of h2] at h1
      exact .inr ⟨a, ns, rfl, h1, fun ns' p h3 h4 hp => k _ _ _ (q ns' h3 h4) (same_new hp) (R.newL hp (im_nums ns'))⟩
    · exact q.elim
  · exact q.elim
def opInt : Cb := fun rs Q => match rs with
  | [x] => match x.D with
    | some (.int i) => Q (.im (.int i))
    | some (.bool k) => Q (.im (.int (if k then 1 else 0)))
    | _ => False
  | _ => False
theorem de_intC (hg : Gl X "int") (hm : X.mg "int" = none) (ha : DAs Z X (e :: es) das) (he : starEach (e :: es) X.env = (false, eval e X.env) :: starEach es X.env := by rfl) (hpl : (backTo pos (starEach es X.env)).any (·.1) = false := by rfl) : DE Z X (.Call (.Name "int" p) (e :: es) [] pos) (dCB opInt das) := by
  refine PE.of (pe_callTy call_int1 hg hm (by decide +kernel) ha (by decide) (by decide) he hpl) fun σ H Q h => lift_cb ?_ h
  intro Z B0 ρ s H0 σ Ha H vs xs Qd Q R rr q k
  unfold opInt at q
  split at q
  · obtain ⟨v, rfl, r1⟩ := rr.one
    split at q
    · rename_i i e1
      rw [r1.vI e1]
      exact .inl ⟨i, rfl, k _ _ _ q (Same.refl H) (Im.int _)⟩
    · rename_i i e1
      rw [r1.vB e1]
      exact .inr ⟨i, rfl, k _ _ _ q (Same.refl H) (Im.int _)⟩
    · exact q.elim
  · exact q.elim
/-! ### kinds -/
def isTy (n : String) (d : PyData) : Bool := match n, d with
  | "int", .int _ => true
  | "int", .bool _ => true
  | "bool", .bool _ => true
  | "str", .str _ => true
  | "tuple", .tuple _ => true
  | "list", .list _ => true
  | "dict", .dict _ => true
  | _, _ => false
theorem kOne (n : String) (hn : n = "int" ∨ n = "bool" ∨ n = "str" ∨ n = "tuple" ∨ n = "list" ∨ n = "dict") (d : PyData) : PySem.W.kitOne K (.type (tyD d)) (.type n) = some (isTy n d) := by
  rcases hn with rfl | rfl | rfl | rfl | rfl | rfl
  · exact (kInt d).trans (by cases d <;> rfl)
  · exact (kBool d).trans (by cases d <;> rfl)
  · cases d with
    | none => exact kit_ty (show kitB "NoneType" "str" = some false by decide +kernel)
    | bool _ => exact kit_ty (show kitB "bool" "str" = some false by decide +kernel)
    | int _ => exact kit_ty (show kitB "int" "str" = some false by decide +kernel)
    | str _ => exact kit_ty (show kitB "str" "str" = some true by decide +kernel)
    | list _ => exact kit_ty (show kitB "list" "str" = some false by decide +kernel)
    | tuple _ => exact kit_ty (show kitB "tuple" "str" = some false by decide +kernel)
    | dict _ => exact kit_ty (show kitB "dict" "str" = some false by decide +kernel)
  · exact (kTup d).trans (by cases d <;> rfl)
  · cases d with
    | none => exact kit_ty (show kitB "NoneType" "list" = some false by decide +kernel)
    | bool _ => exact kit_ty (show kitB "bool" "list" = some false by decide +kernel)
    | int _ => exact kit_ty (show kitB "int" "list" = some false by decide +kernel)
    | str _ => exact kit_ty (show kitB "str" "list" = some false by decide +kernel)
    | list _ => exact kit_ty (show kitB "list" "list" = some true by decide +kernel)
    | tuple _ => exact kit_ty (show kitB "tuple" "list" = some false by decide +kernel)
    | dict _ => exact kit_ty (show kitB "dict" "list" = some false by decide +kernel)
  · cases d with
    | none => exact kit_ty (show kitB "NoneType" "dict" = some false by decide +kernel)
    | bool _ => exact kit_ty (show kitB "bool" "dict" = some false by decide +kernel)
    | int _ => exact kit_ty (show kitB "int" "dict" = some false by decide +kernel)
    | str _ => exact kit_ty (show kitB "str" "dict" = some false by decide +kernel)
    | list _ => exact kit_ty (show kitB "list" "dict" = some false by decide +kernel)
    | tuple _ => exact kit_ty (show kitB "tuple" "dict" = some false by decide +kernel)
    | dict _ => exact kit_ty (show kitB "dict" "dict" = some true by decide +kernel)
def dRaw (v : V) : DX Z := fun s _ Q => Q (.rw v) s
theorem de_raw (h : PE X e (tC v)) : DE Z X e (dRaw v) := PE.of h fun σ H Q ⟨B0, H0, ρ, s, Qd, R, hd, hq⟩ => hq _ s v H hd R Gr.refl rfl
def opIsi : Cb := fun rs Q => match rs with
  | [x, .rw (.ty n)] => match x.D with
    | some d => (n = "int" ∨ n = "bool" ∨ n = "str" ∨ n = "tuple" ∨ n = "list" ∨ n = "dict") ∧ Q (.im (.bool (isTy n d)))
    | _ => False
  | _ => False
theorem de_isi (hg : Gl X "isinstance") (hm : X.mg "isinstance" = none) (ha : DAs Z X (e :: es) das) (he : starEach (e :: es) X.env = (false, eval e X.env) :: starEach es X.env := by rfl) (hpl : (backTo pos (starEach es X.env)).any (·.1) = false := by rfl) : DE Z X (.Call (.Name "isinstance" p) (e :: es) [] pos) (dCB opIsi das) := by
  refine PE.of (pe_callB call_isi hg hm (by decide +kernel) ha (by decide) (by decide) he hpl) fun σ H Q h => lift_cb ?_ h
  intro Z B0 ρ s H0 σ Ha H vs xs Qd Q R rr q k
  unfold opIsi at q
  split at q
  · rename_i x n
    obtain ⟨v, u, rfl, r1, r2⟩ := rr.two
    cases (show u = V.ty n from r2)
    split at q
    · rename_i d e1
      exact ⟨v, .ty n, _, .type n, _, rfl, .ty n, (r1.rd e1).rp.ty, kOne n q.1 d, k _ _ _ q.2 (Same.refl H) (Im.bl _)⟩
    · exact q.elim
  · exact q.elim
/-! ### -x, is None, slices -/
def dUn (f : Rv → (Rv → Prop) → Prop) (da : DX Z) : DX Z := fun s ρ Q => da s ρ fun x s1 => f x fun r => Q r s1
def opNeg : Rv → (Rv → Prop) → Prop := fun x Q => match x.D with
  | some (.int i) => Q (.im (.int (-i)))
  | _ => False
theorem de_neg (ha : DE Z X a da) : DE Z X (.UnaryOp .USub a pos) (dUn opNeg da) := by
  refine PE.of (pe_un un_neg ha) fun σ H Q ⟨B0, H0, ρ, s, Qd, R, hd, hq⟩ => ?_
  refine ⟨B0, H0, ρ, s, _, R, hd, fun x s1 v H1 qx R1 g1 r1 => ?_⟩
  unfold opNeg at qx
  split at qx
  · rename_i i e1
    rw [r1.vI e1]
    exact ⟨i, rfl, hq _ s1 _ H1 qx R1 g1 (Im.int _)⟩
  · exact qx.elim
def isN : PyData → Bool
  | .none => true
  | _ => false
theorem isN_of {B : Addr → Prop} {d : PyData} (h : Im B H v d) : decide (v = .non) = isN d := by
  cases h <;> first | rfl | (exact decide_eq_false (fun z => nomatch z))
def dIsN (neg : Bool) (da : DX Z) : DX Z := fun s ρ Q => da s ρ fun x s1 => match x.D with
  | some d => Q (.im (.bool (neg != isN d))) s1
  | _ => False
theorem de_isN {j pos'} (ha : DE Z X a da) : DE Z X (.Compare a [.Is] [.Constant .none j pos'] pos) (dIsN false da) := by
  refine PE.of (pe_cmp (pc_isN ha)) fun σ H Q ⟨B0, H0, ρ, s, Qd, R, hd, hq⟩ => ?_
  refine ⟨B0, H0, ρ, s, _, R, hd, fun x s1 v H1 qx R1 g1 r1 => ?_⟩
  split at qx
  · rename_i d e1
    refine hq _ s1 _ H1 qx R1 g1 ?_
    rw [isN_of (r1.rd e1), Bool.false_bne]
    exact Im.bl _
  · exact qx.elim
theorem de_notN {j pos'} (ha : DE Z X a da) : DE Z X (.Compare a [.IsNot] [.Constant .none j pos'] pos) (dIsN true da) := by
  refine PE.of (pe_cmp (pc_notN ha)) fun σ H Q ⟨B0, H0, ρ, s, Qd, R, hd, hq⟩ => ?_
  refine ⟨B0, H0, ρ, s, _, R, hd, fun x s1 v H1 qx R1 g1 r1 => ?_⟩
  split at qx
  · rename_i d e1
    refine hq _ s1 _ H1 qx R1 g1 ?_
    rw [isN_of (r1.rd e1), Bool.true_bne]
    exact Im.bl _
  · exact qx.elim
end
end Lf
namespace Lf
open PySem PySem.Spec PyProof.Rows L2
section
variable {Z : Zn} {X : Cx} {B0 : Addr → Prop} {H0 H H1 H2 : Hp} {ρ : List Sl} {s s1 s2 : Z.S} {σ : L2.St} {v u : V} {r x y : Rv} {e a b c : Expr} {es rest : List Expr} {de da db dc : DX Z} {dt du : DT Z} {das : DA Z} {pos p : Pos} {K : PySem.W.Frag} {B : Addr → Prop} {op op' : CmpOp}
/-! ### tests -/
def dTst (de : DX Z) : DT Z := fun s ρ Q => de s ρ fun r s1 => match r.D with
  | some (.bool b) => Q b s1
  | _ => False
theorem lift_tst {σ : L2.St} {H : Hp} {Q : Bool → Hp → Prop} (h : liftT Z (dTst de) σ H Q) : liftE Z de σ H fun x H' => ∃ k, x = .bl k ∧ Q k H' := by
  obtain ⟨B0, H0, ρ, s, Qd, R, hd, hq⟩ := h
  refine ⟨B0, H0, ρ, s, _, R, hd, fun r s1 v H1 qx R1 g1 r1 => ?_⟩
  split at qx
  · rename_i b e1
    exact ⟨b, r1.vB e1, hq b s1 H1 qx R1 g1⟩
  · exact qx.elim
theorem dt_val (h : DE Z X e de) (he : ∀ whole, isTrue e X.env whole = (do let v ← whole; standAt e.pos; holding [v] (truthy v)) := by intro _; rfl) : DTs Z X e (dTst de) := PT.of (pt_val h he) fun σ H Q h => lift_tst h
/-- a comparison as a test, by its rule -/
theorem dt_cmp {rr : R2} {opd : Op} (ho : OpR X (compareOp op) rr) (h2 : Op2 X.K rr opd) (ha : DE Z X a da) (hb : DE Z X b db) (hm : behindInMarks op b = false) : DTs Z X (.Compare a [op] [b] pos) (dTst (dBin opd da db)) := by
  refine PT.of (pt_cmpR ho ha hb hm) fun σ H Q h => ?_
  obtain ⟨B0, H0, ρ, s, Qd, R, hd, hq⟩ := lift_tst h
  exact lift_bin (K := X.K) h2 ⟨B0, H0, ρ, s, Qd, R, hd, hq⟩
/-- the rules of the comparisons -/
theorem o2_lt : Op2 K (rI0 fun i j => .bl (decide (i < j))) (cmpI fun i j => decide (i < j)) := op2_I0 fun _ _ _ _ => .bl _
theorem o2_le : Op2 K (rI0 fun i j => .bl (decide (i ≤ j))) (cmpI fun i j => decide (i ≤ j)) := op2_I0 fun _ _ _ _ => .bl _
theorem o2_gt : Op2 K (rI0 fun i j => .bl (decide (j < i))) (cmpI fun i j => decide (j < i)) := op2_I0 fun _ _ _ _ => .bl _
theorem o2_ge : Op2 K (rI0 fun i j => .bl (decide (j ≤ i))) (cmpI fun i j => decide (j ≤ i)) := op2_I0 fun _ _ _ _ => .bl _
theorem o2_eq : Op2 K (fun x y H Q => rEq x y H Q ∨ rEqD K x y H Q) opEq := by
  intro Z B0 ρ s H0 σ Ha Hb H v u x y Qd Q R rx ry q k
  unfold opEq at q
  split at q
  · rename_i i j e1 e2
    rw [rx.vI e1, ry.vI e2]
    exact .inl ⟨rfl, by rw [decI]; exact k _ _ _ q (Same.refl H) (Im.bl _)⟩
  · rename_i i j e1 e2
    rw [rx.vS e1, ry.vS e2]
    exact .inl ⟨rfl, by rw [decS]; exact k _ _ _ q (Same.refl H) (Im.bl _)⟩
  · rename_i d e _ _ e1 e2
    exact .inr ⟨d, e, dp_of (SeqAt.canLay_of_shaped q.1) (rx.rd e1), dp_of (SeqAt.canLay_of_shaped q.2.1) (ry.rd e2), q.1, q.2.1, k _ _ _ q.2.2 (Same.refl H) (Im.bl _)⟩
  · exact q.elim
theorem o2_ne : Op2 K (fun x y H Q => rNe x y H Q ∨ rNeD K x y H Q) opNe := by
  intro Z B0 ρ s H0 σ Ha Hb H v u x y Qd Q R rx ry q k
  unfold opNe at q
  split at q
  · rename_i i j e1 e2
    rw [rx.vI e1, ry.vI e2]
    exact .inl ⟨rfl, by rw [decI]; exact k _ _ _ q (Same.refl H) (Im.bl _)⟩
  · rename_i i j e1 e2
    rw [rx.vS e1, ry.vS e2]
    exact .inl ⟨rfl, by rw [decS]; exact k _ _ _ q (Same.refl H) (Im.bl _)⟩
  · rename_i d e _ _ e1 e2
    exact .inr ⟨d, e, dp_of (SeqAt.canLay_of_shaped q.1) (rx.rd e1), dp_of (SeqAt.canLay_of_shaped q.2.1) (ry.rd e2), q.1, q.2.1, k _ _ _ q.2.2 (Same.refl H) (Im.bl _)⟩
  · exact q.elim
theorem o2_in : Op2 K (fun x y H Q => rInD K x y H Q ∨ rInDT K x y H Q) (opIn false) := by
  intro Z B0 ρ s H0 σ Ha Hb H v u x y Qd Q R rx ry q k
  unfold opIn at q
  split at q
  · rename_i d l e1 e2
    refine .inl ⟨d, l, dp_of (SeqAt.canLay_of_shaped q.1) (rx.rd e1), dp_of (SeqAt.canLay_of_shaped q.2.1) (ry.rd e2), q.1, q.2.1, k _ _ _ q.2.2 (Same.refl H) ?_⟩
    rw [Bool.false_bne]
    exact Im.bl _
  · rename_i d l e1 e2
    refine .inr ⟨d, l, dp_of (SeqAt.canLay_of_shaped q.1) (rx.rd e1), dp_of (SeqAt.canLay_of_shaped q.2.1) (ry.rd e2), q.1, q.2.1, k _ _ _ q.2.2 (Same.refl H) ?_⟩
    rw [Bool.false_bne]
    exact Im.bl _
  · exact q.elim
theorem o2_notin : Op2 K (fun x y H Q => rNotInD K x y H Q ∨ ∃ d ds, Dp K H x d ∧ Dp K H y (.tuple ds) ∧ SeqAt.shaped d = true ∧ SeqAt.shaped (.tuple ds) = true ∧ Q (.bl (!ds.any fun z => PyData.eqv z d)) H) (opIn true) := by
  intro Z B0 ρ s H0 σ Ha Hb H v u x y Qd Q R rx ry q k
  unfold opIn at q
  split at q
  · rename_i d l e1 e2
    refine .inl ⟨d, l, dp_of (SeqAt.canLay_of_shaped q.1) (rx.rd e1), dp_of (SeqAt.canLay_of_shaped q.2.1) (ry.rd e2), q.1, q.2.1, k _ _ _ q.2.2 (Same.refl H) ?_⟩
    rw [Bool.true_bne]
    exact Im.bl _
  · rename_i d l e1 e2
    refine .inr ⟨d, l, dp_of (SeqAt.canLay_of_shaped q.1) (rx.rd e1), dp_of (SeqAt.canLay_of_shaped q.2.1) (ry.rd e2), q.1, q.2.1, k _ _ _ q.2.2 (Same.refl H) ?_⟩
    rw [Bool.true_bne]
    exact Im.bl _
  · exact q.elim
theorem dt_lt (ha : DE Z X a da) (hb : DE Z X b db) : DTs Z X (.Compare a [.Lt] [b] pos) (dTst (dBin (cmpI fun i j => decide (i < j)) da db)) := dt_cmp op_lt o2_lt ha hb (nomark _)
theorem dt_le (ha : DE Z X a da) (hb : DE Z X b db) : DTs Z X (.Compare a [.LtE] [b] pos) (dTst (dBin (cmpI fun i j => decide (i ≤ j)) da db)) := dt_cmp op_le o2_le ha hb (nomark _)
theorem dt_gt (ha : DE Z X a da) (hb : DE Z X b db) : DTs Z X (.Compare a [.Gt] [b] pos) (dTst (dBin (cmpI fun i j => decide (j < i)) da db)) := dt_cmp op_gt o2_gt ha hb (nomark _)
theorem dt_ge (ha : DE Z X a da) (hb : DE Z X b db) : DTs Z X (.Compare a [.GtE] [b] pos) (dTst (dBin (cmpI fun i j => decide (j ≤ i)) da db)) := dt_cmp op_ge o2_ge ha hb (nomark _)
theorem dt_eq (hu : X.A.units + 65 < cLine) (ha : DE Z X a da) (hb : DE Z X b db) : DTs Z X (.Compare a [.Eq] [b] pos) (dTst (dBin opEq da db)) := dt_cmp (op_eq.or (op_eqD (by omega))) o2_eq ha hb (nomark _)
theorem dt_ne (hu : X.A.units + 65 < cLine) (ha : DE Z X a da) (hb : DE Z X b db) : DTs Z X (.Compare a [.NotEq] [b] pos) (dTst (dBin opNe da db)) := dt_cmp (op_ne.or (op_neD (by omega))) o2_ne ha hb (nomark _)
theorem dt_in (hu : X.A.units + 65 < cLine) (ha : DE Z X a da) (hb : DE Z X b db) (hm : behindInMarks .In b = false := by rfl) : DTs Z X (.Compare a [.In] [b] pos) (dTst (dBin (opIn false) da db)) := dt_cmp ((op_inD hu).or (op_inDT hu)) o2_in ha hb hm
theorem dt_notin (hu : X.A.units + 65 < cLine) (ha : DE Z X a da) (hb : DE Z X b db) (hm : behindInMarks .NotIn b = false := by rfl) : DTs Z X (.Compare a [.NotIn] [b] pos) (dTst (dBin (opIn true) da db)) := dt_cmp ((op_notInD hu).or (op_notInDT hu)) o2_notin ha hb hm
theorem dt_isN {j pos'} (ha : DE Z X a da) : DTs Z X (.Compare a [.Is] [.Constant .none j pos'] pos) (dTst (dIsN false da)) := by
  refine PT.of (pt_cmp (pc_isN ha)) fun σ H Q h => ?_
  obtain ⟨B0, H0, ρ, s, Qd, R, hd, hq⟩ := lift_tst h
  refine ⟨B0, H0, ρ, s, _, R, hd, fun x s1 v H1 qx R1 g1 r1 => ?_⟩
  split at qx
  · rename_i d e1
    refine hq _ s1 _ H1 qx R1 g1 ?_
    rw [isN_of (r1.rd e1), Bool.false_bne]
    exact Im.bl _
  · exact qx.elim
theorem dt_notN {j pos'} (ha : DE Z X a da) : DTs Z X (.Compare a [.IsNot] [.Constant .none j pos'] pos) (dTst (dIsN true da)) := by
  refine PT.of (pt_cmp (pc_notN ha)) fun σ H Q h => ?_
  obtain ⟨B0, H0, ρ, s, Qd, R, hd, hq⟩ := lift_tst h
  refine ⟨B0, H0, ρ, s, _, R, hd, fun x s1 v H1 qx R1 g1 r1 => ?_⟩
  split at qx
  · rename_i d e1
    refine hq _ s1 _ H1 qx R1 g1 ?_
    rw [isN_of (r1.rd e1), Bool.true_bne]
    exact Im.bl _
  · exact qx.elim
/-- truth of data -/
def truD : PyData → Bool
  | .none => false
  | .bool b => b
  | .int i => i != 0
  | .str z => (z.length : Int) != 0
  | .list l => !l.isEmpty
  | .tuple l => !l.isEmpty
  | .dict l => !l.isEmpty
theorem all_empty {vs : List V} {ds : List PyData} (h : ImAll B H vs ds) : vs.isEmpty = ds.isEmpty := by cases h <;> rfl
theorem kv_empty {vs : List (Key × V)} {ds : List (PyData × PyData)} (h : ImKv B H vs ds) : vs.isEmpty = ds.isEmpty := by cases h <;> rfl
def shortS : PyData → Prop
  | .str z => z.length ≤ 1000000
  | _ => True
theorem tru_of {d : PyData} (h : Im B H v d) (hs : shortS d) : TruV K v H (truD d) := by
  cases h with
  | non => rfl
  | bl b => rfl
  | int i => rfl
  | str z => exact ⟨smB hs, rfl⟩
  | lst e _ q => exact .inl ⟨_, SqL.of e, by rw [all_empty q]; rfl⟩
  | ftp e _ q => exact .inr (.inl ⟨_, .inl (.inr ⟨_, e⟩), by rw [all_empty q]; rfl⟩)
  | dct e _ q => exact .inr (.inr ⟨_, e, by rw [kv_empty q]; rfl⟩)
def dTru (de : DX Z) : DT Z := fun s ρ Q => de s ρ fun r s1 => match r.D with
  | some d => shortS d ∧ Q (truD d) s1
  | _ => False
theorem dt_tru (h : DE Z X e de) (he : ∀ whole, isTrue e X.env whole = (do let v ← whole; standAt e.pos; holding [v] (truthy v)) := by intro _; rfl) : DTs Z X e (dTru de) := by
  refine PT.of (pt_truth h he) fun σ H Q ⟨B0, H0, ρ, s, Qd, R, hd, hq⟩ => ?_
  refine ⟨B0, H0, ρ, s, _, R, hd, fun r s1 v H1 qx R1 g1 r1 => ?_⟩
  split at qx
  · rename_i d e1
    exact ⟨_, tru_of (r1.rd e1) qx.1, hq _ s1 H1 qx.2 R1 g1⟩
  · exact qx.elim
def dAndT (t u : DT Z) : DT Z := fun s ρ Q => t s ρ fun b s1 => if b = true then u s1 ρ Q else Q false s1
def dOrT (t u : DT Z) : DT Z := fun s ρ Q => t s ρ fun b s1 => if b = true then Q true s1 else u s1 ρ Q
def dNotT (t : DT Z) : DT Z := fun s ρ Q => t s ρ fun b s1 => Q (!b) s1
abbrev DW (Z : Zn) (X : Cx) (e : Expr) (d : DT Z) : Prop := PW X e (liftT Z d)
theorem PW.of {t t' : TT} (h : PW X e t) (w : ∀ σ H Q, t' σ H Q → t σ H Q) : PW X e t' := ⟨fun wh pins s σ H Q I q => h.run wh pins s σ H Q I (w σ H Q q)⟩
theorem dw_and1 (ha : DTs Z X a dt) : DW Z X (.BoolOp .And [a] pos) dt := pw_and1 ha
theorem dw_or1 (ha : DTs Z X a dt) : DW Z X (.BoolOp .Or [a] pos) dt := pw_or1 ha
theorem dw_and (ha : DTs Z X a dt) (hb : DW Z X (.BoolOp .And (b :: rest) pos) du) : DW Z X (.BoolOp .And (a :: b :: rest) pos) (dAndT dt du) := by
  refine PW.of (pw_and ha hb) fun σ H Q ⟨B0, H0, ρ, s, Qd, R, hd, hq⟩ => ?_
  refine ⟨B0, H0, ρ, s, _, R, hd, fun c s1 H1 qx R1 g1 => ?_⟩
  cases c with
  | true => exact ⟨B0, H0, ρ, s1, Qd, R1, qx, fun c s2 H2 q R2 g2 => hq c s2 H2 q R2 (g1.trans g2)⟩
  | false => exact hq false s1 H1 qx R1 g1
theorem dw_or (ha : DTs Z X a dt) (hb : DW Z X (.BoolOp .Or (b :: rest) pos) du) : DW Z X (.BoolOp .Or (a :: b :: rest) pos) (dOrT dt du) := by
  refine PW.of (pw_or ha hb) fun σ H Q ⟨B0, H0, ρ, s, Qd, R, hd, hq⟩ => ?_
  refine ⟨B0, H0, ρ, s, _, R, hd, fun c s1 H1 qx R1 g1 => ?_⟩
  cases c with
  | false => exact ⟨B0, H0, ρ, s1, Qd, R1, qx, fun c s2 H2 q R2 g2 => hq c s2 H2 q R2 (g1.trans g2)⟩
  | true => exact hq true s1 H1 qx R1 g1
theorem dt_not (ha : DTs Z X a dt) : DTs Z X (.UnaryOp .Not a pos) (dNotT dt) := by
  refine PT.of (pt_not ha) fun σ H Q ⟨B0, H0, ρ, s, Qd, R, hd, hq⟩ => ?_
  exact ⟨B0, H0, ρ, s, _, R, hd, fun c s1 H1 qx R1 g1 => hq _ s1 H1 qx R1 g1⟩
/-! ### and, or, not as values -/
def dAndV (da db : DX Z) : DX Z := fun s ρ Q => da s ρ fun x s1 => match x.D with
  | some (.bool c) => if c = true then db s1 ρ Q else Q (.im (.bool false)) s1
  | _ => False
def dOrV (da db : DX Z) : DX Z := fun s ρ Q => da s ρ fun x s1 => match x.D with
  | some (.bool c) => if c = true then Q (.im (.bool true)) s1 else db s1 ρ Q
  | _ => False
def dNotV (da : DX Z) : DX Z := fun s ρ Q => da s ρ fun x s1 => match x.D with
  | some (.bool c) => Q (.im (.bool (!c))) s1
  | _ => False
theorem de_one {op} (h : DE Z X a da) : DE Z X (.BoolOp op [a] pos) da := pe_one h
theorem de_and (ha : DE Z X a da) (hb : DE Z X (.BoolOp .And (b :: rest) pos) db) : DE Z X (.BoolOp .And (a :: b :: rest) pos) (dAndV da db) := by
  refine PE.of (pe_and ha hb) fun σ H Q ⟨B0, H0, ρ, s, Qd, R, hd, hq⟩ => ?_
  refine ⟨B0, H0, ρ, s, _, R, hd, fun x s1 v H1 qx R1 g1 r1 => ?_⟩
  split at qx
  · rename_i c e1
    refine ⟨c, r1.vB e1, ?_⟩
    cases c with
    | true => exact ⟨B0, H0, ρ, s1, Qd, R1, qx, fun r s2 v H2 q R2 g2 r2 => hq r s2 v H2 q R2 (g1.trans g2) (r2.back R1.ok g1)⟩
    | false => exact hq _ s1 _ H1 qx R1 g1 (Im.bl _)
  · exact qx.elim
theorem de_or (ha : DE Z X a da) (hb : DE Z X (.BoolOp .Or (b :: rest) pos) db) : DE Z X (.BoolOp .Or (a :: b :: rest) pos) (dOrV da db) := by
  refine PE.of (pe_or ha hb) fun σ H Q ⟨B0, H0, ρ, s, Qd, R, hd, hq⟩ => ?_
  refine ⟨B0, H0, ρ, s, _, R, hd, fun x s1 v H1 qx R1 g1 r1 => ?_⟩
  split at qx
  · rename_i c e1
    refine ⟨c, r1.vB e1, ?_⟩
    cases c with
    | false => exact ⟨B0, H0, ρ, s1, Qd, R1, qx, fun r s2 v H2 q R2 g2 r2 => hq r s2 v H2 q R2 (g1.trans g2) (r2.back R1.ok g1)⟩
    | true => exact hq _ s1 _ H1 qx R1 g1 (Im.bl _)
  · exact qx.elim
theorem de_not (ha : DE Z X a da) : DE Z X (.UnaryOp .Not a pos) (dNotV da) := by
  refine PE.of (pe_not ha) fun σ H Q ⟨B0, H0, ρ, s, Qd, R, hd, hq⟩ => ?_
  refine ⟨B0, H0, ρ, s, _, R, hd, fun x s1 v H1 qx R1 g1 r1 => ?_⟩
  split at qx
  · rename_i c e1
    exact ⟨c, r1.vB e1, hq _ s1 _ H1 qx R1 g1 (Im.bl _)⟩
  · exact qx.elim
def dIf (t : DT Z) (da db : DX Z) : DX Z := fun s ρ Q => t s ρ fun c s1 => if c = true then da s1 ρ Q else db s1 ρ Q
theorem de_if (hc : DTs Z X c dt) (ha : DE Z X a da) (hb : DE Z X b db) : DE Z X (.IfExp c a b pos) (dIf dt da db) := by
  refine PE.of (pe_ifExp hc ha hb) fun σ H Q ⟨B0, H0, ρ, s, Qd, R, hd, hq⟩ => ?_
  refine ⟨B0, H0, ρ, s, _, R, hd, fun c s1 H1 qx R1 g1 => ?_⟩
  cases c with
  | true => exact ⟨B0, H0, ρ, s1, Qd, R1, qx, fun r s2 v H2 q R2 g2 r2 => hq r s2 v H2 q R2 (g1.trans g2) (r2.back R1.ok g1)⟩
  | false => exact ⟨B0, H0, ρ, s1, Qd, R1, qx, fun r s2 v H2 q R2 g2 r2 => hq r s2 v H2 q R2 (g1.trans g2) (r2.back R1.ok g1)⟩
/-! ### a < b < c of ints -/
def dChain (f g : Int → Int → Bool) (da db dc : DX Z) : DX Z := fun s ρ Q => da s ρ fun x s1 => db s1 ρ fun y s2 => match x.D, y.D with
  | some (.int i), some (.int j) => if f i j = true then dc s2 ρ fun z s3 => match z.D with
      | some (.int k) => Q (.im (.bool (g j k))) s3
      | _ => False
    else Q (.im (.bool false)) s2
  | _, _ => False
theorem lift_chain {f g : Int → Int → Bool} {σ : L2.St} {H : Hp} {Q : VK} (h : liftE Z (dChain f g da db dc) σ H Q) : tChain (rI0 fun i j => .bl (f i j)) (rI0 fun i j => .bl (g i j)) (liftE Z da) (liftE Z db) (liftE Z dc) σ H Q := by
  obtain ⟨B0, H0, ρ, s, Qd, R, hd, hq⟩ := h
  refine ⟨B0, H0, ρ, s, _, R, hd, fun x s1 v H1 qx R1 g1 r1 => ?_⟩
  refine ⟨B0, H0, ρ, s1, _, R1, qx, fun y s2 u H2 qy R2 g2 r2 => ?_⟩
  have r1 := r1.grow R1 g2
  split at qy
  · rename_i i j e1 e2
    refine ⟨i, j, r1.vI e1, r2.vI e2, _, rfl, ?_⟩
    by_cases hf : f i j = true
    · rw [if_pos hf] at qy ⊢
      refine ⟨B0, H0, ρ, s2, _, R2, qy, fun z s3 w H3 qz R3 g3 r3 => ?_⟩
      split at qz
      · rename_i k e3
        exact ⟨j, k, r2.vI e2, r3.vI e3, hq _ s3 _ H3 qz R3 (g1.trans (g2.trans g3)) (Im.bl _)⟩
      · exact qz.elim
    · rw [if_neg hf] at qy ⊢
      exact hq _ s2 _ H2 qy R2 (g1.trans g2) (Im.bl _)
  · exact qy.elim
theorem de_chain {f g : Int → Int → Bool} (ho : OpR X (compareOp op) (rI0 fun i j => .bl (f i j))) (ho' : OpR X (compareOp op') (rI0 fun i j => .bl (g i j))) (ha : DE Z X a da) (hb : DE Z X b db) (hc : DE Z X c dc) (hm : lastMarks [op, op'] [b, c] = false := by with_unfolding_all rfl) :
    DE Z X (.Compare a [op, op'] [b, c] pos) (dChain f g da db dc) := PE.of (pe_chain ho ho' ha hb hc hm) fun σ H Q h => lift_chain h
theorem dt_chain {f g : Int → Int → Bool} (ho : OpR X (compareOp op) (rI0 fun i j => .bl (f i j))) (ho' : OpR X (compareOp op') (rI0 fun i j => .bl (g i j))) (ha : DE Z X a da) (hb : DE Z X b db) (hc : DE Z X c dc) (hm : lastMarks [op, op'] [b, c] = false := by with_unfolding_all rfl) :
    DTs Z X (.Compare a [op, op'] [b, c] pos) (dTst (dChain f g da db dc)) := by
  refine PT.of (pt_chain ho ho' ha hb hc hm) fun σ H Q h => ?_
  obtain ⟨B0, H0, ρ, s, Qd, R, hd, hq⟩ := lift_tst h
  exact lift_chain ⟨B0, H0, ρ, s, Qd, R, hd, hq⟩
/-! ### slices -/
abbrev DO (Z : Zn) := Z.S → List Sl → (Option Int → Z.S → Prop) → Prop
def liftO (Z : Zn) (d : DO Z) : TO := fun σ H Q => ∃ (B0 : Addr → Prop) (H0 : Hp) (ρ : List Sl) (s : Z.S) (Qd : Option Int → Z.S → Prop), Rel Z B0 H0 ρ s σ H ∧ d s ρ Qd ∧
  ∀ b s' H', Qd b s' → Rel Z B0 H0 ρ s' σ H' → Gr Z H H' → Q b H'
abbrev DOs (Z : Zn) (X : Cx) (e : Option Expr) (d : DO Z) : Prop := PO X e (liftO Z d)
def dNoP : DO Z := fun s _ Q => Q none s
def dP (da : DX Z) : DO Z := fun s ρ Q => da s ρ fun x s1 => match x.D with
  | some (.int i) => Q (some i) s1
  | _ => False
theorem do_none : DOs Z X none dNoP := ⟨fun pins s σ H Q I ⟨B0, H0, ρ, s1, Qd, R, hd, hq⟩ => po_none.run pins s σ H Q I (hq none s1 H hd R Gr.refl)⟩
theorem do_some (h : DE Z X e de) : DOs Z X (some e) (dP de) := ⟨fun pins s σ H Q I ⟨B0, H0, ρ, s1, Qd, R, hd, hq⟩ => (po_some h).run pins s σ H Q I (by
  refine ⟨B0, H0, ρ, s1, _, R, hd, fun x s2 v H1 qx R1 g1 r1 => ?_⟩
  split at qx
  · rename_i i e1
    exact ⟨i, r1.vI e1, hq _ s2 H1 qx R1 g1⟩
  · exact qx.elim)⟩
def cutD (xs : List PyData) (lo hi : Option Int) : List PyData := (xs.drop (HT.sIx xs.length 0 lo)).take (HT.sIx xs.length xs.length hi - HT.sIx xs.length 0 lo)
theorem ImAll.cut {vs : List V} {ds : List PyData} (h : ImAll B H vs ds) (lo hi : Option Int) : ImAll B H (cutV vs lo hi) (cutD ds lo hi) := by
  unfold cutV cutD
  rw [h.length]
  exact (h.drop _).take _
def dSl (da : DX Z) (dl dh : DO Z) : DX Z := fun s ρ Q => da s ρ fun x s1 => dl s1 ρ fun lo s2 => dh s2 ρ fun hi s3 => match x.D with
  | some (.list l) => Q (.fr (cutD l lo hi)) s3
  | some (.tuple l) => Q (.im (.tuple (cutD l lo hi))) s3
  | _ => False
theorem de_sl {lo hi : Option Expr} {dl dh : DO Z} {p2 : Pos} (ha : DE Z X a da) (hl : DOs Z X lo dl) (hh : DOs Z X hi dh) : DE Z X (.Subscript a (.Slice lo hi none p2) pos) (dSl da dl dh) := by
  refine PE.of (pe_slice (sl_list.or sl_tupK) ha hl hh) fun σ H Q ⟨B0, H0, ρ, s, Qd, R, hd, hq⟩ => ?_
  refine ⟨B0, H0, ρ, s, _, R, hd, fun x s1 v H1 qx R1 g1 r1 => ?_⟩
  refine ⟨B0, H0, ρ, s1, _, R1, qx, fun lo s2 H2 ql R2 g2 => ?_⟩
  refine ⟨B0, H0, ρ, s2, _, R2, ql, fun hi s3 H3 qh R3 g3 => ?_⟩
  have r3 := (r1.grow R1 g2).grow R2 g3
  have g := g1.trans (g2.trans g3)
  split at qh
  · rename_i l e1
    obtain ⟨a, ys, rfl, h1, h2⟩ := r3.lst e1
    exact .inl ⟨a, ys, rfl, SqL.of h1, fun p hp => hq _ s3 _ _ qh (R3.same (same_new hp)) (g.trans (Gr.of (same_new hp))) ((R3.newL hp (h2.cut lo hi)).back R3.ok g)⟩
  · rename_i l e1
    obtain ⟨a, ys, rfl, h1, h2⟩ := r3.tup (K := X.K) e1
    refine .inr ⟨a, ys, rfl, h1, fun hw => ?_, fun _ p o hp tk => hq _ s3 _ _ qh (R3.same (same_new hp)) (g.trans (Gr.of (same_new hp))) (newT hp tk (h2.cut lo hi))⟩
    refine hq _ s3 _ _ qh R3 g ?_
    have e : cutD l lo hi = l := by
      unfold cutD
      rw [h2.length] at hw
      rw [hw.1, hw.2, List.drop_zero, Nat.sub_zero, List.take_length]
    rw [e]
    cases x with
    | im d => cases e1; exact r3
    | _ => cases e1
  · exact qh.elim
end
end Lf
namespace Lf
open PySem PySem.Spec PyProof.Rows L2
structure DEnds (Z : Zn) where
  nx : Z.S → List Sl → Prop
  rt : Rv → Z.S → Prop
  bk : Z.S → List Sl → Prop := fun _ _ => False
  ct : Z.S → List Sl → Prop := fun _ _ => False
abbrev DSt (Z : Zn) := DEnds Z → Z.S → List Sl → Prop
structure Stp (Z : Zn) (B0 : Addr → Prop) (ρ : List Sl) (H : Hp) (ρ' : List Sl) (H' : Hp) : Prop where
  keep : ∀ b o, H b = some o → ¬ Bad Z B0 ρ b → H' b = some o
  tups : ∀ b xs, H b = some (.tup xs) → H' b = some (.tup xs)
  frzs : ∀ b o u, H b = some (.frz o u) → H' b = some (.frz o u)
  owns : ∀ a ∈ own ρ', a ∈ own ρ ∨ H a = none
def liftS (Z : Zn) (d : DSt Z) : TS := fun D σ H => ∃ (B0 : Addr → Prop) (H0 : Hp) (ρ : List Sl) (s : Z.S) (De : DEnds Z), Rel Z B0 H0 ρ s σ H ∧ d De s ρ ∧
  (∀ s' ρ' σ' H', De.nx s' ρ' → Rel Z B0 H0 ρ' s' σ' H' → Stp Z B0 ρ H ρ' H' → D.nx σ' H') ∧
  (∀ s' ρ' σ' H', De.bk s' ρ' → Rel Z B0 H0 ρ' s' σ' H' → Stp Z B0 ρ H ρ' H' → D.bk σ' H') ∧
  (∀ s' ρ' σ' H', De.ct s' ρ' → Rel Z B0 H0 ρ' s' σ' H' → Stp Z B0 ρ H ρ' H' → D.ct σ' H') ∧
  (∀ r s' v H', De.rt r s' → Z.ok s' H' → Gr Z H0 H' → RvR Z B0 [] H0 H' v r → D.rt v H')
abbrev DS (Z : Zn) (X : Cx) (st : Stmt) (d : DSt Z) : Prop := PS X st (liftS Z d)
abbrev DSs (Z : Zn) (X : Cx) (st : List Stmt) (d : DSt Z) : Prop := PSs X st (liftS Z d)
section
variable {Z : Zn} {X : Cx} {B0 : Addr → Prop} {H0 H H1 H2 : Hp} {ρ ρ1 ρ2 : List Sl} {s s1 s2 : Z.S} {σ : L2.St} {v u : V} {r x y : Rv} {e a b c : Expr} {es rest : List Expr} {de da db dc : DX Z} {dt du : DT Z} {das : DA Z} {pos p : Pos} {K : PySem.W.Frag} {B : Addr → Prop} {st : Stmt} {sts : List Stmt} {t t' : DSt Z}
theorem PS.of {t t' : TS} (h : PS X st t) (w : ∀ D σ H, t' D σ H → t D σ H) : PS X st t' := ⟨fun pins s σ H D I q => h.run pins s σ H D I (w D σ H q)⟩
theorem PSs.of {t t' : TS} (h : PSs X sts t) (w : ∀ D σ H, t' D σ H → t D σ H) : PSs X sts t' := ⟨fun pins s σ H D I q => h.run pins s σ H D I (w D σ H q)⟩
theorem Stp.refl : Stp Z B0 ρ H ρ H := ⟨fun _ _ h _ => h, fun _ _ h => h, fun _ _ _ h => h, fun _ h => .inl h⟩
theorem Stp.trans (R : Rel Z B0 H0 ρ1 s1 σ H1) (a : Stp Z B0 ρ H ρ1 H1) (b : Stp Z B0 ρ1 H1 ρ2 H2) : Stp Z B0 ρ H ρ2 H2 := by
  refine ⟨fun c o h n => b.keep c o (a.keep c o h n) fun z => ?_, fun c xs h => b.tups c xs (a.tups c xs h), fun c o u h => b.frzs c o u (a.frzs c o u h), fun c hc => ?_⟩
  · rcases z with z | z | z
    · exact n (.inl z)
    · exact n (.inr (.inl z))
    · rcases a.owns c z with z | z
      · exact n (.inr (.inr z))
      · rw [z] at h; cases h
  · rcases b.owns c hc with z | z
    · exact a.owns c z
    · by_cases hb : Bad Z B0 ρ c
      · rcases hb with hb | hb | hb
        · exact absurd z (Z.trk R.ok hb)
        · exact absurd z (R.btr c hb)
        · exact .inl hb
      · cases e : H c with
        | none => exact .inr rfl
        | some o =>
          rw [a.keep c o e hb] at z
          cases z
theorem Gr.stp (R : Rel Z B0 H0 ρ s σ H) (g : Gr Z H H1) : Stp Z B0 ρ H ρ H1 := ⟨fun b o h n => g b o h fun z => n (.inl z), fun b xs h => g b _ h (Zn.ntup R.ok h), fun b o u h => g b _ h (Zn.nfrz R.ok h), fun _ h => .inl h⟩
/-! ### the list of owned addresses -/
theorem own_cons (x : Sl) (ρ : List Sl) : own (x :: ρ) = (ownOf x).toList ++ own ρ := by
  unfold own
  rw [List.filterMap_cons]
  cases ownOf x <;> rfl
theorem mem_own_set {i : Nat} {x : Sl} {a : Addr} (h : a ∈ own (ρ.set i x)) : a ∈ own ρ ∨ ownOf x = some a := by
  obtain ⟨y, hy, e⟩ := List.mem_filterMap.mp h
  rcases List.mem_or_eq_of_mem_set hy with z | z
  · exact .inl (List.mem_filterMap.mpr ⟨y, z, e⟩)
  · subst z
    exact .inr e
theorem nodup_own_set : ∀ {ρ : List Sl} {i : Nat} {x : Sl}, (own ρ).Nodup → (∀ a, ownOf x = some a → a ∉ own ρ) → (own (ρ.set i x)).Nodup
  | [], _, _, h, _ => h
  | y :: ρ, 0, x, h, hx => by
    rw [List.set_cons_zero, own_cons]
    rw [own_cons] at h
    have h2 : (own ρ).Nodup := (List.nodup_append.mp h).2.1
    cases e : ownOf x with
    | none => exact h2
    | some a =>
      refine List.nodup_cons.mpr ⟨fun z => hx a e ?_, h2⟩
      rw [own_cons]
      exact List.mem_append_right _ z
  | y :: ρ, i + 1, x, h, hx => by
    rw [List.set_cons_succ, own_cons]
    rw [own_cons] at h
    obtain ⟨h1, h2, h3⟩ := List.nodup_append.mp h
    refine List.nodup_append.mpr ⟨h1, nodup_own_set h2 fun a e z => hx a e ?_, fun a ha b hb => ?_⟩
    · rw [own_cons]
      exact List.mem_append_right _ z
    · rcases mem_own_set hb with z | z
      · exact h3 a ha b z
      · intro e
        subst e
        refine hx a z ?_
        rw [own_cons]
        exact List.mem_append_left _ ha
theorem own_set_same : ∀ {ρ : List Sl} {i : Nat} {a : Addr} {l l' : List PyData}, ρ[i]? = some (Sl.ow a l) → own (ρ.set i (Sl.ow a l')) = own ρ
  | [], _, _, _, _, h => by cases h
  | y :: ρ, 0, a, l, l', h => by
    cases h
    rfl
  | y :: ρ, i + 1, a, l, l', h => by
    rw [List.set_cons_succ, own_cons, own_cons, own_set_same (i := i) h]
theorem bad_set {i : Nat} {x : Sl} {a : Addr} (hx : ownOf x = none) (h : Bad Z B0 (ρ.set i x) a) : Bad Z B0 ρ a := by
  rcases h with h | h | h
  · exact .inl h
  · exact .inr (.inl h)
  · rcases mem_own_set h with z | z
    · exact .inr (.inr z)
    · rw [hx] at z; cases z
/-! ### stores -/
theorem ImAll.bad {B' : Addr → Prop} {vs : List V} {ds : List PyData} (hB : ∀ a, B' a → B a) (h : ImAll B H vs ds) : ImAll B' H vs ds := h.mono (fun b o e n => ⟨e, fun z => n (hB b z)⟩) (fun _ _ e => e) (fun _ _ _ e => e)
theorem Im.bad {B' : Addr → Prop} {d : PyData} (hB : ∀ a, B' a → B a) (h : Im B H v d) : Im B' H v d := h.mono (fun b o e n => ⟨e, fun z => n (hB b z)⟩) (fun _ _ e => e) (fun _ _ _ e => e)
theorem ImPs.bad {κ : Type} {B' : Addr → Prop} {vs : List (κ × V)} {ds : List (κ × PyData)} (hB : ∀ a, B' a → B a) (h : ImPs B H vs ds) : ImPs B' H vs ds := h.mono (fun b o e n => ⟨e, fun z => n (hB b z)⟩) (fun _ _ e => e) (fun _ _ _ e => e)
theorem SlR.bad {B' : Addr → Prop} {x : Sl} {o : Option V} (hB : ∀ a, B' a → B a) (h : SlR B H x o) : SlR B' H x o := by
  cases x with
  | no => trivial
  | im d =>
    obtain ⟨v, h1, h2⟩ := h
    exact ⟨v, h1, h2.bad hB⟩
  | ow a l =>
    obtain ⟨h1, xs, h2, h3⟩ := h
    exact ⟨h1, xs, h2, h3.bad hB⟩
  | od a l =>
    obtain ⟨h1, xs, h2, h3⟩ := h
    exact ⟨h1, xs, h2, h3.bad hB⟩
  | ot a l =>
    obtain ⟨h1, xs, h2, h3⟩ := h
    exact ⟨h1, xs, h2, h3.bad hB⟩
  | raw v => exact h
theorem set_get {α : Type} {l : List α} {i j : Nat} {x y : α} (h : (l.set i x)[j]? = some y) : (i = j ∧ y = x) ∨ (i ≠ j ∧ l[j]? = some y) := by
  by_cases z : i = j
  · subst z
    rw [List.getElem?_set_self'] at h
    cases e : l[i]? with
    | none => rw [e] at h; cases h
    | some w => rw [e] at h; cases h; exact .inl ⟨rfl, rfl⟩
  · rw [List.getElem?_set_ne z] at h
    exact .inr ⟨z, h⟩
/-- a slot gets what is no owned list -/
theorem Rel.put (R : Rel Z B0 H0 ρ s σ H) {i : Nat} {x : Sl} {o : Option V} (hx : ownOf x = none) (h : SlR (Bad Z B0 ρ) H x o) : Rel Z B0 H0 (ρ.set i x) s (σ.set i o) H := by
  refine ⟨R.ok, by rw [List.length_set, List.length_set]; exact R.len, fun j y e => ?_, nodup_own_set R.nd (fun a z => by rw [hx] at z; cases z), fun a ha => ?_, R.btr, R.frm⟩
  · rcases set_get e with ⟨rfl, rfl⟩ | ⟨ne, e⟩
    · refine ⟨o, ?_, h.bad fun a z => bad_set hx z⟩
      have : i < σ.length := by
        rw [R.len]
        rcases Nat.lt_or_ge i ρ.length with z | z
        · exact z
        · rw [List.getElem?_eq_none (by rw [List.length_set]; exact z)] at e; cases e
      rw [List.getElem?_set_self this]
    · obtain ⟨o', h1, h2⟩ := R.sl j y e
      exact ⟨o', by rw [List.getElem?_set_ne ne]; exact h1, h2.bad fun a z => bad_set hx z⟩
  · rcases mem_own_set ha with z | z
    · exact R.fr a z
    · rw [hx] at z; cases z
theorem Rel.putO (R : Rel Z B0 H0 ρ s σ H) (ok : Z.ok s1 H1) (g : Gr Z H H1) {i : Nat} {q : Addr} {xs : List V} {l : List PyData} (hq : H q = none) (hl : H1 q = some (.lst xs)) (h : ImAll (fun a => Bad Z B0 ρ a ∨ a = q) H1 xs l) : Rel Z B0 H0 (ρ.set i (.ow q l)) s1 (σ.set i (some (.ref q))) H1 := by
  have nz : ¬ Z.at_ q := fun z => Z.trk R.ok z hq
  have nb : ¬ B0 q := fun z => R.btr q z hq
  have no : q ∉ own ρ := fun z => R.otr z hq
  have R1 := R.grow ok g
  have hB : ∀ a, Bad Z B0 (ρ.set i (.ow q l)) a → Bad Z B0 ρ a ∨ a = q := fun a z => by
    rcases z with z | z | z
    · exact .inl (.inl z)
    · exact .inl (.inr (.inl z))
    · rcases mem_own_set z with z | z
      · exact .inl (.inr (.inr z))
      · cases z; exact .inr rfl
  have kl : ∀ b o, H b = some o → ¬ Bad Z B0 ρ b → H1 b = some o ∧ ¬ Bad Z B0 (ρ.set i (.ow q l)) b := fun b o e n => ⟨g b o e fun z => n (.inl z), fun z => (hB b z).elim n fun z => by subst z; rw [hq] at e; cases e⟩
  have kt : ∀ b ys, H b = some (.tup ys) → H1 b = some (.tup ys) := fun b ys e => g b _ e (Zn.ntup R.ok e)
  have kf : ∀ b o u, H b = some (.frz o u) → H1 b = some (.frz o u) := fun b o u e => g b _ e (Zn.nfrz R.ok e)
  refine ⟨ok, by rw [List.length_set, List.length_set]; exact R.len, fun j y e => ?_, nodup_own_set R.nd (fun a z => by cases z; exact no), fun a ha => ?_, R1.btr, R1.frm⟩
  · rcases set_get e with ⟨rfl, rfl⟩ | ⟨ne, e⟩
    · have hi : i < σ.length := by
        rw [R.len]
        rcases Nat.lt_or_ge i ρ.length with z | z
        · exact z
        · rw [List.getElem?_eq_none (by rw [List.length_set]; exact z)] at e; cases e
      exact ⟨_, by rw [List.getElem?_set_self hi], rfl, xs, hl, h.bad hB⟩
    · obtain ⟨o', h1, h2⟩ := R.sl j y e
      refine ⟨o', by rw [List.getElem?_set_ne ne]; exact h1, ?_⟩
      cases y with
      | no => trivial
      | im d =>
        obtain ⟨w, h3, h4⟩ := h2
        exact ⟨w, h3, h4.mono kl kt kf⟩
      | ow a m =>
        obtain ⟨h3, ys, h4, h5⟩ := h2
        exact ⟨h3, ys, g a _ h4 (R.fr a (own_mem e)).2.1, h5.mono kl kt kf⟩
      | od a m =>
        obtain ⟨h3, ys, h4, h5⟩ := h2
        exact ⟨h3, ys, g a _ h4 (R.fr a (own_memG e rfl)).2.1, h5.mono kl kt kf⟩
      | ot a m =>
        obtain ⟨h3, ys, h4, h5⟩ := h2
        exact ⟨h3, ys, g a _ h4 (R.fr a (own_memG e rfl)).2.1, h5.mono kl kt kf⟩
      | raw w => exact h2
  · rcases mem_own_set ha with z | z
    · exact R.fr a z
    · cases z
      exact ⟨R.h0 hq, nz, nb⟩
/-- an owned list is changed -/
theorem Rel.mutL (R : Rel Z B0 H0 ρ s σ H) {i : Nat} {q : Addr} {xs : List V} {l l' : List PyData} (hi : ρ[i]? = some (.ow q l)) (h : ImAll (Bad Z B0 ρ) H xs l') : Rel Z B0 H0 (ρ.set i (.ow q l')) s σ (upd H q (.lst xs)) := by
  have mq := own_mem hi
  obtain ⟨f1, f2, f3⟩ := R.fr q mq
  obtain ⟨o0, s0, e0, xs0, hq0, _⟩ := R.sl i _ hi
  have eo : own (ρ.set i (.ow q l')) = own ρ := own_set_same hi
  have eB : ∀ a, Bad Z B0 (ρ.set i (.ow q l')) a ↔ Bad Z B0 ρ a := fun a => by unfold Bad; rw [eo]
  have kl : ∀ b o, H b = some o → ¬ Bad Z B0 ρ b → upd H q (.lst xs) b = some o ∧ ¬ Bad Z B0 (ρ.set i (.ow q l')) b := fun b o e n => ⟨by rw [upd_ne (fun z => n (by rw [z]; exact .inr (.inr mq)))]; exact e, fun z => n ((eB b).mp z)⟩
  have kt : ∀ b ys, H b = some (.tup ys) → upd H q (.lst xs) b = some (.tup ys) := fun b ys e => by rw [upd_ne (fun z => by rw [z, hq0] at e; cases e)]; exact e
  have kf : ∀ b o u, H b = some (.frz o u) → upd H q (.lst xs) b = some (.frz o u) := fun b o u e => by rw [upd_ne (fun z => by rw [z, hq0] at e; cases e)]; exact e
  refine ⟨Z.st R.ok (fun b o z e => by rw [upd_ne (fun y => f2 (by rw [← y]; exact z))]; exact e) kt kf (fun b u e => by rw [upd_ne (fun z => by rw [z, hq0] at e; cases e)]; exact e), by rw [List.length_set]; exact R.len, fun j y e => ?_, by rw [eo]; exact R.nd, fun a ha => by rw [eo] at ha; exact R.fr a ha, fun a ha z => ?_, fun b o e n => ?_⟩
  · rcases set_get e with ⟨rfl, rfl⟩ | ⟨ne, e9⟩
    · exact ⟨o0, s0, e0, xs, upd_same, h.mono kl kt kf⟩
    · obtain ⟨o', h1, h2⟩ := R.sl j y e9
      refine ⟨o', h1, ?_⟩
      cases y with
      | no => trivial
      | im d =>
        obtain ⟨w, h3, h4⟩ := h2
        exact ⟨w, h3, h4.mono kl kt kf⟩
      | ow a m =>
        obtain ⟨h3, ys, h4, h5⟩ := h2
        have : a ≠ q := fun z => by
          subst z
          exact ne (own_inj R.nd hi e9)
        exact ⟨h3, ys, by rw [upd_ne this]; exact h4, h5.mono kl kt kf⟩
      | od a m =>
        obtain ⟨h3, ys, h4, h5⟩ := h2
        have : a ≠ q := fun z => by
          subst z
          rw [hq0] at h4
          cases h4
        exact ⟨h3, ys, by rw [upd_ne this]; exact h4, h5.mono kl kt kf⟩
      | ot a m =>
        obtain ⟨h3, ys, h4, h5⟩ := h2
        have : a ≠ q := fun z => by
          subst z
          rw [hq0] at h4
          cases h4
        exact ⟨h3, ys, by rw [upd_ne this]; exact h4, h5.mono kl kt kf⟩
      | raw w => exact h2
  · by_cases y : a = q
    · exact f3 (by rw [← y]; exact ha)
    · rw [upd_ne y] at z
      exact R.btr a ha z
  · rw [upd_ne (fun z => by rw [z, f1] at e; cases e)]
    exact R.frm b o e n
where
  own_inj {ρ : List Sl} {i j : Nat} {q : Addr} {l m : List PyData} (nd : (own ρ).Nodup) (h1 : ρ[i]? = some (.ow q l)) (h2 : ρ[j]? = some (.ow q m)) : i = j := by
    induction ρ generalizing i j with
    | nil => cases h1
    | cons y ρ ih =>
      rw [own_cons] at nd
      obtain ⟨n1, n2, n3⟩ := List.nodup_append.mp nd
      cases i with
      | zero =>
        cases j with
        | zero => rfl
        | succ j =>
          cases h1
          exact absurd rfl (n3 q (by simp [ownOf]) q (own_mem (i := j) h2))
      | succ i =>
        cases j with
        | zero =>
          cases h2
          exact absurd rfl (n3 q (by simp [ownOf]) q (own_mem (i := i) h1))
        | succ j => rw [ih n2 (i := i) (j := j) h1 h2]
theorem mut_stp (R : Rel Z B0 H0 ρ s σ H) {i : Nat} {q : Addr} {xs : List V} {l l' : List PyData} (hi : ρ[i]? = some (.ow q l)) : Stp Z B0 ρ H (ρ.set i (.ow q l')) (upd H q (.lst xs)) := by
  have mq := own_mem hi
  obtain ⟨o0, s0, e0, xs0, hq0, _⟩ := R.sl i _ hi
  refine ⟨fun b o e n => by rw [upd_ne (fun z => n (by rw [z]; exact .inr (.inr mq)))]; exact e, fun b ys e => by rw [upd_ne (fun z => by rw [z, hq0] at e; cases e)]; exact e, fun b o u e => by rw [upd_ne (fun z => by rw [z, hq0] at e; cases e)]; exact e, fun a ha => .inl ?_⟩
  rw [own_set_same hi] at ha
  exact ha
/-- name = value -/
def stR (r : Rv) (i : Nat) (ρ : List Sl) (Q : List Sl → Prop) : Prop := match r with
  | .im d => Q (ρ.set i (.im d))
  | .fr l => ∀ a, Q (ρ.set i (.ow a l))
  | .rw v => Q (ρ.set i (.raw v))
  | .bo _ => False
theorem stR_ok (R : Rel Z B0 H0 ρ s σ H) (R1 : Rel Z B0 H0 ρ s1 σ H1) (g : Gr Z H H1) (h : RvR Z B0 ρ H H1 v r) {i : Nat} {Q : List Sl → Prop} (q : stR r i ρ Q) : ∃ ρ', Q ρ' ∧ Rel Z B0 H0 ρ' s1 (σ.set i (some v)) H1 ∧ Stp Z B0 ρ H ρ' H1 := by
  have st := g.stp R
  cases r with
  | im d =>
    refine ⟨_, q, R1.put rfl ⟨v, rfl, h⟩, st.keep, st.tups, st.frzs, fun a ha => ?_⟩
    rcases mem_own_set ha with z | z
    · exact .inl z
    · cases z
  | rw w =>
    refine ⟨_, q, R1.put rfl (by cases (show v = w from h); rfl), st.keep, st.tups, st.frzs, fun a ha => ?_⟩
    rcases mem_own_set ha with z | z
    · exact .inl z
    · cases z
  | fr l =>
    obtain ⟨p, xs, rfl, h1, h2, h3, h4⟩ := h
    refine ⟨_, q p, R.putO R1.ok g h1 h3 h4, st.keep, st.tups, st.frzs, fun a ha => ?_⟩
    rcases mem_own_set ha with z | z
    · exact .inl z
    · cases z
      exact .inr h1
  | bo l => exact q.elim
def dSet (i : Nat) (de : DX Z) : DSt Z := fun De s ρ => de s ρ fun r s1 => stR r i ρ fun ρ' => De.nx s1 ρ'
theorem lift_set {i : Nat} {D : Ends} {σ : L2.St} {H : Hp} (h : liftS Z (dSet i de) D σ H) : tAsg (liftE Z de) (gName i) D σ H := by
  obtain ⟨B0, H0, ρ, s, De, R, hd, hn, _⟩ := h
  refine ⟨B0, H0, ρ, s, _, R, hd, fun r s1 v H1 qx R1 g1 r1 => ?_⟩
  obtain ⟨ρ', q, R', st⟩ := stR_ok R R1 g1 r1 qx
  exact hn s1 ρ' _ H1 q R' st
theorem ds_set {i : Nat} {n : Str} {pos' : Pos} (hN : X.N.Nodup) (hi : X.N[i]? = some n) (hx : Loc X.env.scope n) (he : DE Z X e de) (hs : swapsWith e (some (.Name n pos')) pos.line X.env = pure false := by rfl) (hf : X.fn n = true ∨ X.env.scope.names.lookup n = some .local := by first | exact .inl rfl | exact .inr rfl | assumption) :
    DS Z X (.Assign [.Name n pos'] e pos) (dSet i de) := PS.of (ps_set hN hi hx he hs hf) fun D σ H h => lift_set h
/-! ### blocks -/
def dNext : DSt Z := fun De s ρ => De.nx s ρ
def dSeq (t u : DSt Z) : DSt Z := fun De s ρ => t { De with nx := u De } s ρ
theorem ds_nil : DSs Z X [] dNext := PSs.of pss_nil fun D σ H ⟨B0, H0, ρ, s, De, R, hd, hn, _⟩ => hn s ρ σ H hd R Stp.refl
theorem ds_cons (h1 : DS Z X st t) (h2 : DSs Z X sts t') : DSs Z X (st :: sts) (dSeq t t') := by
  refine PSs.of (pss_cons h1 h2) fun D σ H ⟨B0, H0, ρ, s, De, R, hd, hn, hb, hc, hr⟩ => ?_
  refine ⟨B0, H0, ρ, s, _, R, hd, fun s1 ρ1 σ1 H1 q R1 st => ?_, hb, hc, hr⟩
  exact ⟨B0, H0, ρ1, s1, De, R1, q, fun s2 ρ2 σ2 H2 q R2 st2 => hn s2 ρ2 σ2 H2 q R2 (st.trans R1 st2), fun s2 ρ2 σ2 H2 q R2 st2 => hb s2 ρ2 σ2 H2 q R2 (st.trans R1 st2), fun s2 ρ2 σ2 H2 q R2 st2 => hc s2 ρ2 σ2 H2 q R2 (st.trans R1 st2), hr⟩
theorem ds_one (h1 : DS Z X st t) : DSs Z X [st] t := pss_one h1
theorem ds_pass : DS Z X (.Pass pos) dNext := PS.of ps_pass fun D σ H ⟨B0, H0, ρ, s, De, R, hd, hn, _⟩ => hn s ρ σ H hd R Stp.refl
def dBreak : DSt Z := fun De s ρ => De.bk s ρ
def dCont : DSt Z := fun De s ρ => De.ct s ρ
theorem ds_break : DS Z X (.Break pos) dBreak := PS.of ps_break fun D σ H ⟨B0, H0, ρ, s, De, R, hd, _, hb, _⟩ => hb s ρ σ H hd R Stp.refl
theorem ds_cont : DS Z X (.Continue pos) dCont := PS.of ps_continue fun D σ H ⟨B0, H0, ρ, s, De, R, hd, _, _, hc, _⟩ => hc s ρ σ H hd R Stp.refl
def dIfS (c : DT Z) (t u : DSt Z) : DSt Z := fun De s ρ => c s ρ fun b s1 => if b = true then t De s1 ρ else u De s1 ρ
theorem ds_if {as bs : List Stmt} (hc : DTs Z X c dt) (ha : DSs Z X as t) (hb : DSs Z X bs t') : DS Z X (.If c as bs pos) (dIfS dt t t') := by
  refine PS.of (ps_if hc ha hb) fun D σ H ⟨B0, H0, ρ, s, De, R, hd, hn, hb, hc, hr⟩ => ?_
  refine ⟨B0, H0, ρ, s, _, R, hd, fun b s1 H1 q R1 g => ?_⟩
  have st := g.stp R
  cases b with
  | true => exact ⟨B0, H0, ρ, s1, De, R1, q, fun s2 ρ2 σ2 H2 q R2 st2 => hn s2 ρ2 σ2 H2 q R2 (st.trans R1 st2), fun s2 ρ2 σ2 H2 q R2 st2 => hb s2 ρ2 σ2 H2 q R2 (st.trans R1 st2), fun s2 ρ2 σ2 H2 q R2 st2 => hc s2 ρ2 σ2 H2 q R2 (st.trans R1 st2), hr⟩
  | false => exact ⟨B0, H0, ρ, s1, De, R1, q, fun s2 ρ2 σ2 H2 q R2 st2 => hn s2 ρ2 σ2 H2 q R2 (st.trans R1 st2), fun s2 ρ2 σ2 H2 q R2 st2 => hb s2 ρ2 σ2 H2 q R2 (st.trans R1 st2), fun s2 ρ2 σ2 H2 q R2 st2 => hc s2 ρ2 σ2 H2 q R2 (st.trans R1 st2), hr⟩
/-- a result that leaves the def -/
def Rv.ret : Rv → Rv
  | .bo l => .fr l
  | r => r
theorem ret_ok (R : Rel Z B0 H0 ρ s σ H) (R1 : Rel Z B0 H0 ρ s1 σ H1) (h : RvR Z B0 ρ H H1 v r) : RvR Z B0 [] H0 H1 v r.ret := by
  have hB : ∀ a, Bad Z B0 [] a → Bad Z B0 ρ a := fun a z => by
    rcases z with z | z | z
    · exact .inl z
    · exact .inr (.inl z)
    · cases z
  cases r with
  | im d => exact Im.bad hB h
  | rw w => exact h
  | fr l =>
    obtain ⟨p, xs, rfl, h1, h2, h3, h4⟩ := h
    exact ⟨p, xs, rfl, R.h0 h1, h2, h3, h4.bad fun a z => z.imp (hB a) id⟩
  | bo l =>
    obtain ⟨a, xs, h1, rfl, h3, h4⟩ := h
    obtain ⟨f1, f2, _⟩ := R.fr a h1
    exact ⟨a, xs, rfl, f1, f2, h3, h4.bad fun b z => z.elim (hB b) fun z => by rw [z]; exact .inr (.inr h1)⟩
def dRet (de : DX Z) : DSt Z := fun De s ρ => de s ρ fun r s1 => De.rt r.ret s1
theorem ds_ret (he : DE Z X e de) : DS Z X (.Return (some e) pos) (dRet de) := by
  refine PS.of (ps_ret he) fun D σ H ⟨B0, H0, ρ, s, De, R, hd, _, _, _, hr⟩ => ?_
  refine ⟨B0, H0, ρ, s, _, R, hd, fun r s1 v H1 q R1 g r1 => ?_⟩
  exact hr _ s1 v H1 q R1.ok (fun b o e n => R1.frm b o e n) (ret_ok R R1 r1)
def dExpr (de : DX Z) : DSt Z := fun De s ρ => de s ρ fun _ s1 => De.nx s1 ρ
theorem ds_expr (he : DE Z X e de) (hs : swapsWith e none pos.line X.env = pure false := by rfl) : DS Z X (.Expr e pos) (dExpr de) := by
  refine PS.of (ps_expr he hs) fun D σ H ⟨B0, H0, ρ, s, De, R, hd, hn, _⟩ => ?_
  exact ⟨B0, H0, ρ, s, _, R, hd, fun r s1 v H1 q R1 g r1 => hn s1 ρ σ H1 q R1 (g.stp R)⟩
end
end Lf
namespace Lf
open PySem PySem.Spec PyProof.Rows L2
section
variable {Z : Zn} {X : Cx} {B0 : Addr → Prop} {H0 H H1 H2 : Hp} {ρ ρ1 ρ2 : List Sl} {s s1 s2 : Z.S} {σ : L2.St} {v u : V} {r x y : Rv} {e a b c : Expr} {es rest : List Expr} {de da db dc : DX Z} {dt du : DT Z} {das : DA Z} {pos p : Pos} {K : PySem.W.Frag} {B : Addr → Prop} {st : Stmt} {sts : List Stmt} {t t' : DSt Z}
/-! ### methods that change a list -/
abbrev Mth := List PyData → List Rv → (PyData → List PyData → Prop) → Prop
def Mt2 (rr : V → List V → Hp → VK → Prop) (m : Mth) : Prop := ∀ (Z : Zn) (B0 : Addr → Prop) (ρ : List Sl) (s s' : Z.S) (H0 : Hp) (σ : L2.St) (Ha H : Hp) (q : Addr) (xs vs : List V) (l : List PyData) (rs : List Rv) (Qm : PyData → List PyData → Prop) (Q : VK), Rel Z B0 H0 ρ s σ Ha → Rel Z B0 H0 ρ s' σ H →
  H q = some (.lst xs) → ImAll (Bad Z B0 ρ) H xs l → RvRs Z B0 ρ Ha H vs rs → m l rs Qm → (∀ d v' l' xs', Qm d l' → Im (Bad Z B0 ρ) H v' d → ImAll (Bad Z B0 ρ) H xs' l' → Q v' (upd H q (.lst xs'))) → rr (.ref q) vs H Q
def mApp : Mth := fun l rs Q => match rs with
  | [r] => ∃ d, r.st = some d ∧ l.length < 1000000 ∧ Q .none (l ++ [d])
  | _ => False
theorem smL {n : Nat} (h : n < 1000000) : n < sizeLine := by rw [sizeLine_eq]; omega
theorem m2_app : Mt2 rAppend mApp := by
  intro Z B0 ρ s s' H0 σ Ha H q xs vs l rs Qm Q Ra R hq im rr m k
  unfold mApp at m
  split at m
  · obtain ⟨d, h1, h2, m⟩ := m
    obtain ⟨v, rfl, r1⟩ := rr.one
    exact ⟨q, xs, v, rfl, rfl, hq, by rw [im.length]; exact smL h2, k _ _ _ _ m .non (im.snoc (RvR.st Ra r1 h1))⟩
  · exact m.elim
def mPop : Mth := fun l rs Q => match rs with
  | [] => ∃ d, l[l.length - 1]? = some d ∧ Q d l.dropLast
  | _ => False
theorem ImAll.dropLast : ∀ {vs : List V} {ds : List PyData}, ImAll B H vs ds → ImAll B H vs.dropLast ds.dropLast
  | _, _, .nil => .nil
  | _, _, .cons _ .nil => .nil
  | _, _, .cons h (.cons h2 q) => .cons h (ImAll.dropLast (.cons h2 q))
theorem m2_pop : Mt2 rPop mPop := by
  intro Z B0 ρ s s' H0 σ Ha H q xs vs l rs Qm Q Ra R hq im rr m k
  unfold mPop at m
  split at m
  · obtain ⟨d, h1, m⟩ := m
    cases rr
    rw [← im.length] at h1
    obtain ⟨w, hw, iw⟩ := im.get h1
    exact ⟨q, xs, w, rfl, rfl, hq, hw, k _ _ _ _ m iw im.dropLast⟩
  · exact m.elim
def mPopAt : Mth := fun l rs Q => match rs with
  | [r] => match r.D with
    | some (.int i) => 0 ≤ i ∧ i < 1000000 ∧ ∃ d, l[i.toNat]? = some d ∧ Q d (l.eraseIdx i.toNat)
    | _ => False
  | _ => False
theorem ImAll.erase : ∀ {vs : List V} {ds : List PyData} (n : Nat), ImAll B H vs ds → ImAll B H (vs.eraseIdx n) (ds.eraseIdx n)
  | _, _, _, .nil => .nil
  | _, _, 0, .cons _ q => q
  | _, _, n + 1, .cons h q => .cons h (q.erase n)
theorem m2_popAt : Mt2 rPopAt mPopAt := by
  intro Z B0 ρ s s' H0 σ Ha H q xs vs l rs Qm Q Ra R hq im rr m k
  unfold mPopAt at m
  split at m
  · obtain ⟨v, rfl, r1⟩ := rr.one
    split at m
    · rename_i i e1
      obtain ⟨h0, hb, d, h1, m⟩ := m
      obtain ⟨w, hw, iw⟩ := im.get h1
      rw [r1.vI e1]
      have hlt : i.toNat < xs.length := (List.getElem?_eq_some_iff.mp hw).1
      exact ⟨q, xs, i, i.toNat, w, rfl, rfl, hq, by omega, by omega, PySem.StrLaws.seqIndex_nonneg h0 (by omega), hw, k _ _ _ _ m iw (im.erase _)⟩
    · exact m.elim
  · exact m.elim
def mIns : Mth := fun l rs Q => match rs with
  | [r, x] => match r.D with
    | some (.int i) => 0 ≤ i ∧ i < 1000000 ∧ ∃ d, x.st = some d ∧ l.length < 1000000 ∧ Q .none (l.take i.toNat ++ [d] ++ l.drop i.toNat)
    | _ => False
  | _ => False
theorem m2_ins : Mt2 (fun x vs H Q => ∃ (l : Addr) (xs : List V) (i : Int) (y : V), x = .ref l ∧ vs = [.int i, y] ∧ H l = some (.lst xs) ∧ xs.length < sizeLine ∧ 0 ≤ i ∧ i < 2 ^ 63 ∧ Q .non (upd H l (.lst (xs.take i.toNat ++ [y] ++ xs.drop i.toNat)))) mIns := by
  intro Z B0 ρ s s' H0 σ Ha H q xs vs l rs Qm Q Ra R hq im rr m k
  unfold mIns at m
  split at m
  · obtain ⟨v, u, rfl, r1, r2⟩ := rr.two
    split at m
    · rename_i i e1
      obtain ⟨h0, hb, d, h1, h2, m⟩ := m
      rw [r1.vI e1]
      exact ⟨q, xs, i, u, rfl, rfl, hq, by rw [im.length]; exact smL h2, h0, by omega, k _ _ _ _ m .non (((im.take _).snoc (RvR.st Ra r2 h1)).append (im.drop _))⟩
    · exact m.elim
  · exact m.elim
def mExt : Mth := fun l rs Q => match rs with
  | [r] => match r.D with
    | some (.list m) => l.length + m.length ≤ 1000000 ∧ Q .none (l ++ m)
    | _ => False
  | _ => False
theorem m2_ext : Mt2 rExtend mExt := by
  intro Z B0 ρ s s' H0 σ Ha H q xs vs l rs Qm Q Ra R hq im rr m k
  unfold mExt at m
  split at m
  · obtain ⟨v, rfl, r1⟩ := rr.one
    split at m
    · rename_i l2 e1
      obtain ⟨b, ys, rfl, h1, h2⟩ := r1.lst e1
      exact ⟨q, b, xs, ys, rfl, rfl, hq, h1, by rw [im.length, h2.length]; exact smB m.1, k _ _ _ _ m.2 .non (im.append h2)⟩
    · exact m.elim
  · exact m.elim
/-- xs.m(..) alone -/
def dMt (i : Nat) (m : Mth) (da : DA Z) : DSt Z := fun De s ρ => match ρ[i]? with
  | some (.ow q l) => da s ρ fun rs s1 => m l rs fun _ l' => De.nx s1 (ρ.set i (.ow q l'))
  | _ => False
/-- x = xs.m(..) -/
def dSetMt (j i : Nat) (m : Mth) (da : DA Z) : DSt Z := fun De s ρ => match ρ[i]? with
  | some (.ow q l) => da s ρ fun rs s1 => m l rs fun d l' => De.nx s1 ((ρ.set i (.ow q l')).set j (.im d))
  | _ => False
theorem lift_mt {i : Nat} {m : Mth} {rr : V → List V → Hp → VK → Prop} (h2 : Mt2 rr m) {D : Ends} {σ : L2.St} {H : Hp} (h : liftS Z (dMt i m das) D σ H) : tDrop (tBM K "list" rr (tVar i) (liftA Z das)) D σ H := by
  obtain ⟨B0, H0, ρ, s, De, R, hd, hn, _⟩ := h
  unfold dMt at hd
  split at hd
  · rename_i q l e1
    obtain ⟨o, s0, rfl, xs, hq, im⟩ := R.sl i _ e1
    refine ⟨.ref q, s0, .inl ⟨rfl, xs, SqL.of hq⟩, B0, H0, ρ, s, _, R, hd, fun rs s1 vs H1 qx R1 g1 r1 => ?_⟩
    have hq1 := g1 q _ hq (R.fr q (own_mem e1)).2.1
    have im1 := im.grow badZ R.ok g1
    refine h2 Z B0 ρ s s1 H0 σ H H1 q xs vs l rs _ _ R R1 hq1 im1 r1 qx fun d v' l' xs' qd hv hx => ?_
    exact hn s1 _ σ _ qd (R1.mutL e1 hx) ((g1.stp R).trans R1 (mut_stp R1 e1))
  · exact hd.elim
theorem lift_setmt {i j : Nat} {m : Mth} {rr : V → List V → Hp → VK → Prop} (h2 : Mt2 rr m) {D : Ends} {σ : L2.St} {H : Hp} (h : liftS Z (dSetMt j i m das) D σ H) : tAsg (tBM K "list" rr (tVar i) (liftA Z das)) (gName j) D σ H := by
  obtain ⟨B0, H0, ρ, s, De, R, hd, hn, _⟩ := h
  unfold dSetMt at hd
  split at hd
  · rename_i q l e1
    obtain ⟨o, s0, rfl, xs, hq, im⟩ := R.sl i _ e1
    refine ⟨.ref q, s0, .inl ⟨rfl, xs, SqL.of hq⟩, B0, H0, ρ, s, _, R, hd, fun rs s1 vs H1 qx R1 g1 r1 => ?_⟩
    have hq1 := g1 q _ hq (R.fr q (own_mem e1)).2.1
    have im1 := im.grow badZ R.ok g1
    refine h2 Z B0 ρ s s1 H0 σ H H1 q xs vs l rs _ _ R R1 hq1 im1 r1 qx fun d v' l' xs' qd hv hx => ?_
    have R2 := R1.mutL (l' := l') e1 hx
    have st := (g1.stp R).trans R1 (mut_stp (xs := xs') (l' := l') R1 e1)
    have mq := own_mem e1
    obtain ⟨_, _, _, xs0, hq0, _⟩ := R1.sl i _ e1
    have iv : Im (Bad Z B0 (ρ.set i (.ow q l'))) (upd H1 q (.lst xs')) v' d := hv.mono (fun b o e n => ⟨by rw [upd_ne (fun z => n (by rw [z]; exact .inr (.inr mq)))]; exact e, fun z => n (by unfold Bad at z ⊢; rw [own_set_same e1] at z; exact z)⟩) (fun b ys e => by rw [upd_ne (fun z => by rw [z, hq0] at e; cases e)]; exact e) (fun b o u e => by rw [upd_ne (fun z => by rw [z, hq0] at e; cases e)]; exact e)
    refine hn s1 _ _ _ qd (R2.put rfl ⟨v', rfl, iv⟩) ⟨st.keep, st.tups, st.frzs, fun a ha => ?_⟩
    rcases mem_own_set ha with z | z
    · exact st.owns a z
    · cases z
  · exact hd.elim
theorem ds_mt {i : Nat} {n m : Str} {id : String} {mt : Mth} {rr : V → List V → Hp → VK → Prop} {np apos cpos : Pos} (h2 : Mt2 rr mt) (slot : Slot "list" m id) (hty : typeOf (.builtin id) = pure (.type "method_descriptor")) (hm : MtR X id rr) (hN : X.N[i]? = some n) (hv : Vis X.env.scope n) (ha : DAs Z X (e :: es) das)
    (hd : (n == ("__debug__" : Str)) = false := by decide) (hcd : (n == ("__classdict__" : Str)) = false := by decide) (hbase : attributeBase (.Name n np) m X.env (eval (.Name n np) X.env) = eval (.Name n np) X.env := by rfl)
    (hfew : ((backTo cpos (starEach (e :: es) X.env)).all (fun x => !x.1) && (backToKw cpos (keywordEach [] X.env)).all (fun x => x.1.isSome) && decide ((e :: es).length + ([] : List Keyword).length + (if ([] : List Keyword).isEmpty then 0 else 1) < 30)) = true := by rfl)
    (hline : (apos.endLine == cpos.line) = true := by rfl) (hs : starEach (e :: es) X.env = (false, eval e X.env) :: starEach es X.env := by rfl) (hplain : (backTo cpos (starEach es X.env)).any (·.1) = false := by rfl)
    (hsw : swapsWith (.Call (.Attribute (.Name n np) m apos) (e :: es) [] cpos) none pos.line X.env = pure false := by rfl) : DS Z X (.Expr (.Call (.Attribute (.Name n np) m apos) (e :: es) [] cpos) pos) (dMt i mt das) :=
  PS.of (ps_expr (pe_bm PySem.F.plainAttrs_list slot hty hm (pe_var hN hv hd hcd) ha hbase hfew hline hs hplain) hsw) fun D σ H h => lift_mt h2 h
theorem ds_setmt0 {i j : Nat} {n n2 m : Str} {id : String} {mt : Mth} {rr : V → List V → Hp → VK → Prop} {np apos cpos pos' : Pos} (h2 : Mt2 rr mt) (slot : Slot "list" m id) (hty : typeOf (.builtin id) = pure (.type "method_descriptor")) (hm : MtR X id rr) (hNd : X.N.Nodup) (hj : X.N[j]? = some n2) (hx : Loc X.env.scope n2) (hN : X.N[i]? = some n) (hv : Vis X.env.scope n)
    (hd : (n == ("__debug__" : Str)) = false := by decide) (hcd : (n == ("__classdict__" : Str)) = false := by decide) (hbase : attributeBase (.Name n np) m X.env (eval (.Name n np) X.env) = eval (.Name n np) X.env := by rfl)
    (hline : (apos.endLine == cpos.line) = true := by rfl) (hsw : swapsWith (.Call (.Attribute (.Name n np) m apos) [] [] cpos) (some (.Name n2 pos')) pos.line X.env = pure false := by rfl) (hf : X.fn n2 = true ∨ X.env.scope.names.lookup n2 = some .local := by first | exact .inl rfl | exact .inr rfl | assumption) :
    DS Z X (.Assign [.Name n2 pos'] (.Call (.Attribute (.Name n np) m apos) [] [] cpos) pos) (dSetMt j i mt dANil) :=
  PS.of (ps_set hNd hj hx (pe_bm0 PySem.F.plainAttrs_list slot hty hm (pe_var hN hv hd hcd) hbase hline) hsw hf) fun D σ H h => by
    obtain ⟨w, h1, h2, h3⟩ := lift_setmt (K := X.K) (rr := rr) h2 h
    obtain ⟨B0, H0, ρ, s, Qd, R, hd, hq⟩ := h3
    exact ⟨w, h1, h2, hq [] s [] H hd R Gr.refl .nil⟩
theorem ds_setmt {i j : Nat} {n n2 m : Str} {id : String} {mt : Mth} {rr : V → List V → Hp → VK → Prop} {np apos cpos pos' : Pos} (h2 : Mt2 rr mt) (slot : Slot "list" m id) (hty : typeOf (.builtin id) = pure (.type "method_descriptor")) (hm : MtR X id rr) (hNd : X.N.Nodup) (hj : X.N[j]? = some n2) (hx : Loc X.env.scope n2) (hN : X.N[i]? = some n) (hv : Vis X.env.scope n) (ha : DAs Z X (e :: es) das)
    (hd : (n == ("__debug__" : Str)) = false := by decide) (hcd : (n == ("__classdict__" : Str)) = false := by decide) (hbase : attributeBase (.Name n np) m X.env (eval (.Name n np) X.env) = eval (.Name n np) X.env := by rfl)
    (hfew : ((backTo cpos (starEach (e :: es) X.env)).all (fun x => !x.1) && (backToKw cpos (keywordEach [] X.env)).all (fun x => x.1.isSome) && decide ((e :: es).length + ([] : List Keyword).length + (if ([] : List Keyword).isEmpty then 0 else 1) < 30)) = true := by rfl)
    (hline : (apos.endLine == cpos.line) = true := by rfl) (hs : starEach (e :: es) X.env = (false, eval e X.env) :: starEach es X.env := by rfl) (hplain : (backTo cpos (starEach es X.env)).any (·.1) = false := by rfl)
    (hsw : swapsWith (.Call (.Attribute (.Name n np) m apos) (e :: es) [] cpos) (some (.Name n2 pos')) pos.line X.env = pure false := by rfl) (hf : X.fn n2 = true ∨ X.env.scope.names.lookup n2 = some .local := by first | exact .inl rfl | exact .inr rfl | assumption) :
    DS Z X (.Assign [.Name n2 pos'] (.Call (.Attribute (.Name n np) m apos) (e :: es) [] cpos) pos) (dSetMt j i mt das) :=
  PS.of (ps_set hNd hj hx (pe_bm PySem.F.plainAttrs_list slot hty hm (pe_var hN hv hd hcd) ha hbase hfew hline hs hplain) hsw hf) fun D σ H h => lift_setmt h2 h
/-! ### xs[i] = e -/
def dSetIx (i : Nat) (dk de : DX Z) : DSt Z := fun De s ρ => match ρ[i]? with
  | some (.ow q l) => de s ρ fun r s1 => dk s1 ρ fun k s2 => match k.D with
    | some (.int n) => ∃ j d, ixN l.length n = some j ∧ r.st = some d ∧ De.nx s2 (ρ.set i (.ow q (l.set j d)))
    | _ => False
  | _ => False
theorem ds_setIx {i : Nat} {n : Str} {k : Expr} {dk : DX Z} {np ps : Pos} (hN : X.N[i]? = some n) (hv : Vis X.env.scope n) (hk : DE Z X k dk) (he : DE Z X e de) (hd : (n == ("__debug__" : Str)) = false := by decide) (hcd : (n == ("__classdict__" : Str)) = false := by decide)
    (hs : swapsWithSole [.Subscript (.Name n np) k ps] e pos.line X.env = pure false := by rfl) (hw : swappedStores [.Subscript (.Name n np) k ps] e X.env = pure none := by rfl) (h1 : (assignEach [.Subscript (.Name n np) k ps] X.env).map (·.2) = [assign (.Subscript (.Name n np) k ps) X.env] := by rfl)
    (ht : ∀ v, assign (.Subscript (.Name n np) k ps) X.env v = (do
      let ov ← holding [v] (eval (.Name n np) X.env)
      let iv ← holding [v, ov] (eval k X.env)
      standAt ps
      holding [v, ov, iv] (setItem ov iv v)
      release [v, ov, iv] []) := by intro _; rfl) : DS Z X (.Assign [.Subscript (.Name n np) k ps] e pos) (dSetIx i dk de) := by
  refine PS.of (ps_asg he (pg_sub (pe_var hN hv hd hcd) hk set_list ht) hs hw h1) fun D σ H ⟨B0, H0, ρ, s, De, R, hd, hn, _⟩ => ?_
  unfold dSetIx at hd
  split at hd
  · rename_i q l e1
    refine ⟨B0, H0, ρ, s, _, R, hd, fun r s1 v H1 qx R1 g1 r1 => ?_⟩
    obtain ⟨o, s0, rfl, xs, hq, im⟩ := R1.sl i _ e1
    refine ⟨.ref q, s0, B0, H0, ρ, s1, _, R1, qx, fun k s2 w H2 qk R2 g2 r2 => ?_⟩
    split at qk
    · rename_i n e2
      obtain ⟨j, d, h3, h4, q5⟩ := qk
      have hq2 := g2 q _ hq (R1.fr q (own_mem e1)).2.1
      have im2 := im.grow badZ R1.ok g2
      have r12 := (r1.grow R1 g2)
      refine ⟨q, xs, n, j, rfl, r2.vI e2, hq2, by rw [im.length]; exact h3, ?_⟩
      exact hn s2 _ σ _ q5 (R2.mutL e1 (im2.set j (RvR.st R r12 h4))) ((g1.stp R).trans R1 ((g2.stp R1).trans R2 (mut_stp R2 e1)))
    · exact qk.elim
  · exact hd.elim
/-! ### a op= e of ints -/
def dAug (i : Nat) (op : Op) (de : DX Z) : DSt Z := fun De s ρ => match ρ[i]? with
  | some (.im d) => de s ρ fun y s1 => op (.im d) y fun r => stR r i ρ fun ρ' => De.nx s1 ρ'
  | _ => False
theorem ds_aug {i : Nat} {n : Str} {op : Operator} {opd : Op} {rr : R2} {pos' : Pos} (h2 : Op2 X.K rr opd) (ho : OpR X (inplaceOp op) rr) (hN : X.N.Nodup) (hi : X.N[i]? = some n) (hx : Loc X.env.scope n) (he : DE Z X e de) (hf : X.fn n = true ∨ X.env.scope.names.lookup n = some .local := by first | exact .inl rfl | exact .inr rfl | assumption) :
    DS Z X (.AugAssign (.Name n pos') op e pos) (dAug i opd de) := by
  refine PS.of (ps_aug (ti := rr) hN hi hx he ho hf) fun D σ H ⟨B0, H0, ρ, s, De, R, hd, hn, _⟩ => ?_
  unfold dAug at hd
  split at hd
  · rename_i d e1
    obtain ⟨o, s0, v, rfl, im⟩ := R.sl i _ e1
    refine ⟨v, s0, B0, H0, ρ, s, _, R, hd, fun y s1 u H1 qx R1 g1 r1 => ?_⟩
    refine h2 Z B0 ρ s1 H0 σ H H H1 v u (.im d) y _ _ R1 (RvR.grow (r := .im d) (H := H) R g1 im) r1 qx fun r' v' H' q sm rr => ?_
    obtain ⟨ρ', q', R', st⟩ := stR_ok R (R1.same sm) (g1.trans (Gr.of sm)) (rr.back R1.ok g1) q
    exact hn s1 ρ' _ H' q' R' st
  · exact hd.elim
theorem ds_iadd {i : Nat} {n : Str} {pos' : Pos} (hN : X.N.Nodup) (hi : X.N[i]? = some n) (hx : Loc X.env.scope n) (he : DE Z X e de) (hf : X.fn n = true ∨ X.env.scope.names.lookup n = some .local := by first | exact .inl rfl | exact .inr rfl | assumption) : DS Z X (.AugAssign (.Name n pos') .Add e pos) (dAug i (opI0 fun i j => .int (i + j)) de) := ds_aug (op2_I0 fun _ _ _ _ => .int _) iop_add hN hi hx he hf
theorem ds_isub {i : Nat} {n : Str} {pos' : Pos} (hN : X.N.Nodup) (hi : X.N[i]? = some n) (hx : Loc X.env.scope n) (he : DE Z X e de) (hf : X.fn n = true ∨ X.env.scope.names.lookup n = some .local := by first | exact .inl rfl | exact .inr rfl | assumption) : DS Z X (.AugAssign (.Name n pos') .Sub e pos) (dAug i opSub de) := ds_aug (op2_I0 fun _ _ _ _ => .int _) iop_sub hN hi hx he hf
theorem iop_mulW : OpR X (inplaceOp .Mult) (rI CMulW fun i j => .int (i * j)) := L2.opI fun _ _ _ _ _ _ _ hc q => imul_int q hc.ok
theorem ds_imul {i : Nat} {n : Str} {pos' : Pos} (hN : X.N.Nodup) (hi : X.N[i]? = some n) (hx : Loc X.env.scope n) (he : DE Z X e de) (hf : X.fn n = true ∨ X.env.scope.names.lookup n = some .local := by first | exact .inl rfl | exact .inr rfl | assumption) : DS Z X (.AugAssign (.Name n pos') .Mult e pos) (dAug i (opI CMulW fun i j => .int (i * j)) de) := ds_aug (op2_I fun _ _ _ _ => .int _) iop_mulW hN hi hx he hf
/-! ### a, b = x, y -/
def dPar (i j : Nat) (da db : DX Z) : DSt Z := fun De s ρ => da s ρ fun x s1 => db s1 ρ fun y s2 => stR x i ρ fun ρ1 => stR y j ρ1 fun ρ2 => De.nx s2 ρ2
/-- one more list that nothing may lead through -/
theorem Rel.more (R : Rel Z B0 H0 ρ s σ H) (ok : Z.ok s1 H1) (g : Gr Z H H1) {q : Addr} (hq : H q = none) (ht : H1 q ≠ none) : Rel Z (fun a => B0 a ∨ a = q) H0 ρ s1 σ H1 := by
  have R1 := R.grow ok g
  have no : q ∉ own ρ := fun z => R.otr z hq
  have hB : ∀ a, Bad Z (fun a => B0 a ∨ a = q) ρ a → Bad Z B0 ρ a ∨ a = q := fun a z => by
    rcases z with z | z | z
    · exact .inl (.inl z)
    · exact z.imp (fun z => .inr (.inl z)) id
    · exact .inl (.inr (.inr z))
  have kl : ∀ b o, H b = some o → ¬ Bad Z B0 ρ b → H1 b = some o ∧ ¬ Bad Z (fun a => B0 a ∨ a = q) ρ b := fun b o e n => ⟨g b o e fun z => n (.inl z), fun z => (hB b z).elim n fun z => by subst z; rw [hq] at e; cases e⟩
  have kt : ∀ b ys, H b = some (.tup ys) → H1 b = some (.tup ys) := fun b ys e => g b _ e (Zn.ntup R.ok e)
  have kf : ∀ b o u, H b = some (.frz o u) → H1 b = some (.frz o u) := fun b o u e => g b _ e (Zn.nfrz R.ok e)
  refine ⟨ok, R.len, fun i x e => ?_, R.nd, fun a ha => ⟨(R.fr a ha).1, (R.fr a ha).2.1, fun z => z.elim (R.fr a ha).2.2 fun z => no (by rw [← z]; exact ha)⟩, fun a ha => ha.elim (R1.btr a) fun z => by rw [z]; exact ht, R1.frm⟩
  obtain ⟨o, h1, h2⟩ := R.sl i x e
  refine ⟨o, h1, ?_⟩
  cases x with
  | no => trivial
  | im d =>
    obtain ⟨v, h3, h4⟩ := h2
    exact ⟨v, h3, h4.mono kl kt kf⟩
  | ow a l =>
    obtain ⟨h3, xs, h4, h5⟩ := h2
    exact ⟨h3, xs, g a _ h4 (R.fr a (own_mem e)).2.1, h5.mono kl kt kf⟩
  | od a l =>
    obtain ⟨h3, xs, h4, h5⟩ := h2
    exact ⟨h3, xs, g a _ h4 (R.fr a (own_memG e rfl)).2.1, h5.mono kl kt kf⟩
  | ot a l =>
    obtain ⟨h3, xs, h4, h5⟩ := h2
    exact ⟨h3, xs, g a _ h4 (R.fr a (own_memG e rfl)).2.1, h5.mono kl kt kf⟩
  | raw v => exact h2
theorem Rel.less {B1 : Addr → Prop} (hB : ∀ a, B1 a → B0 a) (R : Rel Z B0 H0 ρ s σ H) : Rel Z B1 H0 ρ s σ H := by
  have hb : ∀ a, Bad Z B1 ρ a → Bad Z B0 ρ a := fun a z => z.imp id fun z => z.imp (hB a) id
  refine ⟨R.ok, R.len, fun i x e => ?_, R.nd, fun a ha => ⟨(R.fr a ha).1, (R.fr a ha).2.1, fun z => (R.fr a ha).2.2 (hB a z)⟩, fun a ha => R.btr a (hB a ha), R.frm⟩
  obtain ⟨o, h1, h2⟩ := R.sl i x e
  exact ⟨o, h1, h2.bad hb⟩
theorem rv_set {B1 : Addr → Prop} {ρ ρ' : List Sl} {H H' : Hp} {v : V} {r : Rv} (hB : ∀ a, Bad Z B0 ρ' a → Bad Z B1 ρ a) (hb : ∀ l, r ≠ .bo l) (h : RvR Z B1 ρ H H' v r) : RvR Z B0 ρ' H H' v r := by
  cases r with
  | im d => exact Im.bad hB h
  | rw u => exact h
  | fr l =>
    obtain ⟨p, xs, rfl, h1, h2, h3, h4⟩ := h
    exact ⟨p, xs, rfl, h1, h2, h3, h4.bad fun a z => z.imp (hB a) id⟩
  | bo l => exact absurd rfl (hb l)
theorem par_fin {B1 : Addr → Prop} {σ1 : L2.St} {j : Nat} {De : DEnds Z} {D : Ends} (hn : ∀ s' ρ' σ' H', De.nx s' ρ' → Rel Z B0 H0 ρ' s' σ' H' → Stp Z B0 ρ H ρ' H' → D.nx σ' H') (R1 : Rel Z B0 H0 ρ1 s1 σ1 H1) (ok : Z.ok s2 H2) (g2 : Gr Z H1 H2) (hB : ∀ a, Bad Z B0 ρ1 a → Bad Z B1 ρ a) (r2 : RvR Z B1 ρ H1 H2 u y) (st1 : Stp Z B0 ρ H ρ1 H1) (qy : stR y j ρ1 fun ρ2 => De.nx s2 ρ2) : D.nx (σ1.set j (some u)) H2 := by
  have hb : ∀ l, y ≠ .bo l := fun l z => by subst z; exact qy
  obtain ⟨ρ', q', R', st⟩ := stR_ok R1 (R1.grow ok g2) g2 (rv_set hB hb r2) qy
  exact hn s2 ρ' _ H2 q' R' (st1.trans R1 st)
theorem par_ok {i j : Nat} {da db : DX Z} {D : Ends} {σ : L2.St} {H : Hp} (h : liftS Z (dPar i j da db) D σ H) : liftE Z da σ H fun v H1 => liftE Z db σ H1 fun w H2 => D.nx ((σ.set i (some v)).set j (some w)) H2 := by
  obtain ⟨B0, H0, ρ, s, De, R, hd, hn, _⟩ := h
  refine ⟨B0, H0, ρ, s, _, R, hd, fun x s1 v H1 qx R1 g1 r1 => ?_⟩
  have st := g1.stp R
  have own_no : ∀ (z : Sl), ownOf z = none → Stp Z B0 ρ H (ρ.set i z) H1 := fun z hz => ⟨st.keep, st.tups, st.frzs, fun a ha => (mem_own_set ha).elim .inl fun y => by rw [hz] at y; cases y⟩
  cases x with
  | bo l => exact ⟨B0, H0, ρ, s1, _, R1, qx, fun y s2 w H2 qy R2 g2 r2 => qy.elim⟩
  | im d => exact ⟨B0, H0, ρ, s1, _, R1, qx, fun y s2 w H2 qy R2 g2 r2 => par_fin (B1 := B0) hn (R1.put (x := .im d) rfl ⟨v, rfl, r1⟩) R2.ok g2 (fun a z => bad_set rfl z) r2 (own_no _ rfl) qy⟩
  | rw u => exact ⟨B0, H0, ρ, s1, _, R1, qx, fun y s2 w H2 qy R2 g2 r2 => par_fin (B1 := B0) hn (R1.put (x := .raw u) rfl (by cases (show v = u from r1); rfl)) R2.ok g2 (fun a z => bad_set rfl z) r2 (own_no _ rfl) qy⟩
  | fr l =>
    obtain ⟨p, xs, rfl, h1, h2, h3, h4⟩ := r1
    refine ⟨fun a => B0 a ∨ a = p, H0, ρ, s1, _, R.more R1.ok g1 h1 (by rw [h3]; exact fun z => nomatch z), qx, fun y s2 w H2 qy R2 g2 r2 => ?_⟩
    refine par_fin hn (R.putO R1.ok g1 h1 h3 h4) R2.ok g2 (fun a z => ?_) r2 ⟨st.keep, st.tups, st.frzs, fun a ha => (mem_own_set ha).elim .inl fun y => by cases y; exact .inr h1⟩ (qy p)
    rcases z with z | z | z
    · exact .inl z
    · exact .inr (.inl (.inl z))
    · rcases mem_own_set z with z | z
      · exact .inr (.inr z)
      · cases z; exact .inr (.inl (.inr rfl))
theorem ds_par {i j : Nat} {n1 n2 : Str} {px py pt : Pos} {kt k2 pt2} (hc : X.calm = true) (hN : X.N.Nodup) (hi : X.N[i]? = some n1) (hj : X.N[j]? = some n2) (hij : i ≠ j) (hx : X.env.scope.names.lookup n1 = some .local) (hy : X.env.scope.names.lookup n2 = some .local) (ha : DE Z X a da) (hb : DE Z X b db)
    (hw : swappedStores [.Tuple [.Name n1 px, .Name n2 py] kt pt] (.Tuple [a, b] k2 pt2) X.env = pure (some [n1, n2]) := by rfl) (hs : swapsWithSole [.Tuple [.Name n1 px, .Name n2 py] kt pt] (.Tuple [a, b] k2 pt2) pos.line X.env = pure false := by rfl)
    (s1 : starEach [a, b] X.env = (false, eval a X.env) :: starEach [b] X.env := by rfl) (s2 : starEach [b] X.env = (false, eval b X.env) :: starEach [] X.env := by rfl) :
    DS Z X (.Assign [.Tuple [.Name n1 px, .Name n2 py] kt pt] (.Tuple [a, b] k2 pt2) pos) (dPar i j da db) := by
  refine PS.of (ps_par hc hN hi hj hij hx hy (pa_cons ha (pa_cons hb pa_nil s2) s1) hw hs) fun D σ H h => ?_
  obtain ⟨B0, H0, ρ, s, Qd, R, hd, hq⟩ := par_ok h
  refine ⟨B0, H0, ρ, s, Qd, R, hd, fun r s' v H' q R' g rr => ?_⟩
  obtain ⟨B1, H1, ρ1, s1, Q1, R1, hd1, hq1⟩ := hq r s' v H' q R' g rr
  exact ⟨B1, H1, ρ1, s1, Q1, R1, hd1, fun r2 s2 w H2 q2 R2 g2 rr2 => ⟨v, w, rfl, hq1 r2 s2 w H2 q2 R2 g2 rr2⟩⟩
/-! ### while -/
def dWhile (c : DT Z) (tb : DSt Z) : DSt Z := fun De s ρ => ∃ I : Nat → Z.S → List Sl → Prop, (∃ m, I m s ρ) ∧ ∀ m s ρ, I m s ρ → c s ρ fun b s1 => if b = true then tb { De with nx := fun s' ρ' => ∃ m', m' < m ∧ I m' s' ρ', ct := fun s' ρ' => ∃ m', m' < m ∧ I m' s' ρ', bk := De.nx } s1 ρ else De.nx s1 ρ
theorem ds_while {body : List Stmt} (hp : PassesOwn (model X.prog X.w) X.A X.env X.xe) (hc : DTs Z X c dt) (hb : DSs Z X body t) : DS Z X (.While c body [] pos) (dWhile dt t) := by
  refine PS.of (ps_while hp hc hb) fun D σ H ⟨B0, H0, ρ, s, De, R, hd, hn, hbk, hct, hr⟩ => ?_
  obtain ⟨I, ⟨m, hm⟩, turn⟩ := hd
  refine ⟨fun m σ' H' => ∃ s' ρ', I m s' ρ' ∧ Rel Z B0 H0 ρ' s' σ' H' ∧ Stp Z B0 ρ H ρ' H', ⟨m, s, ρ, hm, R, Stp.refl⟩, ?_⟩
  rintro m σ1 H1 ⟨s1, ρ1, i1, R1, st1⟩
  refine ⟨B0, H0, ρ1, s1, _, R1, turn m s1 ρ1 i1, fun b s2 H2 q R2 g => ?_⟩
  have st2 := st1.trans R1 (g.stp R1)
  cases b with
  | false => exact hn s2 ρ1 σ1 H2 q R2 st2
  | true =>
    refine ⟨fun σ' H' => ∃ m' s' ρ', m' < m ∧ I m' s' ρ' ∧ Rel Z B0 H0 ρ' s' σ' H' ∧ Stp Z B0 ρ H ρ' H', ?_, ?_⟩
    · rintro σ' H' ⟨m', s', ρ', hlt, i', R', st'⟩
      exact ⟨m', hlt, s', ρ', i', R', st'⟩
    · exact ⟨B0, H0, ρ1, s2, _, R2, q, fun s3 ρ3 σ3 H3 ⟨m', hlt, i'⟩ R3 st3 => ⟨m', s3, ρ3, hlt, i', R3, st2.trans R2 st3⟩, fun s3 ρ3 σ3 H3 q3 R3 st3 => hn s3 ρ3 σ3 H3 q3 R3 (st2.trans R2 st3), fun s3 ρ3 σ3 H3 ⟨m', hlt, i'⟩ R3 st3 => ⟨m', s3, ρ3, hlt, i', R3, st2.trans R2 st3⟩, hr⟩
/-! ### targets -/
abbrev DG (Z : Zn) := PyData → List Sl → (List Sl → Prop) → Prop
/-- an item that is taken apart at once: of a tuple nothing is known but its items -/
inductive Iw (B : Addr → Prop) (H : Hp) : V → PyData → Prop
  | im {v : V} {d : PyData} : Im B H v d → Iw B H v d
  | tup {a : Addr} {xs : List V} {ds : List PyData} : H a = some (.tup xs) → ImAll B H xs ds → Iw B H (.ref a) (.tuple ds)
def Ig (tu : Bool) (B : Addr → Prop) (H : Hp) (v : V) (d : PyData) : Prop := match tu with
  | true => Iw B H v d
  | false => Im B H v d
def isTup : Expr → Bool
  | .Tuple .. => true
  | _ => false
theorem Im.ig {tu : Bool} {B : Addr → Prop} {H : Hp} {v : V} {d : PyData} (h : Im B H v d) : Ig tu B H v d := by
  cases tu
  · exact h
  · exact .im h
def liftG (Z : Zn) (tu : Bool) (d : DG Z) : TG := fun v σ H Q => ∃ (B0 : Addr → Prop) (H0 : Hp) (ρ : List Sl) (s : Z.S) (x : PyData) (Qd : List Sl → Prop), Rel Z B0 H0 ρ s σ H ∧ Ig tu (Bad Z B0 ρ) H v x ∧ d x ρ Qd ∧
  ∀ ρ' σ', Qd ρ' → Rel Z B0 H0 ρ' s σ' H → (∀ a ∈ own ρ', a ∈ own ρ) → Q σ' H
abbrev DGs (Z : Zn) (X : Cx) (tg : Expr) (d : DG Z) : Prop := PG X tg (liftG Z (isTup tg) d)
theorem PG.of {tg : Expr} {t t' : TG} (h : PG X tg t) (w : ∀ v σ H Q, t' v σ H Q → t v σ H Q) : PG X tg t' := ⟨fun pins s σ H v u Q I r q => h.run pins s σ H v u Q I r (w v σ H Q q)⟩
def gN (i : Nat) : DG Z := fun x ρ Q => Q (ρ.set i (.im x))
theorem dg_name {i : Nat} {n : Str} (hN : X.N.Nodup) (hi : X.N[i]? = some n) (hx : Loc X.env.scope n) (hf : X.fn n = true ∨ X.env.scope.names.lookup n = some .local := by first | exact .inl rfl | exact .inr rfl | assumption) : DGs Z X (.Name n pos) (gN i) := by
  refine PG.of (pg_name hN hi hx hf) fun v σ H Q ⟨B0, H0, ρ, s, x, Qd, R, im, hd, hq⟩ => ?_
  refine hq _ _ hd (R.put rfl ⟨v, rfl, im⟩) fun a ha => (mem_own_set ha).elim id fun y => by cases y
/-- names only -/
def gNs : List Nat → List PyData → List Sl → (List Sl → Prop) → Prop
  | [], [], ρ, Q => Q ρ
  | i :: is, d :: ds, ρ, Q => gNs is ds (ρ.set i (.im d)) Q
  | _, _, _, _ => False
def gT (is : List Nat) : DG Z := fun x ρ Q => match x with
  | .tuple ds => gNs is ds ρ Q
  | _ => False
inductive Nms (X : Cx) : List Expr → List Nat → Prop
  | nil : Nms X [] []
  | cons {n : Str} {i : Nat} {pos : Pos} {es : List Expr} {is : List Nat} (hi : X.N[i]? = some n) (hx : Loc X.env.scope n) (hf : X.fn n = true ∨ X.env.scope.names.lookup n = some .local) (hs : (assignEach (.Name n pos :: es) X.env).map (·.2) = assign (.Name n pos) X.env :: (assignEach es X.env).map (·.2)) (h : Nms X es is) : Nms X (.Name n pos :: es) (i :: is)
def tNms : List Nat → TGs
  | [] => gNil
  | i :: is => gCons (gName i) (tNms is)
theorem Nms.pgs (hN : X.N.Nodup) : ∀ {es : List Expr} {is : List Nat}, Nms X es is → PGs X es (tNms is)
  | _, _, .nil => pgs_nil
  | _, _, .cons hi hx hf hs h => pgs_cons (pg_name hN hi hx hf) (h.pgs hN) hs
theorem nms_ok : ∀ {is : List Nat} {vs : List V} {ds : List PyData} {ρ : List Sl} {σ : L2.St} {Qd : List Sl → Prop} {Q : L2.St → Hp → Prop}, Rel Z B0 H0 ρ s σ H → ImAll (Bad Z B0 ρ) H vs ds → gNs is ds ρ Qd → (∀ ρ' σ', Qd ρ' → Rel Z B0 H0 ρ' s σ' H → (∀ a ∈ own ρ', a ∈ own ρ) → Q σ' H) → tNms is vs σ H Q
  | [], _, _, ρ, σ, Qd, Q, R, .nil, hd, hq => ⟨rfl, hq ρ σ hd R fun _ h => h⟩
  | i :: is, _, _, ρ, σ, Qd, Q, R, .cons (v := v) (d := d) h t, hd, hq => by
    refine ⟨_, _, rfl, ?_⟩
    have o1 : ∀ a ∈ own (ρ.set i (.im d)), a ∈ own ρ := fun a ha => (mem_own_set ha).elim id fun y => by cases y
    exact nms_ok (R.put (i := i) (x := .im d) rfl ⟨v, rfl, h⟩) (t.bad fun a z => bad_set rfl z) hd fun ρ' σ' q R' ho => hq ρ' σ' q R' fun a ha => o1 a (ho a ha)
  | [], _, _, _, _, _, _, _, .cons _ _, hd, _ => hd.elim
  | _ :: _, _, _, _, _, _, _, _, .nil, hd, _ => hd.elim
theorem gNs_len : ∀ {is : List Nat} {ds : List PyData} {ρ : List Sl} {Qd : List Sl → Prop}, gNs is ds ρ Qd → ds.length = is.length
  | [], [], _, _, _ => rfl
  | _ :: _, _ :: _, _, _, h => congrArg (· + 1) (gNs_len h)
  | [], _ :: _, _, _, h => h.elim
  | _ :: _, [], _, _, h => h.elim
theorem dg_tup {es : List Expr} {is : List Nat} {k : Nat} (hc : X.calm = true) (hN : X.N.Nodup) (h : Nms X es is) (hn : (assignEach es X.env).length = is.length := by rfl) (hst : (assignEach es X.env).findIdx? (·.1) = none := by rfl) : DGs Z X (.Tuple es k pos) (gT is) := by
  refine PG.of (pg_tup (n := is.length) hc (h.pgs hN) hn hst) fun v σ H Q ⟨B0, H0, ρ, s, x, Qd, R, im, hd, hq⟩ => ?_
  unfold gT at hd
  split at hd
  · rename_i ds
    cases im with
    | tup e q => exact ⟨_, _, rfl, SqT.of e, by rw [q.length]; exact gNs_len hd, nms_ok R q hd hq⟩
    | im im => cases im with
      | ftp e _ q => exact ⟨_, _, rfl, .inl (.inr ⟨_, e⟩), by rw [q.length]; exact gNs_len hd, nms_ok R q hd hq⟩
  · exact hd.elim
/-- a, b = e -/
def dAsg (de : DX Z) (g : DG Z) : DSt Z := fun De s ρ => de s ρ fun r s1 => match r.st with
  | some d => g d ρ fun ρ' => De.nx s1 ρ'
  | _ => False
theorem ds_asg {tg : Expr} {g : DG Z} (he : DE Z X e de) (hg : DGs Z X tg g) (hs : swapsWithSole [tg] e pos.line X.env = pure false := by rfl) (hw : swappedStores [tg] e X.env = pure none := by rfl) (h1 : (assignEach [tg] X.env).map (·.2) = [assign tg X.env] := by rfl) : DS Z X (.Assign [tg] e pos) (dAsg de g) := by
  refine PS.of (ps_asg he hg hs hw h1) fun D σ H ⟨B0, H0, ρ, s, De, R, hd, hn, _⟩ => ?_
  refine ⟨B0, H0, ρ, s, _, R, hd, fun r s1 v H1 qx R1 g1 r1 => ?_⟩
  split at qx
  · rename_i d e1
    refine ⟨B0, H0, ρ, s1, d, _, R1, (RvR.st R r1 e1).ig, qx, fun ρ' σ' q R' ho => ?_⟩
    have st := g1.stp R
    exact hn s1 ρ' σ' H1 q R' ⟨st.keep, st.tups, st.frzs, fun a ha => .inl (ho a ha)⟩
  · exact qx.elim
end
end Lf
namespace Lf
open PySem PySem.Spec PyProof.Rows L2
/-! ### what is walked -/
/-- as long as what P names stands, J yields these -/
def ItOk (tu : Bool) (P Bd : Addr → Prop) (J : It) (items : List PyData) (H : Hp) : Prop := ∀ (Hk : Hp) (Bk : Addr → Prop), (∀ b o, H b = some o → P b → Hk b = some o) → (∀ b o, H b = some o → ¬ Bd b → Hk b = some o ∧ ¬ Bk b) →
  (∀ b xs, H b = some (.tup xs) → Hk b = some (.tup xs)) → (∀ b o u, H b = some (.frz o u) → Hk b = some (.frz o u)) →
  (∀ i, i < items.length → J.go i Hk) ∧ (∀ i d x H', items[i]? = some d → J.yld i Hk x H' → Same Hk H' ∧ Ig tu Bk H' x d) ∧ J.stop items.length Hk
abbrev DI (Z : Zn) := Z.S → List Sl → (List PyData → Bool → Z.S → Prop) → Prop
def keepP (Z : Zn) (B0 : Addr → Prop) (ρ : List Sl) (fz : Bool) : Addr → Prop := fun b => match fz with
  | true => ¬ Bad Z B0 ρ b
  | false => ¬ Z.at_ b
def liftI (Z : Zn) (tu : Bool) (d : DI Z) : TI := fun σ H R => ∃ (B0 : Addr → Prop) (H0 : Hp) (ρ : List Sl) (s : Z.S) (Qd : List PyData → Bool → Z.S → Prop), Rel Z B0 H0 ρ s σ H ∧ d s ρ Qd ∧
  ∀ items fz s' J H', Qd items fz s' → Rel Z B0 H0 ρ s' σ H' → Gr Z H H' → ItOk tu (keepP Z B0 ρ fz) (Bad Z B0 ρ) J items H' → R J H'
abbrev DIs (Z : Zn) (X : Cx) (tg it : Expr) (d : DI Z) : Prop := PI X tg it (liftI Z (isTup tg) d)
section
variable {Z : Zn} {X : Cx} {B0 : Addr → Prop} {H0 H H1 H2 : Hp} {ρ ρ1 ρ2 : List Sl} {s s1 s2 : Z.S} {σ : L2.St} {v u : V} {r x y : Rv} {e a b c tg : Expr} {es rest : List Expr} {de da db dc : DX Z} {dt du : DT Z} {das : DA Z} {pos p : Pos} {K : PySem.W.Frag} {B : Addr → Prop} {st : Stmt} {sts : List Stmt} {t t' : DSt Z}
theorem PI.of {it : Expr} {t t' : TI} (h : PI X tg it t) (w : ∀ σ H R, t' σ H R → t σ H R) : PI X tg it t' := ⟨fun pins s σ H R I q => h.run pins s σ H R I (w σ H R q)⟩
/-- a list or a tuple -/
theorem pi_seq {l : Expr} {tl : TE} (hl : PE X l tl) : PI X tg l (fun σ H R => tl σ H fun x H1 => ∃ a, x = .ref a ∧ (((∃ xs, SqL X.K H1 a xs) ∧ R (Itl X.K a) H1) ∨ ((∃ xs, SqT X.K H1 a xs) ∧ R (Itt X.K a) H1))) := by
  refine ⟨fun pins s σ H R I h => ?_⟩
  refine thn (hl.run pins s σ H _ I h) fun v s1 ⟨x, H1, I1, r1, q1⟩ => ?_
  obtain ⟨a, e, q1⟩ := q1
  subst e
  cases r1
  rcases q1 with ⟨⟨xs, hq⟩, q⟩ | ⟨⟨xs, hq⟩, q⟩
  · obtain ⟨its, rv, p, hz⟩ := I1.list hq
    refine wpAny_pyIter_list p.isList ?_
    refine ⟨s1.heap.objs.size, [s1.heap.objs.size], _, _, H1, rfl, I1.kept (t' := s1.toks) fun b o e => Heap.get?_push_of_some _ e, turn_list a _, ⟨_, Heap.get?_push_size _ rfl, rfl, rfl⟩, fun b hb => ?_, q⟩
    have e : b = s1.heap.objs.size := by simpa using hb
    subst e
    exact I1.fpOk (Nat.le_refl _) (I1.hok.fresh (Nat.le_refl _))
  · obtain ⟨its, rv, p, hz⟩ := I1.tuple hq
    refine wpAny_pyIter_tuple (show s1.heap.IsTuple a its.toArray from p) ?_
    refine ⟨s1.heap.objs.size, [s1.heap.objs.size], _, _, H1, rfl, I1.kept (t' := s1.toks) fun b o e => Heap.get?_push_of_some _ e, turn_tuple a _, ⟨_, Heap.get?_push_size _ rfl, rfl, rfl⟩, fun b hb => ?_, q⟩
    have e : b = s1.heap.objs.size := by simpa using hb
    subst e
    exact I1.fpOk (Nat.le_refl _) (I1.hok.fresh (Nat.le_refl _))
theorem it_lst {tu : Bool} {P Bd : Addr → Prop} {a : Addr} {xs : List V} {l : List PyData} (h : H a = some (.lst xs)) (ha : P a) (im : ImAll Bd H xs l) : ItOk tu P Bd (Itl K a) l H := by
  intro Hk Bk k1 k2 k3 k4
  have h1 := k1 a _ h ha
  have im1 : ImAll Bk Hk xs l := im.mono k2 k3 k4
  refine ⟨fun i hi => ?_, fun i d x H' hd hy => ?_, ⟨xs, SqL.of h1, by rw [im.length]; exact Nat.le_refl _⟩⟩
  · have hx : i < xs.length := by rw [im.length]; exact hi
    exact ⟨xs, xs[i], SqL.of h1, List.getElem?_eq_getElem hx⟩
  · obtain ⟨rfl, hy⟩ := hy
    have hx := hy xs (SqL.of h1)
    obtain ⟨d', hd', iv⟩ := im1.gets hx
    rw [hd] at hd'
    cases hd'
    exact ⟨Same.refl _, iv.ig⟩
theorem sqT_keep {Hk : Hp} {a : Addr} {xs : List V} (k3 : ∀ b xs, H b = some (.tup xs) → Hk b = some (.tup xs)) (k4 : ∀ b o u, H b = some (.frz o u) → Hk b = some (.frz o u)) (h : SqT K H a xs) : SqT K Hk a xs := by
  rcases h with (h | ⟨o, h⟩) | h
  · exact .inl (.inl (k3 _ _ h))
  · exact .inl (.inr ⟨o, k4 _ _ _ h⟩)
  · exact .inr h
theorem it_tupD {tu : Bool} {P Bd : Addr → Prop} {a : Addr} {xs : List V} {l : List PyData} (h : H a = some (.tup xs) ∨ ∃ o, H a = some (.frz o (.tup xs))) (im : ImAll Bd H xs l) : ItOk tu P Bd (Itt K a) l H := by
  intro Hk Bk k1 k2 k3 k4
  have h1 : SqT K Hk a xs := by
    rcases h with h | ⟨o, h⟩
    · exact SqT.of (k3 _ _ h)
    · exact .inl (.inr ⟨o, k4 _ _ _ h⟩)
  have im1 : ImAll Bk Hk xs l := im.mono k2 k3 k4
  refine ⟨fun i hi => ?_, fun i d x H' hd hy => ?_, ⟨xs, h1, by rw [im.length]; exact Nat.le_refl _⟩⟩
  · have hx : i < xs.length := by rw [im.length]; exact hi
    exact ⟨xs, xs[i], h1, List.getElem?_eq_getElem hx⟩
  · obtain ⟨rfl, hy⟩ := hy
    have hx := hy xs h1
    obtain ⟨d', hd', iv⟩ := im1.gets hx
    rw [hd] at hd'
    cases hd'
    exact ⟨Same.refl _, iv.ig⟩
theorem RvR.tupH {l : List PyData} (h : RvR Z B0 ρ H H1 v r) (e : r.D = some (.tuple l)) : ∃ a xs, v = .ref a ∧ (H1 a = some (.tup xs) ∨ ∃ o, H1 a = some (.frz o (.tup xs))) ∧ ImAll (Bad Z B0 ρ) H1 xs l := by
  cases r with
  | im d' =>
    cases e
    cases h with
    | ftp h1 _ h2 => exact ⟨_, _, rfl, .inr ⟨_, h1⟩, h2⟩
  | bo l => cases e
  | fr l => cases e
  | rw u => cases e
/-- for x in e -/
def dISeq (de : DX Z) : DI Z := fun s ρ Q => de s ρ fun r s1 => match r with
  | .im (.list l) => Q l true s1
  | .im (.tuple l) => Q l true s1
  | .fr l => Q l true s1
  | .bo l => Q l false s1
  | _ => False
theorem di_seq (he : DE Z X e de) : DIs Z X tg e (dISeq de) := by
  refine PI.of (pi_seq he) fun σ H R ⟨B0, H0, ρ, s, Qd, R0, hd, hq⟩ => ?_
  refine ⟨B0, H0, ρ, s, _, R0, hd, fun r s1 v H1 qx R1 g1 r1 => ?_⟩
  have imp : ∀ {l : List PyData} {a : Addr} {xs : List V}, H1 a = some (.lst xs) → ¬ Bad Z B0 ρ a → ImAll (Bad Z B0 ρ) H1 xs l → ItOk (isTup tg) (keepP Z B0 ρ true) (Bad Z B0 ρ) (Itl X.K a) l H1 := fun h n im => it_lst h n im
  split at qx
  · rename_i l
    cases r1 with
    | lst h1 n h2 => exact ⟨_, rfl, .inl ⟨⟨_, SqL.of h1⟩, hq _ _ s1 _ H1 qx R1 g1 (imp h1 n h2)⟩⟩
  · rename_i l
    obtain ⟨a, xs, rfl, h1, h2⟩ := RvR.tupH (r := .im (.tuple l)) r1 rfl
    refine ⟨a, rfl, .inr ⟨⟨xs, ?_⟩, hq _ _ s1 _ H1 qx R1 g1 (it_tupD h1 h2)⟩⟩
    rcases h1 with h1 | ⟨o, h1⟩
    · exact SqT.of h1
    · exact .inl (.inr ⟨o, h1⟩)
  · rename_i l
    obtain ⟨p, xs, rfl, h1, h2, h3, h4⟩ := r1
    exact ⟨p, rfl, .inl ⟨⟨xs, SqL.of h3⟩, hq _ _ s1 _ H1 qx R1 g1 (imp h3 (fun z => R0.bad z h1) (h4.bad fun a z => .inl z))⟩⟩
  · rename_i l
    obtain ⟨a, xs, h1, rfl, h3, h4⟩ := r1
    exact ⟨a, rfl, .inl ⟨⟨xs, SqL.of h3⟩, hq _ _ s1 _ H1 qx R1 g1 (it_lst h3 (R1.fr a h1).2.1 h4)⟩⟩
  · exact qx.elim
def rngD (lo : Int) (n : Nat) : List PyData := (List.range n).map fun k => .int (lo + (k : Nat))
theorem rngD_get {lo : Int} {n i : Nat} {d : PyData} (h : (rngD lo n)[i]? = some d) : i < n ∧ d = .int (lo + (i : Nat)) := by
  unfold rngD at h
  rw [List.getElem?_map] at h
  rcases Nat.lt_or_ge i n with z | z
  · rw [List.getElem?_range z] at h
    exact ⟨z, (Option.some.inj h).symm⟩
  · rw [List.getElem?_eq_none (by rw [List.length_range]; exact z)] at h
    cases h
theorem rngD_len {lo : Int} {n : Nat} : (rngD lo n).length = n := by unfold rngD; rw [List.length_map, List.length_range]
theorem it_rng {tu : Bool} {P Bd : Addr → Prop} {lo : Int} {n : Nat} : ItOk tu P Bd (Itr lo n) (rngD lo n) H := by
  intro Hk Bk _ _ _ _
  refine ⟨fun i hi => by rw [rngD_len] at hi; exact hi, fun i d x H' hd hy => ?_, by rw [rngD_len]; exact Nat.le_refl n⟩
  obtain ⟨_, rfl⟩ := rngD_get hd
  obtain ⟨rfl, rfl⟩ := hy
  exact ⟨Same.refl _, (Im.int _).ig⟩
def dIR1 (da : DA Z) : DI Z := fun s ρ Q => da s ρ fun rs s1 => match rs with
  | [x] => match x.D with
    | some (.int j) => -1000000000000 ≤ j ∧ j < 1000000000000 ∧ Q (rngD 0 j.toNat) true s1
    | _ => False
  | _ => False
theorem di_r1 (hg : Gl X "range") (hm : X.mg "range" = none) (ha : DAs Z X [a] das) (hs : starEach [a] X.env = [(false, eval a X.env)] := by rfl) : DIs Z X tg (.Call (.Name "range" p) [a] [] pos) (dIR1 das) := by
  refine PI.of (pi_range1 hg hm ha hs) fun σ H R ⟨B0, H0, ρ, s, Qd, R0, hd, hq⟩ => ?_
  refine ⟨B0, H0, ρ, s, _, R0, hd, fun rs s1 vs H1 qx R1 g1 r1 => ?_⟩
  split at qx
  · obtain ⟨w, rfl, r2⟩ := r1.one
    split at qx
    · rename_i j e1
      exact ⟨j, by rw [r2.vI e1], by omega, by omega, hq _ _ s1 _ H1 qx.2.2 R1 g1 it_rng⟩
    · exact qx.elim
  · exact qx.elim
def dIR2 (da : DA Z) : DI Z := fun s ρ Q => da s ρ fun rs s1 => match rs with
  | [x, y] => match x.D, y.D with
    | some (.int i), some (.int j) => (-1000000000000 ≤ i ∧ i < 1000000000000) ∧ (-1000000000000 ≤ j ∧ j < 1000000000000) ∧ Q (rngD i (j - i).toNat) true s1
    | _, _ => False
  | _ => False
theorem di_r2 (hg : Gl X "range") (hm : X.mg "range" = none) (ha : DAs Z X [a, b] das) (hs : starEach [a, b] X.env = [(false, eval a X.env), (false, eval b X.env)] := by rfl) (hs2 : starEach [b] X.env = [(false, eval b X.env)] := by rfl) : DIs Z X tg (.Call (.Name "range" p) [a, b] [] pos) (dIR2 das) := by
  refine PI.of (pi_range2 hg hm ha hs hs2) fun σ H R ⟨B0, H0, ρ, s, Qd, R0, hd, hq⟩ => ?_
  refine ⟨B0, H0, ρ, s, _, R0, hd, fun rs s1 vs H1 qx R1 g1 r1 => ?_⟩
  split at qx
  · obtain ⟨w, w2, rfl, r2, r3⟩ := r1.two
    split at qx
    · rename_i i j e1 e2
      exact ⟨i, j, by rw [r2.vI e1, r3.vI e2], ⟨by omega, by omega, by omega, by omega⟩, hq _ _ s1 _ H1 qx.2.2 R1 g1 it_rng⟩
    · exact qx.elim
  · exact qx.elim
/-- enumerate -/
def enumD (l : List PyData) : List PyData := (List.range l.length).map fun k => .tuple [.int (k : Nat), l.getD k .none]
theorem enumD_get {l : List PyData} {i : Nat} {d : PyData} (h : (enumD l)[i]? = some d) : ∃ z, l[i]? = some z ∧ d = .tuple [.int (i : Nat), z] := by
  unfold enumD at h
  rw [List.getElem?_map] at h
  rcases Nat.lt_or_ge i l.length with z | z
  · rw [List.getElem?_range z] at h
    refine ⟨l[i], List.getElem?_eq_getElem z, ?_⟩
    have : d = .tuple [.int (i : Nat), l.getD i .none] := (Option.some.inj h).symm
    rw [List.getD_eq_getElem?_getD, List.getElem?_eq_getElem z] at this
    exact this
  · rw [List.getElem?_eq_none (by rw [List.length_range]; exact z)] at h
    cases h
theorem enumD_len {l : List PyData} : (enumD l).length = l.length := by unfold enumD; rw [List.length_map, List.length_range]
theorem it_enumT {P Bd : Addr → Prop} {a : Addr} {xs : List V} {l : List PyData} (h : H a = some (.tup xs) ∨ ∃ o, H a = some (.frz o (.tup xs))) (im : ImAll Bd H xs l) : ItOk true P Bd (ItT K a) (enumD l) H := by
  intro Hk Bk k1 k2 k3 k4
  have h1 : SqT K Hk a xs := by
    rcases h with h | ⟨o, h⟩
    · exact SqT.of (k3 _ _ h)
    · exact .inl (.inr ⟨o, k4 _ _ _ h⟩)
  have im1 : ImAll Bk Hk xs l := im.mono k2 k3 k4
  refine ⟨fun i hi => ?_, fun i d x H' hd hy => ?_, ⟨xs, h1, by rw [enumD_len, im.length]⟩⟩
  · have hx : i < xs.length := by rw [im.length]; rw [enumD_len] at hi; exact hi
    exact ⟨xs, xs[i], h1, List.getElem?_eq_getElem hx⟩
  · obtain ⟨T, w, rfl, hT, rfl, hy⟩ := hy
    obtain ⟨z, hz, rfl⟩ := enumD_get hd
    obtain ⟨d', hd', iv⟩ := im1.gets (hy xs h1)
    rw [hz] at hd'
    cases hd'
    exact ⟨same_new hT, Iw.tup upd_same (.cons (.int _) (.cons (iv.same (same_new hT)) .nil))⟩
def dIEn (da : DA Z) : DI Z := fun s ρ Q => da s ρ fun rs s1 => match rs with
  | [x] => match x.D with
    | some (.tuple l) => Q (enumD l) true s1
    | _ => False
  | _ => False
theorem di_enum {elts : List Expr} {kk : Nat} {tpos : Pos} (hg : Gl X "enumerate") (hm : X.mg "enumerate" = none) (ha : DAs Z X [e] das) (hs : starEach [e] X.env = [(false, eval e X.env)] := by rfl) : DIs Z X (.Tuple elts kk tpos) (.Call (.Name "enumerate" p) [e] [] pos) (dIEn das) := by
  refine PI.of (pi_enumT hg hm ha hs) fun σ H R ⟨B0, H0, ρ, s, Qd, R0, hd, hq⟩ => ?_
  refine ⟨B0, H0, ρ, s, _, R0, hd, fun rs s1 vs H1 qx R1 g1 r1 => ?_⟩
  split at qx
  · obtain ⟨w, rfl, r2⟩ := r1.one
    split at qx
    · rename_i l e1
      obtain ⟨a, xs, rfl, h1, h2⟩ := RvR.tupH r2 e1
      refine ⟨a, xs, rfl, ?_, hq _ _ s1 _ H1 qx R1 g1 (it_enumT h1 h2)⟩
      rcases h1 with h1 | ⟨o, h1⟩
      · exact SqT.of h1
      · exact .inl (.inr ⟨o, h1⟩)
    · exact qx.elim
  · exact qx.elim
/-! ### for -/
def dFor (wi : DI Z) (g : DG Z) (tb : DSt Z) : DSt Z := fun De s ρ => wi s ρ fun items fz s1 => fz = true ∧ ∃ I : Nat → Z.S → List Sl → Prop, I 0 s1 ρ ∧
  (∀ k d s ρ, items[k]? = some d → I k s ρ → g d ρ fun ρ' => tb { De with nx := I (k + 1), ct := I (k + 1), bk := De.nx } s ρ') ∧ ∀ s ρ, I items.length s ρ → De.nx s ρ
theorem ds_for {iter : Expr} {body : List Stmt} {wi : DI Z} {g : DG Z} (hp : PassesOwn (model X.prog X.w) X.A X.env X.xe) (hc : X.calm = true) (hi : DIs Z X tg iter wi) (hg : DGs Z X tg g) (hb : DSs Z X body t) (hs : ∀ x, foldedSetIterable iter X.env x = pure x := by intro _; rfl) : DS Z X (.For tg iter body [] pos) (dFor wi g t) := by
  refine PS.of (ps_for hp hc hi hg hb hs) fun D σ H ⟨B0, H0, ρ, s, De, R, hd, hn, hbk, hct, hr⟩ => ?_
  refine ⟨B0, H0, ρ, s, _, R, hd, fun items fz s1 J H1 q R1 g1 ok => ?_⟩
  obtain ⟨rfl, I, i0, turn, fin⟩ := q
  have st1 := g1.stp R
  refine ⟨fun i m σ' H' => m = items.length - i ∧ i ≤ items.length ∧ ∃ s' ρ', I i s' ρ' ∧ Rel Z B0 H0 ρ' s' σ' H' ∧ Stp Z B0 ρ H1 ρ' H', ⟨items.length, by simp, Nat.zero_le _, s1, ρ, i0, R1, Stp.refl⟩, ?_⟩
  rintro i m σ2 H2 ⟨rfl, hi, s2, ρ2, i2, R2, st2⟩
  have k2 : ∀ b o, H1 b = some o → ¬ Bad Z B0 ρ b → H2 b = some o ∧ ¬ Bad Z B0 ρ2 b := fun b o e n => ⟨st2.keep b o e n, fun z => by
    rcases z with z | z | z
    · exact n (.inl z)
    · exact n (.inr (.inl z))
    · rcases st2.owns b z with z | z
      · exact n (.inr (.inr z))
      · rw [z] at e; cases e⟩
  obtain ⟨go, yl, stop⟩ := ok H2 (Bad Z B0 ρ2) (fun b o e n => st2.keep b o e n) k2 st2.tups st2.frzs
  by_cases hlt : i < items.length
  · refine .inr ⟨go i hlt, fun σ' H' => ∃ s' ρ', I (i + 1) s' ρ' ∧ Rel Z B0 H0 ρ' s' σ' H' ∧ Stp Z B0 ρ H1 ρ' H', fun σ' H' h => ⟨items.length - (i + 1), by omega, rfl, hlt, h⟩, fun x H' hy => ?_⟩
    obtain ⟨sm, im⟩ := yl i items[i] x H' (List.getElem?_eq_getElem hlt) hy
    have R3 := R2.same sm
    have st3 := st2.trans R2 (Gr.stp (H1 := H') R2 (Gr.of sm))
    refine ⟨B0, H0, ρ2, s2, items[i], _, R3, im, turn i _ s2 ρ2 (List.getElem?_eq_getElem hlt) i2, fun ρ3 σ3 q3 R4 ho => ?_⟩
    have st4 : Stp Z B0 ρ H1 ρ3 H' := ⟨st3.keep, st3.tups, st3.frzs, fun a ha => st3.owns a (ho a ha)⟩
    exact ⟨B0, H0, ρ3, s2, _, R4, q3, fun s5 ρ5 σ5 H5 q5 R5 st5 => ⟨s5, ρ5, q5, R5, st4.trans R4 st5⟩, fun s5 ρ5 σ5 H5 q5 R5 st5 => hn s5 ρ5 σ5 H5 q5 R5 (st1.trans R1 (st4.trans R4 st5)), fun s5 ρ5 σ5 H5 q5 R5 st5 => ⟨s5, ρ5, q5, R5, st4.trans R4 st5⟩, hr⟩
  · have e : i = items.length := by omega
    subst e
    exact .inl ⟨stop, hn s2 ρ2 σ2 H2 (fin s2 ρ2 i2) R2 (st1.trans R1 st2)⟩
/-- an owned list is changed no more -/
def frz (i : Nat) (ρ : List Sl) : List Sl := match ρ[i]? with
  | some (.ow _ l) => ρ.set i (.im (.list l))
  | _ => ρ
theorem Rel.frz (R : Rel Z B0 H0 ρ s σ H) (i : Nat) : Rel Z B0 H0 (frz i ρ) s σ H ∧ (∀ a ∈ own (Lf.frz i ρ), a ∈ own ρ) := by
  unfold Lf.frz
  split
  · rename_i q l e1
    obtain ⟨o, s0, rfl, xs, hq, im⟩ := R.sl i _ e1
    have no : q ∉ own (ρ.set i (.im (.list l))) := own_off R.nd e1
    have hB : ∀ a, Bad Z B0 (ρ.set i (.im (.list l))) a → Bad Z B0 ρ a := fun a z => bad_set rfl z
    have := R.put (i := i) (x := .no) (o := some (.ref q)) rfl trivial
    have es : σ.set i (some (.ref q)) = σ := by
      have hl := (List.getElem?_eq_some_iff.mp s0)
      rw [← hl.2]
      exact List.set_getElem_self hl.1
    refine ⟨⟨R.ok, by rw [List.length_set]; exact R.len, fun j y e => ?_, nodup_own_set R.nd (fun a z => by cases z), fun a ha => ?_, R.btr, R.frm⟩, fun a ha => (mem_own_set ha).elim id fun y => by cases y⟩
    · rcases set_get e with ⟨rfl, rfl⟩ | ⟨ne, e9⟩
      · refine ⟨_, s0, .ref q, rfl, .lst hq (fun z => ?_) (im.bad hB)⟩
        rcases z with z | z | z
        · exact (R.fr q (own_mem e1)).2.1 z
        · exact (R.fr q (own_mem e1)).2.2 z
        · exact no z
      · obtain ⟨o', h1, h2⟩ := R.sl j y e9
        exact ⟨o', h1, h2.bad hB⟩
    · rcases mem_own_set ha with z | z
      · exact R.fr a z
      · cases z
  · exact ⟨R, fun _ h => h⟩
where
  own_off {ρ : List Sl} {i : Nat} {q : Addr} {l : List PyData} {d : PyData} (nd : (own ρ).Nodup) (h : ρ[i]? = some (Sl.ow q l)) : q ∉ own (ρ.set i (.im d)) := by
    induction ρ generalizing i with
    | nil => cases h
    | cons y ρ ih =>
      rw [own_cons] at nd
      obtain ⟨n1, n2, n3⟩ := List.nodup_append.mp nd
      cases i with
      | zero =>
        cases h
        rw [List.set_cons_zero, own_cons]
        intro z
        rcases List.mem_append.mp z with z | z
        · cases z
        · exact n3 q (by simp [ownOf]) q z rfl
      | succ i =>
        rw [List.set_cons_succ, own_cons]
        intro z
        rcases List.mem_append.mp z with z | z
        · exact n3 q z q (own_mem (i := i) h) rfl
        · exact ih n2 (i := i) h z
def dFrz (i : Nat) (t : DSt Z) : DSt Z := fun De s ρ => t De s (frz i ρ)
theorem ds_frz (i : Nat) (h : DS Z X st t) : DS Z X st (dFrz i t) := by
  refine PS.of h fun D σ H ⟨B0, H0, ρ, s, De, R, hd, hn, hb, hc, hr⟩ => ?_
  obtain ⟨R', ho⟩ := R.frz i
  have st : Stp Z B0 ρ H (frz i ρ) H := ⟨fun _ _ h _ => h, fun _ _ h => h, fun _ _ _ h => h, fun a ha => .inl (ho a ha)⟩
  exact ⟨B0, H0, _, s, De, R', hd, fun s2 ρ2 σ2 H2 q R2 st2 => hn s2 ρ2 σ2 H2 q R2 (st.trans R' st2), fun s2 ρ2 σ2 H2 q R2 st2 => hb s2 ρ2 σ2 H2 q R2 (st.trans R' st2), fun s2 ρ2 σ2 H2 q R2 st2 => hc s2 ρ2 σ2 H2 q R2 (st.trans R' st2), hr⟩
end
end Lf
namespace Lf
open PySem PySem.Spec PyProof.Rows L2
section
variable {Z : Zn} {X : Cx} {B0 : Addr → Prop} {H0 H H1 H2 : Hp} {ρ ρ1 ρ2 : List Sl} {s s1 s2 : Z.S} {σ : L2.St} {v u : V} {r x y : Rv} {e a b c tg : Expr} {es rest : List Expr} {de da db dc : DX Z} {dt du : DT Z} {das : DA Z} {pos p : Pos} {K : PySem.W.Frag} {B : Addr → Prop}
/-! ### comprehensions -/
theorem wipe_at (σ : L2.St) (i : Nat) : ∀ vs : List Nat, (wipe σ vs)[i]? = if i ∈ vs then (if i < σ.length then some none else none) else σ[i]? := fun vs => by
  by_cases h : i ∈ vs
  · rw [if_pos h]
    by_cases hl : i < σ.length
    · rw [if_pos hl]
      have hw : i < (wipe σ vs).length := by rw [wipe_length]; exact hl
      rw [List.getElem?_eq_getElem hw]
      cases e : (wipe σ vs)[i] with
      | none => rfl
      | some x => exact absurd h (wipe_some (σ := σ) (i := i) (x := x) (by rw [List.getElem?_eq_getElem hw, e])).2
    · rw [if_neg hl, List.getElem?_eq_none (by rw [wipe_length]; omega)]
  · rw [if_neg h, wipe_out h]
theorem wipe_set {σ : L2.St} {i : Nat} {x : Option V} {vs : List Nat} (h : i ∈ vs) : wipe (σ.set i x) vs = wipe σ vs := by
  refine List.ext_getElem? fun j => ?_
  rw [wipe_at, wipe_at, List.length_set]
  by_cases hj : j ∈ vs
  · rw [if_pos hj, if_pos hj]
  · rw [if_neg hj, if_neg hj, List.getElem?_set_ne (fun z => hj (by rw [← z]; exact h))]
theorem wipe_wipe {σ : L2.St} {vs : List Nat} : wipe (wipe σ vs) vs = wipe σ vs := by
  refine List.ext_getElem? fun j => ?_
  rw [wipe_at (wipe σ vs), wipe_length]
  by_cases hj : j ∈ vs
  · rw [if_pos hj, wipe_at, if_pos hj]
  · rw [if_neg hj]
def wipeS (ρ : List Sl) : List Nat → List Sl
  | [] => ρ
  | i :: vs => wipeS (ρ.set i .no) vs
theorem own_wipe : ∀ {vs : List Nat} {ρ : List Sl} {a : Addr}, a ∈ own (wipeS ρ vs) → a ∈ own ρ
  | [], _, _, h => h
  | i :: vs, ρ, a, h => (mem_own_set (own_wipe (vs := vs) h)).elim id fun y => by cases y
theorem wipeS_at : ∀ {vs : List Nat} {ρ : List Sl} {i : Nat} {x : Sl}, (wipeS ρ vs)[i]? = some x → (i ∈ vs ∧ x = .no) ∨ (i ∉ vs ∧ ρ[i]? = some x)
  | [], _, _, _, h => .inr ⟨List.not_mem_nil, h⟩
  | j :: vs, ρ, i, x, h => by
    rcases wipeS_at (vs := vs) h with ⟨h1, h2⟩ | ⟨h1, h2⟩
    · exact .inl ⟨List.mem_cons_of_mem _ h1, h2⟩
    · rcases set_get h2 with ⟨rfl, rfl⟩ | ⟨ne, h3⟩
      · exact .inl ⟨List.mem_cons_self, rfl⟩
      · refine .inr ⟨fun z => ?_, h3⟩
        rcases List.mem_cons.mp z with z | z
        · exact ne z.symm
        · exact h1 z
theorem wipeS_len : ∀ {vs : List Nat} {ρ : List Sl}, (wipeS ρ vs).length = ρ.length
  | [], _ => rfl
  | i :: vs, ρ => by
    show (wipeS (ρ.set i .no) vs).length = _
    rw [wipeS_len (vs := vs), List.length_set]
theorem own_wipe_nd : ∀ {vs : List Nat} {ρ : List Sl}, (own ρ).Nodup → (own (wipeS ρ vs)).Nodup
  | [], _, h => h
  | i :: vs, ρ, h => own_wipe_nd (vs := vs) (nodup_own_set h fun a z => by cases z)
theorem Rel.wipe (R : Rel Z B0 H0 ρ s σ H) (vs : List Nat) : Rel Z B0 H0 (wipeS ρ vs) s (L2.wipe σ vs) H := by
  have hB : ∀ a, Bad Z B0 (wipeS ρ vs) a → Bad Z B0 ρ a := fun a z => z.imp id fun z => z.imp id own_wipe
  refine ⟨R.ok, by rw [wipe_length, wipeS_len]; exact R.len, fun i x e => ?_, own_wipe_nd R.nd, fun a ha => R.fr a (own_wipe ha), R.btr, R.frm⟩
  have hi : i < σ.length := by
    have := (List.getElem?_eq_some_iff.mp e).1
    rw [wipeS_len] at this
    rw [R.len]
    exact this
  rcases wipeS_at e with ⟨h1, rfl⟩ | ⟨h1, h2⟩
  · exact ⟨none, by rw [wipe_at, if_pos h1, if_pos hi], trivial⟩
  · obtain ⟨o, h3, h4⟩ := R.sl i x h2
    exact ⟨o, by rw [wipe_at, if_neg h1]; exact h3, h4.bad hB⟩
/-- a bad list is changed -/
theorem Rel.updB (R : Rel Z B0 H0 ρ s σ H) {q : Addr} {xs ys : List V} (hb : B0 q) (hz : ¬ Z.at_ q) (h0 : H0 q = none) (hq : H q = some (.lst xs)) : Rel Z B0 H0 ρ s σ (upd H q (.lst ys)) := by
  have kl : ∀ b o, H b = some o → ¬ Bad Z B0 ρ b → upd H q (.lst ys) b = some o ∧ ¬ Bad Z B0 ρ b := fun b o e n => ⟨by rw [upd_ne (fun z => n (by rw [z]; exact .inr (.inl hb)))]; exact e, n⟩
  have kt : ∀ b zs, H b = some (.tup zs) → upd H q (.lst ys) b = some (.tup zs) := fun b zs e => by rw [upd_ne (fun z => by rw [z, hq] at e; cases e)]; exact e
  have kf : ∀ b o u, H b = some (.frz o u) → upd H q (.lst ys) b = some (.frz o u) := fun b o u e => by rw [upd_ne (fun z => by rw [z, hq] at e; cases e)]; exact e
  refine ⟨Z.st R.ok (fun b o z e => by rw [upd_ne (fun y => hz (by rw [← y]; exact z))]; exact e) kt kf (fun b u e => by rw [upd_ne (fun z => by rw [z, hq] at e; cases e)]; exact e), R.len, fun j y e => ?_, R.nd, R.fr, fun a ha z => ?_, fun b o e n => ?_⟩
  · obtain ⟨o', h1, h2⟩ := R.sl j y e
    refine ⟨o', h1, ?_⟩
    cases y with
    | no => trivial
    | im d =>
      obtain ⟨w, h3, h4⟩ := h2
      exact ⟨w, h3, h4.mono kl kt kf⟩
    | ow a m =>
      obtain ⟨h3, zs, h4, h5⟩ := h2
      have : a ≠ q := fun z => (R.fr a (own_mem e)).2.2 (by rw [z]; exact hb)
      exact ⟨h3, zs, by rw [upd_ne this]; exact h4, h5.mono kl kt kf⟩
    | od a m =>
      obtain ⟨h3, zs, h4, h5⟩ := h2
      have : a ≠ q := fun z => (R.fr a (own_memG e rfl)).2.2 (by rw [z]; exact hb)
      exact ⟨h3, zs, by rw [upd_ne this]; exact h4, h5.mono kl kt kf⟩
    | ot a m =>
      obtain ⟨h3, zs, h4, h5⟩ := h2
      have : a ≠ q := fun z => (R.fr a (own_memG e rfl)).2.2 (by rw [z]; exact hb)
      exact ⟨h3, zs, by rw [upd_ne this]; exact h4, h5.mono kl kt kf⟩
    | raw w => exact h2
  · by_cases y : a = q
    · rw [y, upd_same] at z; cases z
    · rw [upd_ne y] at z
      exact R.btr a ha z
  · rw [upd_ne (fun z => by rw [z, h0] at e; cases e)]
    exact R.frm b o e n
theorem own_set_no : ∀ {ρ : List Sl} {i : Nat} {z : Sl}, (∀ x, ρ[i]? = some x → ownOf x = none) → ownOf z = none → own (ρ.set i z) = own ρ
  | [], _, _, _, _ => rfl
  | y :: ρ, 0, z, h, hz => by
    rw [List.set_cons_zero, own_cons, own_cons, hz, h y rfl]
  | y :: ρ, i + 1, z, h, hz => by
    rw [List.set_cons_succ, own_cons, own_cons, own_set_no (i := i) (fun x e => h x e) hz]
/-- a comprehension's target -/
def GOk (Z : Zn) (tu : Bool) (gr : TG) (g : DG Z) (vs : List Nat) : Prop := ∀ (B0 : Addr → Prop) (H0 : Hp) (ρ : List Sl) (s : Z.S) (σ : L2.St) (H : Hp) (v : V) (d : PyData) (Qd : List Sl → Prop) (Q : L2.St → Hp → Prop), (∀ i ∈ vs, ∀ x, ρ[i]? = some x → ownOf x = none) → Rel Z B0 H0 ρ s σ H → Ig tu (Bad Z B0 ρ) H v d → g d ρ Qd →
  (∀ ρ' σ', Qd ρ' → Rel Z B0 H0 ρ' s σ' H → own ρ' = own ρ → L2.wipe σ' vs = L2.wipe σ vs → Q σ' H) → gr v σ H Q
theorem gok_name {i : Nat} {vs : List Nat} (h : i ∈ vs) : GOk Z false (gName i) (gN i) vs := fun B0 H0 ρ s σ H v d Qd Q hno R im hd hq =>
  hq _ _ hd (R.put rfl ⟨v, rfl, im⟩) (own_set_no (hno i h) rfl) (wipe_set h)
theorem nms_okW {vs : List Nat} : ∀ {is : List Nat} {us : List V} {ds : List PyData} {ρ : List Sl} {σ : L2.St} {Qd : List Sl → Prop} {Q : L2.St → Hp → Prop}, (∀ i ∈ is, i ∈ vs) → (∀ i ∈ vs, ∀ x, ρ[i]? = some x → ownOf x = none) → Rel Z B0 H0 ρ s σ H → ImAll (Bad Z B0 ρ) H us ds → gNs is ds ρ Qd → (∀ ρ' σ', Qd ρ' → Rel Z B0 H0 ρ' s σ' H → own ρ' = own ρ → L2.wipe σ' vs = L2.wipe σ vs → Q σ' H) → tNms is us σ H Q
  | [], _, _, ρ, σ, Qd, Q, _, _, R, .nil, hd, hq => ⟨rfl, hq ρ σ hd R rfl rfl⟩
  | i :: is, _, _, ρ, σ, Qd, Q, hv, hno, R, .cons (v := v) (d := d) h t, hd, hq => by
    refine ⟨_, _, rfl, ?_⟩
    have hi := hv i List.mem_cons_self
    have o1 : own (ρ.set i (.im d)) = own ρ := own_set_no (hno i hi) rfl
    exact nms_okW (fun j hj => hv j (List.mem_cons_of_mem _ hj)) (fun j hj x e => by
      rcases set_get e with ⟨_, rfl⟩ | ⟨_, e⟩
      · rfl
      · exact hno j hj x e) (R.put (i := i) (x := .im d) rfl ⟨v, rfl, h⟩) (t.bad fun a z => bad_set rfl z) hd fun ρ' σ' q R' ho hw => hq ρ' σ' q R' (ho.trans o1) (hw.trans (wipe_set hi))
  | [], _, _, _, _, _, _, _, _, _, .cons _ _, hd, _ => hd.elim
  | _ :: _, _, _, _, _, _, _, _, _, _, .nil, hd, _ => hd.elim
theorem gok_tup {is : List Nat} {vs : List Nat} {n : Nat} (hn : is.length = n) (h : ∀ i ∈ is, i ∈ vs) : GOk Z true (gTup K n (tNms is)) (gT is) vs := fun B0 H0 ρ s σ H v d Qd Q hno R im hd hq => by
  unfold gT at hd
  split at hd
  · rename_i ds
    cases im with
    | tup e q => exact ⟨_, _, rfl, SqT.of e, by rw [q.length, gNs_len hd, hn], nms_okW h hno R q hd hq⟩
    | im im => cases im with
      | ftp e _ q => exact ⟨_, _, rfl, .inl (.inr ⟨_, e⟩), by rw [q.length, gNs_len hd, hn], nms_okW h hno R q hd hq⟩
  · exact hd.elim
def lcR (g : DG Z) (tt : DT Z) (te : DX Z) (ρ : List Sl) : List PyData → Z.S → List PyData → (List PyData → Z.S → Prop) → Prop
  | [], s, acc, Q => Q acc s
  | d :: ds, s, acc, Q => g d ρ fun ρ' => tt s ρ' fun b s1 => if b = true then te s1 ρ' fun r s2 => ∃ x, r.st = some x ∧ acc.length < 1000000 ∧ lcR g tt te ρ ds s2 (acc ++ [x]) Q else lcR g tt te ρ ds s1 acc Q
def dLc (wi : DI Z) (g : DG Z) (tt : DT Z) (te : DX Z) (vs : List Nat) : DX Z := fun s ρ Q => own (wipeS ρ vs) = own ρ ∧ wi s ρ fun items _ s1 => lcR g tt te (wipeS ρ vs) items s1 [] fun l s' => Q (.fr l) s'
theorem lift_lc {tu : Bool} {wi : DI Z} {g : DG Z} {gr : TG} {tt : DT Z} {te : DX Z} {vs : List Nat} (hg : GOk Z tu gr g vs) {σ : L2.St} {H : Hp} {Q : VK} (h : liftE Z (dLc wi g tt te vs) σ H Q) : tLc (liftI Z tu wi) gr (liftT Z tt) (liftE Z te) vs σ H Q := by
  obtain ⟨B0, H0, ρ, s, Qd, R, ⟨hw0, hd⟩, hq⟩ := h
  refine ⟨B0, H0, ρ, s, _, R, hd, fun items fz s1 J H1 q R1 g1 ok D hD => ?_⟩
  have nz : ¬ Z.at_ D := fun z => Z.trk R1.ok z hD
  have h0D : H0 D = none := R1.h0 hD
  have nB : ∀ a, Bad Z B0 ρ a → a ≠ D := fun a ha z => R1.bad ha (by rw [z]; exact hD)
  let BD : Addr → Prop := fun a => B0 a ∨ a = D
  have bdB : ∀ a, Bad Z BD (wipeS ρ vs) a → Bad Z B0 ρ a ∨ a = D := fun a z => by
    rcases z with z | z | z
    · exact .inl (.inl z)
    · exact z.imp (fun z => .inr (.inl z)) id
    · exact .inl (.inr (.inr (own_wipe z)))
  refine ⟨fun i m H' => m = items.length - i ∧ i ≤ items.length ∧ ∃ s' acc xs, lcR g tt te (wipeS ρ vs) (items.drop i) s' acc (fun l s' => Qd (.fr l) s') ∧ Rel Z BD H0 (wipeS ρ vs) s' (L2.wipe σ vs) H' ∧ Gr Z H1 H' ∧ H' D = some (.lst xs) ∧ ImAll (Bad Z BD ρ) H' xs acc, ?_, ?_⟩
  · refine ⟨items.length, by simp, Nat.zero_le _, s1, [], [], q, ?_, Gr.of (same_new hD), upd_same, .nil⟩
    exact ((R1.more (Z.st R1.ok (fun a o _ e => same_new hD a o e) (fun b _ e => same_new hD b _ e) (fun b _ _ e => same_new hD b _ e) (fun b _ e => same_new hD b _ e)) (Gr.of (same_new hD)) hD (by rw [upd_same]; exact fun z => nomatch z)).wipe vs)
  · rintro i m H' ⟨rfl, hi, s', acc, xs, q, R', g', hD', im'⟩
    have k2 : ∀ b o, H1 b = some o → ¬ Bad Z B0 ρ b → H' b = some o ∧ ¬ Bad Z BD (wipeS ρ vs) b := fun b o e n => ⟨g' b o e fun z => n (.inl z), fun z => (bdB b z).elim n fun z => by rw [z, hD] at e; cases e⟩
    obtain ⟨go, yl, stop⟩ := ok H' (Bad Z BD (wipeS ρ vs)) (fun b o e n => g' b o e fun z => by cases fz with
      | true => exact n (.inl z)
      | false => exact n z) k2 (fun b ys e => g' b _ e (Zn.ntup R1.ok e)) (fun b o u e => g' b _ e (Zn.nfrz R1.ok e))
    by_cases hlt : i < items.length
    · refine .inr ⟨go i hlt, fun G => (i + 1 ≤ items.length) ∧ ∃ s' acc xs, lcR g tt te (wipeS ρ vs) (items.drop (i + 1)) s' acc (fun l s' => Qd (.fr l) s') ∧ Rel Z BD H0 (wipeS ρ vs) s' (L2.wipe σ vs) G ∧ Gr Z H1 G ∧ G D = some (.lst xs) ∧ ImAll (Bad Z BD ρ) G xs acc, fun G h => ⟨items.length - (i + 1), by omega, rfl, h⟩, fun x H2 hy => ?_⟩
      obtain ⟨sm, im⟩ := yl i items[i] x H2 (List.getElem?_eq_getElem hlt) hy
      rw [List.drop_eq_getElem_cons hlt] at q
      have R2 := R'.same sm
      have g2 : Gr Z H1 H2 := g'.trans (Gr.of sm)
      have hD2 := sm _ _ hD'
      have im2 := im'.same sm
      refine hg BD H0 _ s' _ H2 x items[i] _ _ (fun j hj z e => by rcases wipeS_at e with ⟨_, rfl⟩ | ⟨h1, _⟩; rfl; exact absurd hj h1) R2 im q fun ρ3 σ3 q3 R3 ho hw => ?_
      refine ⟨hw.trans wipe_wipe, BD, H0, ρ3, s', _, R3, q3, fun b s4 H4 q4 R4 g4 => ?_⟩
      have R4w : Rel Z BD H0 (wipeS ρ vs) s4 (L2.wipe σ vs) H4 := R2.grow R4.ok g4
      have im4 : ImAll (Bad Z BD ρ) H4 xs acc := im2.grow badZ R2.ok g4
      cases b with
      | false => exact ⟨hlt, s4, acc, xs, q4, R4w, g2.trans g4, g4 D _ hD2 nz, im4⟩
      | true =>
        refine ⟨BD, H0, ρ3, s4, _, R4, q4, fun r s5 w H5 q5 R5 g5 r5 => ?_⟩
        obtain ⟨xd, e5, l5, q5⟩ := q5
        have iw := RvR.st R4 r5 e5
        have im5 : ImAll (Bad Z BD ρ) H5 xs acc := im4.grow badZ R4.ok g5
        have hD5 := g5 D _ (g4 D _ hD2 nz) nz
        have R5w : Rel Z BD H0 (wipeS ρ vs) s5 (L2.wipe σ vs) H5 := R4w.grow R5.ok g5
        refine ⟨xs, hD5, by rw [im5.length]; exact smL l5, hlt, s5, acc ++ [xd], xs ++ [w], q5, R5w.updB (.inr rfl) nz h0D hD5, fun b o e n => ?_, upd_same, ?_⟩
        · rw [upd_ne (fun z => by rw [z, hD] at e; cases e)]
          exact g5 b o (g4 b o (g2 b o e n) n) n
        · have step : ∀ {v : V} {d : PyData}, Im (Bad Z BD ρ) H5 v d → Im (Bad Z BD ρ) (upd H5 D (.lst (xs ++ [w]))) v d := fun h => h.mono (fun b o e n => ⟨by rw [upd_ne (fun z => n (by rw [z]; exact .inr (.inl (.inr rfl))))]; exact e, n⟩) (fun b zs e => by rw [upd_ne (fun z => by rw [z, hD5] at e; cases e)]; exact e) (fun b o u e => by rw [upd_ne (fun z => by rw [z, hD5] at e; cases e)]; exact e)
          have steps : ImAll (Bad Z BD ρ) (upd H5 D (.lst (xs ++ [w]))) xs acc := im5.mono (fun b o e n => ⟨by rw [upd_ne (fun z => n (by rw [z]; exact .inr (.inl (.inr rfl))))]; exact e, n⟩) (fun b zs e => by rw [upd_ne (fun z => by rw [z, hD5] at e; cases e)]; exact e) (fun b o u e => by rw [upd_ne (fun z => by rw [z, hD5] at e; cases e)]; exact e)
          refine steps.snoc (step (iw.bad fun a z => ?_))
          unfold Bad at z ⊢
          rw [ho, hw0]
          exact z
    · have e : i = items.length := by omega
      subst e
      rw [List.drop_length] at q
      refine .inl ⟨stop, hq _ s' _ H' q (R1.grow R'.ok g') (g1.trans g') ⟨D, xs, rfl, none_back R1.ok g1 hD, nz, hD', im'.bad fun a z => ?_⟩⟩
      rcases z with (z | z | z) | z
      · exact .inl z
      · exact .inr (.inl (.inl z))
      · exact .inr (.inr z)
      · exact .inr (.inl (.inr z))
abbrev DPTs (Z : Zn) (X : Cx) (ifs : List Expr) (d : DT Z) : Prop := PTs X ifs (liftT Z d)
def dYes : DT Z := fun s _ Q => Q true s
theorem dp_nil : DPTs Z X [] dYes := ⟨fun pins s σ H Q I ⟨B0, H0, ρ, s1, Qd, R, hd, hq⟩ => pts_nil.run pins s σ H Q I (hq true s1 H hd R Gr.refl)⟩
theorem dp_one (h : DTs Z X c dt) : DPTs Z X [c] dt := pts_one h
theorem de_lc {elt iter : Expr} {ifs : List Expr} {scope : Scope} {ow : List (Str × Nat)} {wi : DI Z} {g : DG Z} {gr : TG} {tt : DT Z} {te : DX Z} {tu : Bool} (hgo : GOk Z tu gr g (ow.map (·.2))) (hc : X.calm = true) (hN : X.N.Nodup) (hi : DIs Z X tg iter wi) (ok : BlkOk X.N X.env.scope scope ow)
    (hg : ∀ (s : Shared) (H : Hp) (C : Addr) (cl : List (Str × Addr)) (fp : List Addr), PG (X.blk s H scope (compEnvC scope cl C X.env) fp) tg gr) (ht : ∀ (s : Shared) (H : Hp) (C : Addr) (cl : List (Str × Addr)) (fp : List Addr), DPTs Z (X.blk s H scope (compEnvC scope cl C X.env) fp) ifs tt)
    (he : ∀ (s : Shared) (H : Hp) (C : Addr) (cl : List (Str × Addr)) (fp : List Addr), DE Z (X.blk s H scope (compEnvC scope cl C X.env) fp) elt te) (hs : ∀ x, foldedSetIterable iter X.env x = pure x := by intro _; rfl) (htu : isTup tg = tu := by rfl) :
    DE Z X (.ListComp elt [⟨tg, iter, ifs, 0⟩] scope pos) (dLc wi g tt te (ow.map (·.2))) := by
  subst htu
  exact PE.of (pe_lc hc hN hi ok hg ht he hs) fun σ H Q h => lift_lc hgo h
theorem ds_setLc {i : Nat} {n : Str} {py spos : Pos} {elt iter : Expr} {ifs : List Expr} {scope : Scope} {ow : List (Str × Nat)} {wi : DI Z} {g : DG Z} {gr : TG} {tt : DT Z} {te : DX Z} {tu : Bool} (hgo : GOk Z tu gr g (ow.map (·.2))) (hc : X.calm = true) (hN : X.N.Nodup) (hy : X.N[i]? = some n) (hyl : X.env.scope.names.lookup n = some .local)
    (hsw : swapsWith (.ListComp elt [⟨tg, iter, ifs, 0⟩] scope pos) (some (.Name n py)) spos.line X.env = pure true) (hi : DIs Z X tg iter wi) (ok : BlkOk X.N X.env.scope scope ow)
    (hg : ∀ (s : Shared) (H : Hp) (C : Addr) (cl : List (Str × Addr)) (fp : List Addr), PG (X.blk s H scope (compEnvC scope cl C X.env) fp) tg gr) (ht : ∀ (s : Shared) (H : Hp) (C : Addr) (cl : List (Str × Addr)) (fp : List Addr), DPTs Z (X.blk s H scope (compEnvC scope cl C X.env) fp) ifs tt)
    (he : ∀ (s : Shared) (H : Hp) (C : Addr) (cl : List (Str × Addr)) (fp : List Addr), DE Z (X.blk s H scope (compEnvC scope cl C X.env) fp) elt te) (hs : ∀ x, foldedSetIterable iter X.env x = pure x := by intro _; rfl) (htu : isTup tg = tu := by rfl) :
    DS Z X (.Assign [.Name n py] (.ListComp elt [⟨tg, iter, ifs, 0⟩] scope pos) spos) (dSet i (dLc wi g tt te (ow.map (·.2)))) := by
  subst htu
  refine PS.of (ps_setLc hc hN hy hyl hsw hi ok hg ht he hs) fun D σ H h => ?_
  have h2 := lift_set h
  exact lift_lc (Q := fun x H1 => gName i x σ H1 D.nx) hgo h2
end
end Lf
namespace Lf
open PySem PySem.Spec PyProof.Rows L2
/-! ### defs -/
def ArgR (B : Addr → Prop) (H : Hp) (v : V) : Sl → Prop
  | .im d => Im B H v d
  | .raw u => v = u
  | _ => False
inductive ArgRs (B : Addr → Prop) (H : Hp) : List V → List Sl → Prop
  | nil : ArgRs B H [] []
  | cons {v : V} {vs : List V} {x : Sl} {xs : List Sl} : ArgR B H v x → ArgRs B H vs xs → ArgRs B H (v :: vs) (x :: xs)
abbrev DF (Z : Zn) := Z.S → List Sl → (Rv → Z.S → Prop) → Prop
def spD (Z : Zn) (F : DF Z) : Sp := fun vs H Q _ => ∃ (B0 : Addr → Prop) (s : Z.S) (as : List Sl) (Qd : Rv → Z.S → Prop), Z.ok s H ∧ (∀ a, B0 a → H a ≠ none) ∧ ArgRs (Bad Z B0 []) H vs as ∧ F s as Qd ∧ ∀ r s' v H', Qd r s' → Z.ok s' H' → Gr Z H H' → RvR Z B0 [] H H' v r → Q v H'
section
variable {Z : Zn} {X : Cx} {B0 : Addr → Prop} {H0 H H1 H2 : Hp} {ρ ρ1 ρ2 : List Sl} {s s1 s2 : Z.S} {σ : L2.St} {v u : V} {r x y : Rv} {e a b c tg : Expr} {es rest : List Expr} {de da db dc : DX Z} {dt du : DT Z} {das : DA Z} {pos p : Pos} {K : PySem.W.Frag} {B : Addr → Prop}
theorem ArgRs.length : ∀ {vs : List V} {as : List Sl}, ArgRs B H vs as → vs.length = as.length
  | _, _, .nil => rfl
  | _, _, .cons _ q => congrArg (· + 1) q.length
theorem ArgRs.own : ∀ {vs : List V} {as : List Sl}, ArgRs B H vs as → ∀ {m : Nat}, Lf.own (as ++ List.replicate m .no) = []
  | _, _, .nil, 0 => rfl
  | _, _, .nil, m + 1 => by
    rw [List.nil_append, List.replicate_succ, own_cons]
    have := ArgRs.own (ArgRs.nil (B := B) (H := H)) (m := m)
    rw [List.nil_append] at this
    rw [this]
    rfl
  | _, _, .cons (x := x) h q, m => by
    rw [List.cons_append, own_cons, q.own]
    cases x with
    | im d => rfl
    | raw u => rfl
    | no => exact h.elim
    | ow _ _ => exact h.elim
    | od _ _ => exact h.elim
    | ot _ _ => exact h.elim
theorem ArgRs.get : ∀ {vs : List V} {as : List Sl} {i : Nat} {x : Sl}, ArgRs B H vs as → as[i]? = some x → ∃ v, vs[i]? = some v ∧ ArgR B H v x
  | _, _, 0, _, .cons h q, e => by cases e; exact ⟨_, rfl, h⟩
  | _, _, i + 1, _, .cons h q, e => q.get (i := i) e
  | _, _, 0, _, .nil, e => by cases e
  | _, _, _ + 1, _, .nil, e => by cases e
theorem rel_start {N : List Str} {vs : List V} {as : List Sl} (ok : Z.ok s H) (hB : ∀ a, B0 a → H a ≠ none) (h : ArgRs (Bad Z B0 []) H vs as) (hl : vs.length ≤ N.length) : Rel Z B0 H (as ++ List.replicate (N.length - as.length) .no) s (L2.start N vs) H := by
  have eo : own (as ++ List.replicate (N.length - as.length) .no) = [] := h.own
  have el := h.length
  refine ⟨ok, ?_, fun i x e => ?_, (by rw [eo]; exact List.nodup_nil), (fun a ha => by rw [eo] at ha; exact absurd ha List.not_mem_nil), hB, fun b o e _ => e⟩
  · unfold L2.start
    simp only [List.length_append, List.length_map, List.length_replicate]
    omega
  · have hb : ∀ a, Bad Z B0 (as ++ List.replicate (N.length - as.length) .no) a → Bad Z B0 [] a := fun a z => by unfold Bad at z ⊢; rw [eo] at z; exact z
    unfold L2.start
    rcases Nat.lt_or_ge i as.length with hi | hi
    · rw [List.getElem?_append_left hi] at e
      obtain ⟨v, hv, ha⟩ := h.get e
      refine ⟨some v, by rw [List.getElem?_append_left (by rw [List.length_map]; omega), List.getElem?_map, hv]; rfl, ?_⟩
      cases x with
      | im d => exact ⟨v, rfl, Im.bad hb ha⟩
      | raw u => cases (show v = u from ha); rfl
      | no => trivial
      | ow _ _ => exact ha.elim
      | od _ _ => exact ha.elim
      | ot _ _ => exact ha.elim
    · rw [List.getElem?_append_right hi] at e
      have hm := List.getElem?_eq_some_iff.mp e
      have hx : x = .no := by rw [← hm.2]; exact List.getElem_replicate ..
      subst hx
      have hlt : i - as.length < N.length - as.length := by have := hm.1; rw [List.length_replicate] at this; exact this
      refine ⟨none, ?_, trivial⟩
      rw [List.getElem?_append_right (by rw [List.length_map]; omega), List.length_map, List.getElem?_replicate, if_pos (by omega)]
/-- the ends of a def -/
def ends (Qd : Rv → Z.S → Prop) : DEnds Z := { nx := fun s' _ => Qd (.im .none) s', rt := Qd }
theorem body_ok {N : List Str} {d : DSt Z} {F : DF Z} {vs : List V} {Q : VK} {E : XK} (hl : vs.length ≤ N.length) (hd : ∀ s as Qd, F s as Qd → d (ends Qd) s (as ++ List.replicate (N.length - as.length) .no)) (h : spD Z F vs H Q E) : liftS Z d { nx := fun _ H' => Q .non H', rt := Q } (L2.start N vs) H := by
  obtain ⟨B0, s, as, Qd, ok, hB, ha, hf, hq⟩ := h
  refine ⟨B0, H, _, s, ends Qd, rel_start ok hB ha hl, hd s as Qd hf, fun s' ρ' σ' H' q R' st => ?_, fun _ _ _ _ q => q.elim, fun _ _ _ _ q => q.elim, fun r s' v H' q ok' g' rr => hq r s' v H' q ok' g' rr⟩
  exact hq _ s' .non H' q R'.ok R'.frm Im.non
end
section
variable {P : Program} {w : World} {K : PySem.W.Frag} {mg : Str → Option Value} {base : Heap} {Z : Zn}
theorem def_ok {nm : Str} {st : Stmt} {N ps : List Str} {k : Nat} {F : DF Z} {d : DSt Z} (M : Mk K mg nm st ps) (Sc : FnScope N ps (defScope st)) (hl : ps.length ≤ N.length) (len : ∀ s as Qd, F s as Qd → as.length = ps.length)
    (body : ∀ (f : Addr) (cdv : Value) (A : Around) (outer : List Env) (s : Shared) (H : Hp) (E : XK), Room k (A.deeper (envOfC nm (defScope st) s.heap.objs.size f cdv)) → DSs Z (cxOf CX0 P w K mg base N nm (defScope st) f cdv A outer s H E).nox (defBody st) d)
    (hd : ∀ s as Qd, F s as Qd → d (ends Qd) s (as ++ List.replicate (N.length - as.length) .no)) : Df P w K mg base CX0 (k + 1) nm ps (spD Z F) := by
  obtain ⟨f, fd, Fn, b, g⟩ := M
  have hlen : ∀ vs H Q E, spD Z F vs H Q E → vs.length = ps.length := fun vs H Q E ⟨B0, s, as, Qd, _, _, ha, hf, _⟩ => by rw [ha.length, len s as Qd hf]
  refine Df.of Fn b g (Fn.ok Sc hlen fun cdv A outer s H vs Q E hr h => ⟨_, body f cdv A outer s H E hr, body_ok ?_ hd h⟩)
  rw [hlen vs H Q E h]
  exact hl
theorem def_okG {nm : Str} {st : Stmt} {N ps : List Str} {k : Nat} {F : DF Z} {d : DSt Z} (M : Mk K mg nm st ps) (Sc : FnScope N ps (defScope st)) (hl : ps.length ≤ N.length) (len : ∀ s as Qd, F s as Qd → as.length = ps.length)
    (body : ∀ (f : Addr) (cdv : Value) (A : Around) (outer : List Env) (s : Shared) (H : Hp) (E : XK), A.guards = some [] → Room k (A.deeper (envOfC nm (defScope st) s.heap.objs.size f cdv)) → DSs Z (cxOf CX0 P w K mg base N nm (defScope st) f cdv A outer s H E).nox (defBody st) d)
    (hd : ∀ s as Qd, F s as Qd → d (ends Qd) s (as ++ List.replicate (N.length - as.length) .no)) : DfG P w K mg base (k + 1) nm ps (spD Z F) := by
  obtain ⟨f, fd, Fn, b, g⟩ := M
  have hlen : ∀ vs H Q E, spD Z F vs H Q E → vs.length = ps.length := fun vs H Q E ⟨B0, s, as, Qd, _, _, ha, hf, _⟩ => by rw [ha.length, len s as Qd hf]
  refine ⟨f, fd, runG_of Fn Sc hlen fun cdv A outer s H vs Q E hgu hr h => ⟨_, body f cdv A outer s H E hgu hr, body_ok ?_ hd h⟩, b, g, Fn.kp, hlen⟩
  rw [hlen vs H Q E h]
  exact hl
theorem Df.imp {CX : CXT} {k : Nat} {x : Str} {ps : List Str} {sp sp' : Sp} (D : Df P w K mg base CX k x ps sp) (h : ∀ vs H Q E, sp' vs H Q E → sp vs H Q E) : Df P w K mg base CX k x ps sp' := by
  obtain ⟨f, fd, F, b, g, kp⟩ := D
  exact ⟨f, fd, F.imp h, b, g, kp⟩
end
/-! ### calls -/
def argOf : Rv → Sl
  | .im d => .im d
  | .bo l => .im (.list l)
  | .fr l => .im (.list l)
  | .rw v => .raw v
def isBo : Rv → Bool
  | .bo _ => true
  | _ => false
def cleanR : Rv → Bool
  | .im d => noL d
  | .fr l => noLs l
  | .rw _ => true
  | .bo _ => false
def okR (rs : List Rv) (r : Rv) : Prop := rs.any isBo = false ∨ cleanR r = true
section
variable {Z : Zn} {X : Cx} {B0 : Addr → Prop} {H0 H H1 H2 : Hp} {ρ ρ1 ρ2 : List Sl} {s s1 s2 : Z.S} {σ : L2.St} {v u : V} {r x y : Rv} {e a b c tg : Expr} {es rest : List Expr} {de da db dc : DX Z} {dt du : DT Z} {das : DA Z} {pos p : Pos} {K : PySem.W.Frag} {B : Addr → Prop}
theorem args_st (R : Rel Z B0 H0 ρ s σ H) {B1 : Addr → Prop} (hB : ∀ a, B1 a → Bad Z B0 ρ a) : ∀ {vs : List V} {rs : List Rv}, RvRs Z B0 ρ H H1 vs rs → rs.any isBo = false → ArgRs B1 H1 vs (rs.map argOf)
  | _, _, .nil, _ => .nil
  | _, _, .cons (r := r) h q, hb => by
    rw [List.any_cons, Bool.or_eq_false_iff] at hb
    refine .cons ?_ (args_st R hB q hb.2)
    cases r with
    | im d => exact Im.bad hB h
    | rw w => exact h
    | fr l => exact Im.bad hB (RvR.st (r := .fr l) R h rfl)
    | bo l => cases hb.1
theorem args_rd (R : Rel Z B0 H0 ρ s σ H) {B1 : Addr → Prop} (hB : ∀ a, B1 a → Z.at_ a ∨ B0 a) : ∀ {vs : List V} {rs : List Rv}, RvRs Z B0 ρ H H1 vs rs → ArgRs B1 H1 vs (rs.map argOf)
  | _, _, .nil => .nil
  | _, _, .cons (r := r) h q => by
    have hB' : ∀ a, B1 a → Bad Z B0 ρ a := fun a z => (hB a z).imp id fun z => .inl z
    refine .cons ?_ (args_rd R hB q)
    cases r with
    | im d => exact Im.bad hB' h
    | rw w => exact h
    | fr l => exact Im.bad hB' (RvR.st (r := .fr l) R h rfl)
    | bo l =>
      obtain ⟨a, xs, h1, rfl, h3, h4⟩ := h
      exact .lst h3 (fun z => (hB a z).elim (R.fr a h1).2.1 (R.fr a h1).2.2) (h4.bad hB')
/-- from a call's result to ours -/
theorem res_ok {Z1 : Zn} {B1 : Addr → Prop} (hz : ∀ a, Bad Z B0 ρ a → Bad Z1 B1 [] a ∨ True) (hB : ∀ a, Bad Z B0 ρ a → Bad Z1 B1 [] a) (hzn : ∀ p, H1 p = none → ¬ Z.at_ p) (h : RvR Z1 B1 [] H1 H2 v r) : RvR Z B0 ρ H1 H2 v r := by
  cases r with
  | im d => exact Im.bad hB h
  | rw w => exact h
  | fr l =>
    obtain ⟨p, xs, rfl, h1, h2, h3, h4⟩ := h
    exact ⟨p, xs, rfl, h1, hzn p h1, h3, h4.bad fun a z => z.imp (hB a) id⟩
  | bo l =>
    obtain ⟨a, xs, h1, _⟩ := h
    cases h1
theorem res_clean {Z1 : Zn} {B1 : Addr → Prop} (hzn : ∀ p, H1 p = none → ¬ Z.at_ p) (hc : cleanR r = true) (h : RvR Z1 B1 [] H1 H2 v r) : RvR Z B0 ρ H1 H2 v r := by
  cases r with
  | im d => exact Im.free hc h
  | rw w => exact h
  | fr l =>
    obtain ⟨p, xs, rfl, h1, h2, h3, h4⟩ := h
    exact ⟨p, xs, rfl, h1, hzn p h1, h3, ImAll.free hc h4⟩
  | bo l => cases hc
/-- a call in the same zone -/
def dCall (F : DF Z) (da : DA Z) : DX Z := fun s ρ Q => da s ρ fun rs s1 => F s1 (rs.map argOf) fun r s2 => okR rs r ∧ Q r s2
/-- a call of a def that knows no zone -/
def dCallP (F : DF Z0) (da : DA Z) : DX Z := fun s ρ Q => da s ρ fun rs s1 => F () (rs.map argOf) fun r _ => okR rs r ∧ Q r s1
theorem app0 {sp : Sp} {vs : List V} {Q : VK} {E : XK} (h : sp vs H Q E) : sp (vs ++ []) H Q E := by rw [List.append_nil]; exact h
theorem lift_call {F : DF Z} {E : XK} {σ : L2.St} {H : Hp} {Q : VK} (h : liftE Z (dCall F das) σ H Q) : tCall (spD Z F) [] E (liftA Z das) σ H Q := by
  obtain ⟨B0, H0, ρ, s, Qd, R, hd, hq⟩ := h
  refine ⟨B0, H0, ρ, s, _, R, hd, fun rs s1 vs H1 qx R1 g1 r1 => app0 ?_⟩
  have hzn : ∀ p, H1 p = none → ¬ Z.at_ p := fun p hp z => Z.trk R1.ok z hp
  cases hb : rs.any isBo with
  | false =>
    have eB : ∀ a, Bad Z (fun a => B0 a ∨ a ∈ own ρ) [] a ↔ Bad Z B0 ρ a := fun a => ⟨fun z => z.imp id fun z => z.elim id (fun z => absurd z List.not_mem_nil), fun z => z.imp id fun z => .inl z⟩
    refine ⟨fun a => B0 a ∨ a ∈ own ρ, s1, _, _, R1.ok, fun a ha => ha.elim (R1.btr a) fun z => R1.otr z, args_st R (fun a z => (eB a).mp z) r1 hb, qx, fun r s2 v H2 q ok2 g2 rr => ?_⟩
    have rr2 : RvR Z B0 ρ H1 H2 v r := res_ok (fun _ _ => .inr trivial) (fun a z => (eB a).mpr z) hzn rr
    exact hq r s2 v H2 q.2 (R1.grow ok2 g2) (g1.trans g2) (rr2.back R1.ok g1)
  | true =>
    refine ⟨B0, s1, _, _, R1.ok, R1.btr, args_rd R (fun a z => z.imp id fun z => z.elim id fun z => by cases z) r1, qx, fun r s2 v H2 q ok2 g2 rr => ?_⟩
    have hc : cleanR r = true := q.1.elim (fun z => by rw [hb] at z; cases z) id
    have rr2 : RvR Z B0 ρ H1 H2 v r := res_clean hzn hc rr
    exact hq r s2 v H2 q.2 (R1.grow ok2 g2) (g1.trans g2) (rr2.back R1.ok g1)
theorem lift_callP {F : DF Z0} {E : XK} {σ : L2.St} {H : Hp} {Q : VK} (h : liftE Z (dCallP F das) σ H Q) : tCall (spD Z0 F) [] E (liftA Z das) σ H Q := by
  obtain ⟨B0, H0, ρ, s, Qd, R, hd, hq⟩ := h
  refine ⟨B0, H0, ρ, s, _, R, hd, fun rs s1 vs H1 qx R1 g1 r1 => app0 ?_⟩
  have hzn : ∀ p, H1 p = none → ¬ Z.at_ p := fun p hp z => Z.trk R1.ok z hp
  have same : ∀ {H2 : Hp}, Gr Z0 H1 H2 → Same H1 H2 := fun g b o e => g b o e id
  cases hb : rs.any isBo with
  | false =>
    have eB : ∀ a, Bad Z0 (fun a => Bad Z B0 ρ a) [] a ↔ Bad Z B0 ρ a := fun a => ⟨fun z => z.elim (fun z => z.elim) fun z => z.elim id (fun z => absurd z List.not_mem_nil), fun z => .inr (.inl z)⟩
    refine ⟨fun a => Bad Z B0 ρ a, (), _, _, trivial, fun a ha => R1.bad ha, args_st R (fun a z => (eB a).mp z) r1 hb, qx, fun r s2 v H2 q ok2 g2 rr => ?_⟩
    have rr2 : RvR Z B0 ρ H1 H2 v r := res_ok (fun _ _ => .inr trivial) (fun a z => (eB a).mpr z) hzn rr
    exact hq r s1 v H2 q.2 (R1.same (same g2)) (g1.trans (Gr.of (same g2))) (rr2.back R1.ok g1)
  | true =>
    refine ⟨fun a => Z.at_ a ∨ B0 a, (), _, _, trivial, fun a ha => ha.elim (fun z => Z.trk R1.ok z) (R1.btr a), args_rd R (fun a z => z.elim (fun z => z.elim) fun z => z.elim id fun z => by cases z) r1, qx, fun r s2 v H2 q ok2 g2 rr => ?_⟩
    have hc : cleanR r = true := q.1.elim (fun z => by rw [hb] at z; cases z) id
    have rr2 : RvR Z B0 ρ H1 H2 v r := res_clean hzn hc rr
    exact hq r s1 v H2 q.2 (R1.same (same g2)) (g1.trans (Gr.of (same g2))) (rr2.back R1.ok g1)
variable {k j : Nat} {ps : List Str} {n : Str} {CX : CXT}
theorem de_call {F : DF Z} {E : XK} (D : Df X.prog X.w X.K X.mg X.base CX k n ps (spD Z F)) (hx : Passes CX X E) (hr : Room j X.A) (ha : DAs Z X (e :: es) das) (hj : k ≤ j := by decide) (hg : Gl X n := by rfl)
    (hdb : (n == ("__debug__" : Str)) = false := by decide) (he : starEach (e :: es) X.env = (false, eval e X.env) :: starEach es X.env := by rfl) (hpl : (backTo pos (starEach es X.env)).any (·.1) = false := by rfl) : DE Z X (.Call (.Name n p) (e :: es) [] pos) (dCall F das) :=
  PE.of (pe_dD D hx hr ha hj hg hdb he hpl) fun σ H Q h => lift_call h
theorem de_callP {F : DF Z0} {E : XK} (D : Df X.prog X.w X.K X.mg X.base CX k n ps (spD Z0 F)) (hx : Passes CX X E) (hr : Room j X.A) (ha : DAs Z X (e :: es) das) (hj : k ≤ j := by decide) (hg : Gl X n := by rfl)
    (hdb : (n == ("__debug__" : Str)) = false := by decide) (he : starEach (e :: es) X.env = (false, eval e X.env) :: starEach es X.env := by rfl) (hpl : (backTo pos (starEach es X.env)).any (·.1) = false := by rfl) : DE Z X (.Call (.Name n p) (e :: es) [] pos) (dCallP F das) :=
  PE.of (pe_dD D hx hr ha hj hg hdb he hpl) fun σ H Q h => lift_callP h
theorem de_callG {F : DF Z} (D : DfG X.prog X.w X.K X.mg X.base k n ps (spD Z F)) (hgu : X.A.guards = some []) (hr : Room j X.A) (ha : DAs Z X (e :: es) das) (hj : k ≤ j := by decide) (hg : Gl X n := by rfl)
    (hdb : (n == ("__debug__" : Str)) = false := by decide) (he : starEach (e :: es) X.env = (false, eval e X.env) :: starEach es X.env := by rfl) (hpl : (backTo pos (starEach es X.env)).any (·.1) = false := by rfl) : DE Z X (.Call (.Name n p) (e :: es) [] pos) (dCall F das) :=
  PE.of (pe_dG D hgu hr ha hj hg hdb he hpl) fun σ H Q h => lift_call h
theorem de_callGP {F : DF Z0} (D : DfG X.prog X.w X.K X.mg X.base k n ps (spD Z0 F)) (hgu : X.A.guards = some []) (hr : Room j X.A) (ha : DAs Z X (e :: es) das) (hj : k ≤ j := by decide) (hg : Gl X n := by rfl)
    (hdb : (n == ("__debug__" : Str)) = false := by decide) (he : starEach (e :: es) X.env = (false, eval e X.env) :: starEach es X.env := by rfl) (hpl : (backTo pos (starEach es X.env)).any (·.1) = false := by rfl) : DE Z X (.Call (.Name n p) (e :: es) [] pos) (dCallP F das) :=
  PE.of (pe_dG D hgu hr ha hj hg hdb he hpl) fun σ H Q h => lift_callP h
/-! ### repr -/
def opRepr : Cb := fun rs Q => match rs with
  | [x] => match x.D with
    | some d => d.showable = true ∧ d.depth ≤ 100 ∧ d.shown.length ≤ sizeLine ∧ Q (.im (.str d.shown))
    | _ => False
  | _ => False
theorem de_repr (sys : ∃ o, X.base.get? sysModules = some o) (hgu : X.A.guards = some []) (hu : X.A.units + 200 < cLine) (hg : Gl X "repr") (hm : X.mg "repr" = none) (ha : DAs Z X (e :: es) das) (he : starEach (e :: es) X.env = (false, eval e X.env) :: starEach es X.env := by rfl) (hpl : (backTo pos (starEach es X.env)).any (·.1) = false := by rfl) : DE Z X (.Call (.Name "repr" p) (e :: es) [] pos) (dCB opRepr das) := by
  refine PE.of (pe_callB (call_reprA sys hgu hu) hg hm (by decide +kernel) ha (by decide) (by decide) he hpl) fun σ H Q h => lift_cb ?_ h
  intro Z B0 ρ s H0 σ Ha H vs xs Qd Q R rr q k
  unfold opRepr at q
  split at q
  · obtain ⟨v, rfl, r1⟩ := rr.one
    split at q
    · rename_i d e1
      exact ⟨v, d, rfl, (r1.rd e1).rp, q.1, q.2.1, q.2.2.1, k _ _ _ q.2.2.2 (Same.refl H) (Im.str _)⟩
    · exact q.elim
  · exact q.elim
/-! ### list(range(..)), tuple(range(..)) -/
theorem rgV_im {lo hi : Int} : ImAll B H (rgV lo hi) (rngD lo (hi - lo).toNat) := by
  unfold rgV rngD
  have h : ∀ l : List Nat, ImAll B H (l.map fun k => V.int (lo + (k : Nat))) (l.map fun k => PyData.int (lo + (k : Nat))) := fun l => by
    induction l with
    | nil => exact .nil
    | cons x l ih => exact .cons (.int _) ih
  exact h _
def dRg1 (tup : Bool) (da : DX Z) : DX Z := fun s ρ Q => da s ρ fun x s1 => match x.D with
  | some (.int j) => j ≤ 1000000 ∧ -1000000 ≤ j ∧ Q (if tup then .im (.tuple (rngD 0 j.toNat)) else .fr (rngD 0 j.toNat)) s1
  | _ => False
def dRg2 (tup : Bool) (da db : DX Z) : DX Z := fun s ρ Q => da s ρ fun x s1 => db s1 ρ fun y s2 => match x.D, y.D with
  | some (.int i), some (.int j) => (i ≤ 1000000 ∧ -1000000 ≤ i) ∧ (j ≤ 1000000 ∧ -1000000 ≤ j) ∧ Q (if tup then .im (.tuple (rngD i (j - i).toNat)) else .fr (rngD i (j - i).toNat)) s2
  | _, _ => False
theorem rg1 {j : Int} : ImAll B H (rgV 0 j) (rngD 0 j.toNat) := by
  have := rgV_im (B := B) (H := H) (lo := 0) (hi := j)
  rw [Int.sub_zero] at this
  exact this
theorem de_listR1 {p2 pos2 : Pos} (hc : X.calm = true) (hg : Gl X "list") (hm : X.mg "list" = none) (hg2 : Gl X "range") (hm2 : X.mg "range" = none) (ha : DE Z X a da) (na2 : starEach [a] X.env = (false, eval a X.env) :: starEach [] X.env := by rfl) (na : starEach [.Call (.Name "range" p2) [a] [] pos2] X.env = (false, eval (.Call (.Name "range" p2) [a] [] pos2) X.env) :: starEach [] X.env := by rfl) :
    DE Z X (.Call (.Name "list" p) [.Call (.Name "range" p2) [a] [] pos2] [] pos) (dRg1 false da) := by
  refine PE.of (pe_listRg hc hg hm (prg_1 hg2 hm2 ha na2) na) fun σ H Q ⟨B0, H0, ρ, s, Qd, R, hd, hq⟩ => ?_
  refine ⟨B0, H0, ρ, s, _, R, hd, fun x s1 v H1 qx R1 g1 r1 => ?_⟩
  split at qx
  · rename_i j e1
    refine ⟨j, r1.vI e1, ⟨by omega, by omega, by omega, by omega, by omega⟩, fun q hq1 => hq _ s1 _ _ qx.2.2 (R1.same (same_new hq1)) (g1.trans (Gr.of (same_new hq1))) ((R1.newL hq1 rg1).back R1.ok g1)⟩
  · exact qx.elim
theorem de_tupR1 {p2 pos2 : Pos} (hc : X.calm = true) (hg : Gl X "tuple") (hm : X.mg "tuple" = none) (hg2 : Gl X "range") (hm2 : X.mg "range" = none) (ha : DE Z X a da) (na2 : starEach [a] X.env = (false, eval a X.env) :: starEach [] X.env := by rfl) (na : starEach [.Call (.Name "range" p2) [a] [] pos2] X.env = (false, eval (.Call (.Name "range" p2) [a] [] pos2) X.env) :: starEach [] X.env := by rfl) :
    DE Z X (.Call (.Name "tuple" p) [.Call (.Name "range" p2) [a] [] pos2] [] pos) (dRg1 true da) := by
  refine PE.of (pe_tupRgK hc hg hm (prg_1 hg2 hm2 ha na2) na) fun σ H Q ⟨B0, H0, ρ, s, Qd, R, hd, hq⟩ => ?_
  refine ⟨B0, H0, ρ, s, _, R, hd, fun x s1 v H1 qx R1 g1 r1 => ?_⟩
  split at qx
  · rename_i j e1
    refine ⟨j, r1.vI e1, ⟨by omega, by omega, by omega, by omega, by omega⟩, fun q o hq1 tk => hq _ s1 _ _ qx.2.2 (R1.same (same_new hq1)) (g1.trans (Gr.of (same_new hq1))) (newT hq1 tk rg1)⟩
  · exact qx.elim
theorem de_listR2 {p2 pos2 : Pos} (hc : X.calm = true) (hg : Gl X "list") (hm : X.mg "list" = none) (hg2 : Gl X "range") (hm2 : X.mg "range" = none) (ha : DE Z X a da) (hb : DE Z X b db) (na2 : starEach [a, b] X.env = (false, eval a X.env) :: starEach [b] X.env := by rfl) (nb : starEach [b] X.env = (false, eval b X.env) :: starEach [] X.env := by rfl) (hp : (backTo pos2 (starEach [b] X.env)).any (·.1) = false := by rfl) (na : starEach [.Call (.Name "range" p2) [a, b] [] pos2] X.env = (false, eval (.Call (.Name "range" p2) [a, b] [] pos2) X.env) :: starEach [] X.env := by rfl) :
    DE Z X (.Call (.Name "list" p) [.Call (.Name "range" p2) [a, b] [] pos2] [] pos) (dRg2 false da db) := by
  refine PE.of (pe_listRg hc hg hm (prg_2 hg2 hm2 ha hb na2 nb hp) na) fun σ H Q ⟨B0, H0, ρ, s, Qd, R, hd, hq⟩ => ?_
  refine ⟨B0, H0, ρ, s, _, R, hd, fun x s1 v H1 qx R1 g1 r1 => ?_⟩
  refine ⟨B0, H0, ρ, s1, _, R1, qx, fun y s2 u H2 qy R2 g2 r2 => ?_⟩
  have r1 := r1.grow R1 g2
  split at qy
  · rename_i i j e1 e2
    refine ⟨i, j, r1.vI e1, r2.vI e2, ⟨by omega, by omega, by omega, by omega, by omega⟩, fun q hq1 => hq _ s2 _ _ qy.2.2 (R2.same (same_new hq1)) (g1.trans (g2.trans (Gr.of (same_new hq1)))) ((R2.newL hq1 rgV_im).back R2.ok (g1.trans g2))⟩
  · exact qy.elim
end
end Lf
namespace Lf
open PySem PySem.Spec PyProof.Rows L2
section
variable {Z : Zn} {X : Cx} {B0 : Addr → Prop} {H0 H H1 H2 : Hp} {ρ ρ1 ρ2 : List Sl} {s s1 s2 : Z.S} {σ : L2.St} {v u : V} {r x y : Rv} {e a b c tg : Expr} {es rest : List Expr} {de da db dc : DX Z} {dt du : DT Z} {das : DA Z} {pos p : Pos} {K : PySem.W.Frag} {B : Addr → Prop}
theorem dv (i : Nat) {n : Str} {pos : Pos} (hN : X.N[i]? = some n := by rfl) (hv : Vis X.env.scope n := by first | exact Or.inl rfl | exact Or.inr (Or.inl rfl) | exact Or.inr (Or.inr rfl)) (hd : (n == ("__debug__" : Str)) = false := by decide)
    (hcd : (n == ("__classdict__" : Str)) = false := by decide) : DE Z X (.Name n pos) (dVar i) := de_var hN hv hd hcd
theorem hu65 {k : Nat} {A : Around} (hr : Room k A) : A.units + 65 < cLine := by have := hr.un; omega
theorem hu200 {k : Nat} {A : Around} (hr : Room k A) : A.units + 200 < cLine := by have := hr.un; omega
/-! ### enumerate of a list or a tuple -/
theorem pi_enumQ {elts : List Expr} {kk : Nat} {tpos : Pos} {ta : TA} (hg : Gl X "enumerate") (hm : X.mg "enumerate" = none) (ha : PA X [e] ta) (hs : starEach [e] X.env = [(false, eval e X.env)] := by rfl) :
    PI X (.Tuple elts kk tpos) (.Call (.Name "enumerate" p) [e] [] pos) (fun σ H R => ta σ H fun vs H1 => ∃ a xs, vs = [.ref a] ∧ ((SqL X.K H1 a xs ∧ R (Ite X.K a) H1) ∨ (SqT X.K H1 a xs ∧ R (ItT X.K a) H1))) := by
  refine ⟨fun pins s σ H R I h => ?_⟩
  refine Call_ (ld_blt I hg hm boot_enumerate (PyProof.Rows.callWith_type1 (thn (ha.run pos pins s σ H _ I h) ?_) hs rfl))
  rintro us s1 ⟨vs, H1, I1, r1, a, xs, rfl, q⟩
  obtain ⟨u, rfl, r⟩ := vals1 r1
  cases (show u = Value.ref a from r)
  rcases q with ⟨hq, q⟩ | ⟨hq, q⟩
  · obtain ⟨its, rv, p', hz⟩ := I1.list hq
    refine call_enumerate_list p'.isList fun h' he hit hsz hk => wpAny_pyIter_enum he ?_
    have I2 : Inv X pins σ H1 { s1 with heap := h' } := I1.kept (t' := s1.toks) hk
    refine ⟨s1.heap.objs.size + 1, [s1.heap.objs.size + 1, s1.heap.objs.size], _, _, H1, rfl, I2, turn_enum a (s1.heap.objs.size + 1) s1.heap.objs.size, ⟨⟨.none, he⟩, hit, Nat.succ_ne_self _⟩, fun b hb => ?_, q⟩
    have e' : b = s1.heap.objs.size + 1 ∨ b = s1.heap.objs.size := by simpa using hb
    have hle : s1.heap.objs.size ≤ b := by
      rcases e' with z | z
      · rw [z]; exact Nat.le_add_right _ _
      · rw [z]; exact Nat.le_refl _
    exact I1.fpOk hle (I1.hok.fresh hle)
  · obtain ⟨its, rv, tp, hz⟩ := I1.tuple hq
    have isT : s1.heap.IsTuple a its.toArray := by
      obtain ⟨o, ho, ht, n, hd⟩ := tp
      exact ⟨o, ho, ht, n, hd⟩
    have al : a < s1.heap.objs.size := by
      obtain ⟨o, ho, _⟩ := tp
      exact Heap.lt_size ho
    refine enumMade (begins_tuple a its.toArray) isT ?_
    intro h1 isE isI kept
    refine wpAny_pyIter_enum isE ?_
    have I2 : Inv X pins σ H1 { s1 with heap := h1 } := I1.kept (t' := s1.toks) kept
    refine ⟨s1.heap.objs.size + 1, [s1.heap.objs.size + 1, s1.heap.objs.size], _, _, H1, rfl, I2, turnT a (s1.heap.objs.size + 1) s1.heap.objs.size, ⟨⟨.none, isE⟩, ⟨_, isI, rfl, rfl⟩, Nat.succ_ne_self _, Nat.ne_of_lt al, Nat.ne_of_gt (Nat.lt_succ_of_lt al)⟩, fun b hb => ?_, q⟩
    have le : s1.heap.objs.size ≤ b := by
      rcases List.mem_cons.mp hb with rfl | hb
      · exact Nat.le_succ _
      · rw [List.mem_singleton.mp hb]
        exact Nat.le_refl _
    exact I1.fpOk le (I1.hok.fresh le)
theorem it_enumL {P Bd : Addr → Prop} {a : Addr} {xs : List V} {l : List PyData} (h : H a = some (.lst xs)) (ha : P a) (im : ImAll Bd H xs l) : ItOk true P Bd (Ite K a) (enumD l) H := by
  intro Hk Bk k1 k2 k3 k4
  have h1 : SqL K Hk a xs := SqL.of (k1 a _ h ha)
  have im1 : ImAll Bk Hk xs l := im.mono k2 k3 k4
  refine ⟨fun i hi => ?_, fun i d x H' hd hy => ?_, ⟨xs, h1, by rw [enumD_len, im.length]; exact Nat.le_refl _⟩⟩
  · have hx : i < xs.length := by rw [im.length]; rw [enumD_len] at hi; exact hi
    exact ⟨xs, xs[i], h1, List.getElem?_eq_getElem hx⟩
  · obtain ⟨T, w, rfl, hT, rfl, hy⟩ := hy
    obtain ⟨z, hz, rfl⟩ := enumD_get hd
    obtain ⟨d', hd', iv⟩ := im1.gets (hy xs h1)
    rw [hz] at hd'
    cases hd'
    exact ⟨same_new hT, Iw.tup upd_same (.cons (.int _) (.cons (iv.same (same_new hT)) .nil))⟩
def dIEnQ (da : DA Z) : DI Z := fun s ρ Q => da s ρ fun rs s1 => match rs with
  | [.im (.tuple l)] => Q (enumD l) true s1
  | [.im (.list l)] => Q (enumD l) true s1
  | [.fr l] => Q (enumD l) true s1
  | [.bo l] => Q (enumD l) false s1
  | _ => False
theorem di_enumQ {elts : List Expr} {kk : Nat} {tpos : Pos} (hg : Gl X "enumerate") (hm : X.mg "enumerate" = none) (ha : DAs Z X [e] das) (hs : starEach [e] X.env = [(false, eval e X.env)] := by rfl) : DIs Z X (.Tuple elts kk tpos) (.Call (.Name "enumerate" p) [e] [] pos) (dIEnQ das) := by
  refine PI.of (pi_enumQ hg hm ha hs) fun σ H R ⟨B0, H0, ρ, s, Qd, R0, hd, hq⟩ => ?_
  refine ⟨B0, H0, ρ, s, _, R0, hd, fun rs s1 vs H1 qx R1 g1 r1 => ?_⟩
  split at qx
  · rename_i l
    obtain ⟨w, rfl, r2⟩ := r1.one
    obtain ⟨a, xs, rfl, h1, h2⟩ := RvR.tupH (r := .im (.tuple l)) r2 rfl
    refine ⟨a, xs, rfl, .inr ⟨?_, hq _ _ s1 _ H1 qx R1 g1 (it_enumT h1 h2)⟩⟩
    rcases h1 with h1 | ⟨o, h1⟩
    · exact SqT.of h1
    · exact .inl (.inr ⟨o, h1⟩)
  · rename_i l
    obtain ⟨w, rfl, r2⟩ := r1.one
    cases r2 with
    | lst h1 n h2 => exact ⟨_, _, rfl, .inl ⟨SqL.of h1, hq _ _ s1 _ H1 qx R1 g1 (it_enumL (P := keepP Z B0 ρ true) h1 n h2)⟩⟩
  · rename_i l
    obtain ⟨w, rfl, r2⟩ := r1.one
    obtain ⟨p, xs, rfl, h1, h2, h3, h4⟩ := r2
    exact ⟨p, xs, rfl, .inl ⟨SqL.of h3, hq _ _ s1 _ H1 qx R1 g1 (it_enumL (P := keepP Z B0 ρ true) h3 (fun z => R0.bad z h1) (h4.bad fun a z => .inl z))⟩⟩
  · rename_i l
    obtain ⟨w, rfl, r2⟩ := r1.one
    obtain ⟨a, xs, h1, rfl, h3, h4⟩ := r2
    exact ⟨a, xs, rfl, .inl ⟨SqL.of h3, hq _ _ s1 _ H1 qx R1 g1 (it_enumL (P := keepP Z B0 ρ false) h3 (R1.fr a h1).2.1 h4)⟩⟩
  · exact qx.elim
/-! ### ys.append(xs.pop(k)) -/
def dAppPop (i j : Nat) (da : DA Z) : DSt Z := fun De s ρ => match ρ[i]?, ρ[j]? with
  | some (.ow q l), some (.ow q' m) => i ≠ j ∧ da s ρ fun rs s1 => mPopAt m rs fun d m' => l.length < 1000000 ∧ De.nx s1 ((ρ.set j (.ow q' m')).set i (.ow q (l ++ [d])))
  | _, _ => False
theorem ds_appPop {i j : Nat} {n n2 : Str} {np np2 ap ap2 cp cp2 : Pos} (hN : X.N[i]? = some n) (hv : Vis X.env.scope n) (hN2 : X.N[j]? = some n2) (hv2 : Vis X.env.scope n2) (ha : DAs Z X [e] das)
    (hd : (n == ("__debug__" : Str)) = false := by decide) (hcd : (n == ("__classdict__" : Str)) = false := by decide) (hd2 : (n2 == ("__debug__" : Str)) = false := by decide) (hcd2 : (n2 == ("__classdict__" : Str)) = false := by decide)
    (hbase : attributeBase (.Name n np) "append" X.env (eval (.Name n np) X.env) = eval (.Name n np) X.env := by rfl) (hbase2 : attributeBase (.Name n2 np2) "pop" X.env (eval (.Name n2 np2) X.env) = eval (.Name n2 np2) X.env := by rfl)
    (hfew2 : ((backTo cp2 (starEach [e] X.env)).all (fun x => !x.1) && (backToKw cp2 (keywordEach [] X.env)).all (fun x => x.1.isSome) && decide ([e].length + ([] : List Keyword).length + (if ([] : List Keyword).isEmpty then 0 else 1) < 30)) = true := by rfl)
    (hfew : ((backTo cp (starEach [.Call (.Attribute (.Name n2 np2) "pop" ap2) [e] [] cp2] X.env)).all (fun x => !x.1) && (backToKw cp (keywordEach [] X.env)).all (fun x => x.1.isSome) && decide ([Expr.Call (.Attribute (.Name n2 np2) "pop" ap2) [e] [] cp2].length + ([] : List Keyword).length + (if ([] : List Keyword).isEmpty then 0 else 1) < 30)) = true := by rfl)
    (hline : (ap.endLine == cp.line) = true := by rfl) (hline2 : (ap2.endLine == cp2.line) = true := by rfl) (hs2 : starEach [e] X.env = (false, eval e X.env) :: starEach [] X.env := by rfl) (hs : starEach [.Call (.Attribute (.Name n2 np2) "pop" ap2) [e] [] cp2] X.env = (false, eval (.Call (.Attribute (.Name n2 np2) "pop" ap2) [e] [] cp2) X.env) :: starEach [] X.env := by rfl)
    (hp : (backTo cp (starEach [] X.env)).any (·.1) = false := by rfl) (hp2 : (backTo cp2 (starEach [] X.env)).any (·.1) = false := by rfl) (hsw : swapsWith (.Call (.Attribute (.Name n np) "append" ap) [.Call (.Attribute (.Name n2 np2) "pop" ap2) [e] [] cp2] [] cp) none pos.line X.env = pure false := by rfl) :
    DS Z X (.Expr (.Call (.Attribute (.Name n np) "append" ap) [.Call (.Attribute (.Name n2 np2) "pop" ap2) [e] [] cp2] [] cp) pos) (dAppPop i j das) := by
  refine PS.of (ps_expr (pe_bm PySem.F.plainAttrs_list PySem.F.slot_list_append PySem.F.type_list_append mt_append (pe_var hN hv hd hcd) (pa_cons (pe_bm PySem.F.plainAttrs_list PySem.F.slot_list_pop PySem.F.type_list_pop mt_popAt (pe_var hN2 hv2 hd2 hcd2) ha hbase2 hfew2 hline2 hs2 hp2) pa_nil hs) hbase hfew hline hs hp) hsw) fun D σ H ⟨B0, H0, ρ, s, De, R, hd, hn, _⟩ => ?_
  unfold dAppPop at hd
  split at hd
  · rename_i q l q' m e1 e2
    obtain ⟨hij, hd⟩ := hd
    obtain ⟨o, s0, rfl, xs, hq, im⟩ := R.sl i _ e1
    obtain ⟨o', s0', rfl, ys, hq', im'⟩ := R.sl j _ e2
    refine ⟨.ref q, s0, .inl ⟨rfl, xs, SqL.of hq⟩, .ref q', s0', .inl ⟨rfl, ys, SqL.of hq'⟩, B0, H0, ρ, s, _, R, hd, fun rs s1 vs H1 qx R1 g1 r1 => ?_⟩
    have hq1' := g1 q' _ hq' (R.fr q' (own_mem e2)).2.1
    refine m2_popAt Z B0 ρ s s1 H0 σ H H1 q' ys vs m rs _ _ R R1 hq1' (im'.grow badZ R.ok g1) r1 qx fun d v' m' ys' qd hv hx => ?_
    obtain ⟨hl, qn⟩ := qd
    have R2 := R1.mutL (l' := m') e2 hx
    have e1' : (ρ.set j (.ow q' m'))[i]? = some (.ow q l) := by rw [List.getElem?_set_ne (Ne.symm hij)]; exact e1
    obtain ⟨_, s02, z, xs2, hq2, im2⟩ := R2.sl i _ e1'
    have mq' := own_mem e2
    obtain ⟨_, _, _, ys0, hq0, _⟩ := R1.sl j _ e2
    have iv : Im (Bad Z B0 (ρ.set j (.ow q' m'))) (upd H1 q' (.lst ys')) v' d := hv.mono (fun b o e n => ⟨by rw [upd_ne (fun z => n (by rw [z]; exact .inr (.inr mq')))]; exact e, fun z => n (by unfold Bad at z ⊢; rw [own_set_same e2] at z; exact z)⟩) (fun b ys e => by rw [upd_ne (fun z => by rw [z, hq0] at e; cases e)]; exact e) (fun b o u e => by rw [upd_ne (fun z => by rw [z, hq0] at e; cases e)]; exact e)
    refine ⟨q, xs2, v', rfl, rfl, hq2, by rw [im2.length]; exact smL hl, ?_⟩
    exact hn s1 _ σ _ qn (R2.mutL e1' (im2.snoc iv)) (((g1.stp R).trans R1 (mut_stp R1 e2)).trans R2 (mut_stp R2 e1'))
  · exact hd.elim
/-! ### {} and a module's numbers -/
def dEmp : DX Z := fun s _ Q => Q (.im (.dict [])) s
theorem de_emp : DE Z X (.Dict [] [] pos) dEmp := by
  refine PE.of pe_dnewK fun σ H Q ⟨B0, H0, ρ, s, Qd, R, hd, hq⟩ => ?_
  exact fun d hd1 => hq _ s _ _ hd (R.same (same_new hd1)) (Gr.of (same_new hd1)) (Im.dct upd_same (fun z => R.bad z hd1) .nil)
theorem de_gi {n : Str} {i : Int} {t : Tok} (hg : Gl X n) (hm : X.mg n = some (.int i t)) (hd : (n == ("__debug__" : Str)) = false := by decide) : DE Z X (.Name n pos) (dC (.int i)) := de_c (pe_glob (v := .int i) hg hm ⟨t, rfl⟩ hd) fun _ _ => .int i
/-! ### comprehensions -/
theorem lcR_fun {g : DG Z} {tt : DT Z} {te : DX Z} {f : PyData → Option PyData} {s : Z.S} {Q : List PyData → Z.S → Prop} : ∀ {items acc : List PyData}, (∀ d ∈ items, ∀ C : Option PyData → Z.S → Prop, C (f d) s → g d ρ fun ρ' => tt s ρ' fun b s1 => if b = true then te s1 ρ' fun r s2 => ∃ x, r.st = some x ∧ C (some x) s2 else C none s1) → acc.length + items.length ≤ 1000000 → Q (acc ++ items.filterMap f) s → lcR g tt te ρ items s acc Q
  | [], acc, _, _, q => by
    rw [List.filterMap_nil, List.append_nil] at q
    exact q
  | d :: ds, acc, h, hl, q => by
    rw [List.length_cons] at hl
    refine h d List.mem_cons_self (fun o s1 => match o with
      | some x => acc.length < 1000000 ∧ lcR g tt te ρ ds s1 (acc ++ [x]) Q
      | none => lcR g tt te ρ ds s1 acc Q) ?_
    have h2 : ∀ d' ∈ ds, ∀ C : Option PyData → Z.S → Prop, C (f d') s → g d' ρ fun ρ' => tt s ρ' fun b s1 => if b = true then te s1 ρ' fun r s2 => ∃ x, r.st = some x ∧ C (some x) s2 else C none s1 := fun d' hd' => h d' (List.mem_cons_of_mem _ hd')
    cases e : f d with
    | none =>
      rw [List.filterMap_cons_none e] at q
      exact lcR_fun h2 (by omega) q
    | some x =>
      rw [List.filterMap_cons_some e] at q
      refine ⟨by omega, lcR_fun h2 (by rw [List.length_append]; show acc.length + 1 + ds.length ≤ 1000000; omega) ?_⟩
      rw [List.append_assoc]
      exact q
theorem lcR_inv {g : DG Z} {tt : DT Z} {te : DX Z} {Q : List PyData → Z.S → Prop} (I : Nat → Z.S → List PyData → Prop) : ∀ {items : List PyData} {k : Nat} {s : Z.S} {acc : List PyData}, (∀ (j : Nat) (d : PyData) (s : Z.S) (acc : List PyData), items[j]? = some d → I (k + j) s acc → g d ρ fun ρ' => tt s ρ' fun b s1 => if b = true then te s1 ρ' fun r s2 => ∃ x, r.st = some x ∧ acc.length < 1000000 ∧ I (k + j + 1) s2 (acc ++ [x]) else I (k + j + 1) s1 acc) → I k s acc →
    (∀ s acc, I (k + items.length) s acc → Q acc s) → (∀ d ∈ items, True) → (∀ {G G' : List Sl → Prop} {d : PyData}, (∀ x, G x → G' x) → g d ρ G → g d ρ G') → (∀ {s : Z.S} {ρ' : List Sl} {G G' : Bool → Z.S → Prop}, (∀ b s, G b s → G' b s) → tt s ρ' G → tt s ρ' G') → (∀ {s : Z.S} {ρ' : List Sl} {G G' : Rv → Z.S → Prop}, (∀ b s, G b s → G' b s) → te s ρ' G → te s ρ' G') → lcR g tt te ρ items s acc Q
  | [], k, s, acc, _, i, q, _, _, _, _ => q s acc i
  | d :: ds, k, s, acc, h, i, q, _, mg, mt, me => by
    have h0 := h 0 d s acc rfl i
    refine mg (fun ρ' z => mt (fun b s1 z => ?_) z) h0
    have go : ∀ s2 acc2, I (k + 0 + 1) s2 acc2 → lcR g tt te ρ ds s2 acc2 Q := fun s2 acc2 i2 => lcR_inv I (k := k + 1) (fun j d' s' acc' hd' i' => by
      have := h (j + 1) d' s' acc' hd' (by rw [show k + (j + 1) = k + 1 + j from by omega]; exact i')
      rw [show k + (j + 1) = k + 1 + j from by omega] at this
      exact this) i2 (fun s' acc' i' => q s' acc' (by rw [List.length_cons, show k + (ds.length + 1) = k + 1 + ds.length from by omega]; exact i')) (fun _ _ => trivial) mg mt me
    cases b with
    | true =>
      exact me (fun r s2 z => by
        obtain ⟨x, h1, h2, h3⟩ := z
        exact ⟨x, h1, h2, go s2 _ h3⟩) z
    | false => exact go s1 acc z
end
end Lf
namespace Lf
open PySem PySem.Spec PyProof.Rows L2
section
variable {Z : Zn} {X : Cx} {st : Stmt}
def dNever : DSt Z := fun _ _ _ => False
theorem ds_never : DS Z X st dNever := PS.of ps_never fun D σ H ⟨_, _, _, _, _, _, hd, _⟩ => hd
end
/-! ### numbers as data -/
abbrev tupN (l : List Nat) : PyData := .tuple (nD l)
theorem nD_len (l : List Nat) : (nD l).length = l.length := List.length_map ..
theorem nD_app (l m : List Nat) : nD (l ++ m) = nD l ++ nD m := List.map_append ..
theorem nD_set (l : List Nat) (i x : Nat) : nD (l.set i x) = (nD l).set i (.int (x : Nat)) := List.map_set ..
theorem nD_rep (n x : Nat) : nD (List.replicate n x) = List.replicate n (.int (x : Nat)) := List.map_replicate ..
theorem nD_get {l : List Nat} {v : Nat} (h : v < l.length) : (nD l)[v]? = some (.int ((l.getD v 0 : Nat))) := by
  unfold nD
  rw [List.getElem?_map, List.getD_eq_getElem?_getD, List.getElem?_eq_getElem h]
  rfl
theorem nD_some {l : List Nat} {i : Nat} {d : PyData} (h : (nD l)[i]? = some d) : ∃ x, l[i]? = some x ∧ d = .int (x : Nat) := by
  unfold nD at h
  rw [List.getElem?_map] at h
  cases e : l[i]? with
  | none => rw [e] at h; cases h
  | some x => rw [e] at h; exact ⟨x, rfl, (Option.some.inj h).symm⟩
theorem nD_at {l : List Nat} {v : Nat} (h : v < l.length) : atI (nD l) ((v : Nat) : Int) = some (.int ((l.getD v 0 : Nat))) := atI_nat (nD_get h)
theorem nD_last (l : List Nat) (x : Nat) : atI (nD (l ++ [x])) (-1) = some (.int (x : Nat)) := by
  rw [nD_app]
  exact atI_last _ _
theorem nD_ix {l : List Nat} {v : Nat} (h : v < l.length) : ixN (nD l).length ((v : Nat) : Int) = some v := by
  unfold ixN
  rw [nD_len, if_pos (by omega), if_pos (by omega), Int.toNat_natCast]
theorem noL_nD : ∀ l : List Nat, noLs (nD l) = true
  | [] => rfl
  | _ :: l => by
    show (true && noLs (nD l)) = true
    rw [noL_nD l]
    rfl
theorem nD_I (l : List Nat) : nD l = (l.map fun x => ((x : Nat) : Int)).map PyData.int := by
  unfold nD
  rw [List.map_map]
  rfl
theorem lay_nD (l : List Nat) : PyData.canLayAll0 (nD l) = true := layRow l
theorem sh_nD (l : List Nat) : SeqAt.shaped (.list (nD l)) = true := by rw [nD_I]; exact shInts _
theorem sh_tupN (l : List Nat) : SeqAt.shaped (tupN l) = true := shRow l
theorem eqv_int (i j : Int) : PyData.eqv (.int i) (.int j) = decide (i = j) := by
  show (i == j) = _
  rw [Bool.eq_iff_iff]; simp
theorem any_nD (x : Nat) : ∀ l : List Nat, ((nD l).any fun z => PyData.eqv z (.int (x : Nat))) = decide (x ∈ l)
  | [] => rfl
  | y :: l => by
    show (PyData.eqv (.int (y : Nat)) (.int (x : Nat)) || ((nD l).any fun z => PyData.eqv z (.int (x : Nat)))) = _
    rw [any_nD x l, eqv_int]
    by_cases h : x = y
    · subst h; simp
    · have : ¬ ((y : Nat) : Int) = (x : Nat) := by omega
      rw [decide_eq_false this, Bool.false_or]
      exact decide_eq_decide.mpr (by simp [h])
theorem rng_nD (n : Nat) : rngD 0 n = nD (List.range n) := by
  unfold rngD nD
  refine List.map_congr_left fun k _ => ?_
  rw [Int.zero_add]
theorem flat_rep (n : Nat) (x : PyData) : (List.replicate n [x]).flatten = List.replicate n x := by
  induction n with
  | zero => rfl
  | succ n ih => rw [List.replicate_succ, List.flatten_cons, ih, List.replicate_succ]; rfl
/-! ### comprehensions over numbers -/
section
variable {Z : Zn} {ρ : List Sl} {s : Z.S}
theorem lcR_map {α : Type} {h : α → PyData} {f : α → Option PyData} {g : DG Z} {tt : DT Z} {te : DX Z} {Q : List PyData → Z.S → Prop} : ∀ {l : List α} {acc : List PyData}, (∀ a ∈ l, ∀ C : Option PyData → Z.S → Prop, C (f a) s → g (h a) ρ fun ρ' => tt s ρ' fun b s1 => if b = true then te s1 ρ' fun r s2 => ∃ x, r.st = some x ∧ C (some x) s2 else C none s1) → acc.length + l.length ≤ 1000000 → Q (acc ++ l.filterMap f) s → lcR g tt te ρ (l.map h) s acc Q
  | [], acc, _, _, q => by
    rw [List.filterMap_nil, List.append_nil] at q
    exact q
  | d :: ds, acc, hs, hl, q => by
    rw [List.length_cons] at hl
    refine hs d List.mem_cons_self (fun o s1 => match o with
      | some x => acc.length < 1000000 ∧ lcR g tt te ρ (ds.map h) s1 (acc ++ [x]) Q
      | none => lcR g tt te ρ (ds.map h) s1 acc Q) ?_
    have h2 := fun a (ha : a ∈ ds) => hs a (List.mem_cons_of_mem _ ha)
    cases e : f d with
    | none =>
      rw [List.filterMap_cons_none e] at q
      exact lcR_map h2 (by omega) q
    | some x =>
      rw [List.filterMap_cons_some e] at q
      refine ⟨by omega, lcR_map h2 (by rw [List.length_append]; show acc.length + 1 + ds.length ≤ 1000000; omega) ?_⟩
      rw [List.append_assoc]
      exact q
theorem lcR_rng {f : Nat → Option PyData} {g : DG Z} {tt : DT Z} {te : DX Z} {Q : List PyData → Z.S → Prop} {n : Nat} (hs : ∀ k, k < n → ∀ C : Option PyData → Z.S → Prop, C (f k) s → g (.int (k : Nat)) ρ fun ρ' => tt s ρ' fun b s1 => if b = true then te s1 ρ' fun r s2 => ∃ x, r.st = some x ∧ C (some x) s2 else C none s1) (hn : n ≤ 1000000) (q : Q ((List.range n).filterMap f) s) : lcR g tt te ρ (rngD 0 n) s [] Q := by
  rw [rng_nD]
  exact lcR_map (fun a ha => hs a (List.mem_range.mp ha)) (by rw [List.length_range]; show 0 + n ≤ 1000000; omega) q
theorem lcR_nD {f : Nat → Option PyData} {g : DG Z} {tt : DT Z} {te : DX Z} {Q : List PyData → Z.S → Prop} {l : List Nat} (hs : ∀ k ∈ l, ∀ C : Option PyData → Z.S → Prop, C (f k) s → g (.int (k : Nat)) ρ fun ρ' => tt s ρ' fun b s1 => if b = true then te s1 ρ' fun r s2 => ∃ x, r.st = some x ∧ C (some x) s2 else C none s1) (hn : l.length ≤ 1000000) (q : Q (l.filterMap f) s) : lcR g tt te ρ (nD l) s [] Q := lcR_map hs (by show 0 + _ ≤ _; omega) q
end
theorem fm_some {α β : Type} (f : α → β) (l : List α) : l.filterMap (fun a => some (f a)) = l.map f := by rw [← List.filterMap_eq_map]; rfl
theorem fm_if {α β : Type} (p : α → Bool) (f : α → β) (l : List α) : l.filterMap (fun a => if p a = true then some (f a) else none) = (l.filter p).map f := by
  induction l with
  | nil => rfl
  | cons a l ih =>
    by_cases h : p a = true
    · rw [List.filterMap_cons_some (b := f a) (by rw [if_pos h]), List.filter_cons_of_pos h, List.map_cons, ih]
    · rw [List.filterMap_cons_none (by rw [if_neg h]), List.filter_cons_of_neg h, ih]
theorem enum_nD (l : List Nat) : enumD (nD l) = (List.range l.length).map fun k => .tuple [.int (k : Nat), .int (l.getD k 0 : Nat)] := by
  unfold enumD
  rw [nD_len]
  refine List.map_congr_left fun k hk => ?_
  rw [List.getD_eq_getElem?_getD (l := nD l), nD_get (List.mem_range.mp hk)]
  rfl
/-! ### the way up -/
def wayN : Nat → List Nat → Nat → List Nat
  | 0, _, v => [v]
  | n + 1, fs, v => if par fs v = v then [v] else v :: wayN n fs (par fs v)
def way (fs : List Nat) (v : Nat) : List Nat := wayN fs.length fs v
theorem wayN_pth {fs : List Nat} : ∀ {n k v : Nat}, Rch fs k v → k ≤ n → Pth fs v (wayN n fs v)
  | n, _, v, .root h, _ => by
    cases n with
    | zero => exact .root h
    | succ n =>
      unfold wayN
      rw [if_pos h]
      exact .root h
  | 0, _, v, .step _ _, h => absurd h (Nat.not_succ_le_zero _)
  | n + 1, _, v, .step ne r, h => by
    unfold wayN
    rw [if_neg ne]
    exact .step ne (wayN_pth r (Nat.le_of_succ_le_succ h))
theorem way_pth {fs : List Nat} (F : Forest fs) {v : Nat} (hv : v < fs.length) : Pth fs v (way fs v) := by
  obtain ⟨l, p, nd, le, _, r, pos⟩ := F.path hv
  exact wayN_pth r (by omega)
theorem way_len {fs : List Nat} (F : Forest fs) {v : Nat} (hv : v < fs.length) : 0 < (way fs v).length ∧ (way fs v).length ≤ fs.length := by
  obtain ⟨l, p, nd, le, _, r, pos⟩ := F.path hv
  rw [(way_pth F hv).inj p]
  exact ⟨pos, le⟩
theorem way_lt {fs : List Nat} (F : Forest fs) {v : Nat} (hv : v < fs.length) : ∀ x ∈ way fs v, x < fs.length := by
  obtain ⟨l, p, nd, le, h, r, pos⟩ := F.path hv
  rw [(way_pth F hv).inj p]
  exact h
end Lf
set_option maxHeartbeats 4000000
namespace Lf
open PySem PySem.Spec PyProof.Rows L2
/-! ### tuple * int, also by 0 and 1 -/
theorem tuple_mul1 (l : Addr) (items : Array Value) (n : Nat) (dd : Option Addr) (sl : Array (Option Value)) (u : Tok) :
    Meets (Builtin.«tuple.__mul__» ⟨[.ref l, .int 1 u], []⟩) (fun _ R s => s.heap.get? l = some { cls := .type "tuple", dict := dd, data := .seq items n, slots := sl } ∧ R (.ok (.ret (Value.ref l))) s) :=
  .of_wp fun prog w A R s h => by
    obtain ⟨hp, g, d, tk, os⟩ := s
    obtain ⟨hl, h⟩ := h
    have f1 := AutoSeq1.idx_int
    have c1 : (items.isEmpty || (1 : Int) == 1) = true := by simp
    wp_walk using wpAny_loadPart' hl
    exact ⟨_, rfl, h⟩
theorem tuple_mul0 (l : Addr) (items : Array Value) (n : Nat) (dd : Option Addr) (sl : Array (Option Value)) (x : Int) (u : Tok) (c0 : (decide (x < -(2 ^ 63)) || decide (x ≥ 2 ^ 63)) = false) (c1 : (items.isEmpty || x == 1) = false) (c2 : (decide (x ≤ 0) || items.isEmpty) = true) :
    Meets (Builtin.«tuple.__mul__» ⟨[.ref l, .int x u], []⟩) (fun _ R s => s.heap.get? l = some { cls := .type "tuple", dict := dd, data := .seq items n, slots := sl } ∧
      R (.ok (.ret (Value.ref s.heap.objs.size))) { s with heap := s.heap.push { cls := Value.type "tuple", data := Data.seq #[] }, toks := s.toks }) :=
  .of_wp fun prog w A R s h => by
    obtain ⟨hp, g, d, tk, os⟩ := s
    obtain ⟨hl, h⟩ := h
    have f1 := AutoSeq1.idx_int
    wp_walk using wpAny_loadPart' hl
    repeat (first
      | (refine wpAny_ite_false (decide_eq_false (by rw [c0]; exact Bool.false_ne_true)) ?_; wp_walk using wpAny_loadPart' hl)
      | (refine wpAny_ite_false (decide_eq_false (by rw [c1]; exact Bool.false_ne_true)) ?_; wp_walk using wpAny_loadPart' hl)
      | (refine wpAny_ite_true (decide_eq_true c2) ?_; wp_walk using wpAny_loadPart' hl)
      | (refine wpAny_ite_false (decide_eq_false (by decide)) ?_; wp_walk using wpAny_loadPart' hl))
    exact ⟨_, rfl, h⟩
section
variable {X : Cx}
def rRepS (K : PySem.W.Frag) : R2 := fun x y H Q => ∃ l k xs, x = .ref l ∧ y = .int k ∧ SqT K H l xs ∧ xs ≠ [] ∧ -1000 ≤ k ∧ k ≤ 1 ∧ (k = 1 → Q (.ref l) H) ∧ (k ≤ 0 → ∀ p o, H p = none → Tk o → Q (.ref p) (upd H p (.frz o (.tup []))))
theorem op_repS : OpR X (binaryOp .Mult) (rRepS X.K) := by
  intro pins s σ H x y v u Q I rx ry h
  obtain ⟨l, k, xs, rfl, rfl, hT, hne, h1, h2, q1, q0⟩ := h
  cases rx
  obtain ⟨t, rfl⟩ := ry
  obtain ⟨its, r, ⟨⟨cls, dd, data, sl⟩, ho, hc, n, hd⟩, hs⟩ := I.tuple hT
  simp only at hc hd
  subst hc hd
  have hle : its.length = xs.length := r.length.symm
  have hn : its ≠ [] := fun e => hne (by
    rw [e] at hle
    exact List.eq_nil_of_length_eq_zero hle.symm)
  have hi : its.toArray.isEmpty = false := by
    cases its with
    | nil => exact absurd rfl hn
    | cons a b => rfl
  by_cases hk : k = 1
  · subst hk
    refine wpAny_binaryOp_repeat_ref (T := "tuple") (U := "int") (by decide) ⟨_, ho, rfl⟩ (fun s' => typeIs_int s' 1 t) noFill_tuple_mul F.fills_int_mul F.slot_int_rmul repeat_tuple F.slot_int_index.lookup
      (call_meets F.slot_int_rmul (typeIs_int s 1 t) F.entry_int_rmul (F.args_int_rmul_2 _ _) (int_rmul_tuple 1 t l its.toArray n dd sl)
        ⟨ho, rfl, ⟨_, ho, rfl⟩, call_meets F.slot_tuple_mul ⟨_, ho, rfl⟩ F.entry_tuple_mul (F.args_tuple_mul_2 _ _) (tuple_mul1 l its.toArray n dd sl t) ⟨ho, ?_⟩⟩)
    exact ⟨.ref l, H, I, rfl, q1 rfl⟩
  · have c0 : (decide (k < -(2 ^ 63)) || decide (k ≥ 2 ^ 63)) = false := by
      rw [decide_eq_false (by omega), decide_eq_false (by omega)] <;> rfl
    have c1 : (its.toArray.isEmpty || k == 1) = false := by
      rw [hi, Bool.false_or]
      exact beq_eq_false_iff_ne.mpr hk
    have c2 : (decide (k ≤ 0) || its.toArray.isEmpty) = true := by
      rw [decide_eq_true (by omega)]
      rfl
    refine wpAny_binaryOp_repeat_ref (T := "tuple") (U := "int") (by decide) ⟨_, ho, rfl⟩ (fun s' => typeIs_int s' k t) noFill_tuple_mul F.fills_int_mul F.slot_int_rmul repeat_tuple F.slot_int_index.lookup
      (call_meets F.slot_int_rmul (typeIs_int s k t) F.entry_int_rmul (F.args_int_rmul_2 _ _) (int_rmul_tuple k t l its.toArray n dd sl)
        ⟨ho, rfl, ⟨_, ho, rfl⟩, call_meets F.slot_tuple_mul ⟨_, ho, rfl⟩ F.entry_tuple_mul (F.args_tuple_mul_2 _ _) (tuple_mul0 l its.toArray n dd sl k t c0 c1 c2) ⟨ho, ?_⟩⟩)
    exact ⟨.ref s.heap.objs.size, _, laidT (tk := s.toks) (us := []) I .nil (Nat.zero_le _), rfl, q0 (by omega) _ _ (I.hok.fresh (Nat.le_refl _)) tk_new⟩
variable {Z : Zn} {a b : Expr} {da db : DX Z} {pos : Pos}
def opMulT : Op := fun x y Q => match x.D, y.D with
  | some (.int i), some (.int j) => CMulW i j ∧ Q (.im (.int (i * j)))
  | some (.list l), some (.int k) => -(2 ^ 63) ≤ k ∧ k < 2 ^ 63 ∧ l.length * k.toNat ≤ 1000000 ∧ Q (.fr (List.replicate k.toNat l).flatten)
  | some (.tuple l), some (.int k) => l ≠ [] ∧ -1000 ≤ k ∧ k ≤ 1 ∧ l.length ≤ 1000 ∧ Q (.im (.tuple (List.replicate k.toNat l).flatten))
  | _, _ => False
theorem de_mulT (ha : DE Z X a da) (hb : DE Z X b db) : DE Z X (.BinOp a .Mult b pos) (dBin opMulT da db) := by
  refine PE.of (pe_op ((op_mulW.or op_rep).or op_repS) ha hb) fun σ H Q h => lift_bin (K := X.K) ?_ h
  intro Z B0 ρ s H0 σ Ha Hb H v u x y Qd Q R rx ry q k
  unfold opMulT at q
  split at q
  · rename_i i j e1 e2
    exact .inl (.inl ⟨i, j, rx.vI e1, ry.vI e2, q.1, k _ _ _ q.2 (Same.refl H) (Im.int _)⟩)
  · rename_i l m e1 e2
    obtain ⟨a, xs, rfl, h1, h2⟩ := rx.lst e1
    exact .inl (.inr ⟨a, m, xs, rfl, ry.vI e2, h1, q.1, q.2.1, by rw [h2.length]; exact smB q.2.2.1, fun p hp => k _ _ _ q.2.2.2 (same_new hp) (R.newL hp (h2.rep _))⟩)
  · rename_i l m e1 e2
    obtain ⟨hne, k1, k2, hl, q⟩ := q
    obtain ⟨a, xs, rfl, h1, h2⟩ := rx.tup (K := X.K) e1
    have hx : xs ≠ [] := fun z => hne (by
      have := h2.length
      rw [z] at this
      exact List.length_eq_zero_iff.mp this.symm)
    have hm : m ≤ 1 := k2
    refine .inr ⟨a, m, xs, rfl, ry.vI e2, h1, hx, k1, hm, fun z => ?_, fun z p o hp tk => ?_⟩
    · subst z
      have e : (List.replicate (Int.toNat 1) l).flatten = l := by simp
      rw [e] at q
      refine k _ _ _ q (Same.refl H) ?_
      cases x with
      | im d => cases e1; exact rx
      | _ => cases e1
    · have e : (List.replicate (Int.toNat m) l).flatten = [] := by rw [show m.toNat = 0 from by omega]; rfl
      rw [e] at q
      exact k _ _ _ q (same_new hp) (newT hp tk .nil)
  · exact q.elim
def opBits : Rv → (Rv → Prop) → Prop := fun x Q => match x.D with
  | some (.int i) => Q (.im (.int (Builtin.Int.intBits i : Nat)))
  | _ => False
theorem de_bits {apos : Pos} (ha : DE Z X a da) (hbase : attributeBase a "bit_length" X.env (eval a X.env) = eval a X.env := by rfl) (hline : (apos.endLine == pos.line) = true := by rfl) : DE Z X (.Call (.Attribute a "bit_length" apos) [] [] pos) (dUn opBits da) := by
  refine PE.of (pe_bits ha hbase hline) fun σ H Q ⟨B0, H0, ρ, s, Qd, R, hd, hq⟩ => ?_
  refine ⟨B0, H0, ρ, s, _, R, hd, fun x s1 v H1 qx R1 g1 r1 => ?_⟩
  unfold opBits at qx
  split at qx
  · rename_i i e1
    rw [r1.vI e1]
    exact ⟨i, rfl, hq _ s1 _ H1 qx R1 g1 (Im.int _)⟩
  · exact qx.elim
end
end Lf
namespace Lf
open PySem PySem.Spec PyProof.Rows L2
section
variable {Z : Zn} {X : Cx} {e : Expr} {de : DX Z} {pos : Pos}
/-- xs += ys, of lists -/
def dAugL (i : Nat) (de : DX Z) : DSt Z := fun De s ρ => match ρ[i]? with
  | some (.ow q l) => de s ρ fun y s1 => match y.D with
    | some (.list m) => l.length + m.length ≤ 1000000 ∧ De.nx s1 (ρ.set i (.ow q (l ++ m)))
    | _ => False
  | _ => False
theorem ds_iaddL {i : Nat} {n : Str} {pos' : Pos} (hN : X.N.Nodup) (hi : X.N[i]? = some n) (hx : Loc X.env.scope n) (he : DE Z X e de) (hf : X.fn n = true ∨ X.env.scope.names.lookup n = some .local := by first | exact .inl rfl | exact .inr rfl | assumption) :
    DS Z X (.AugAssign (.Name n pos') .Add e pos) (dAugL i de) := by
  refine PS.of (ps_aug (ti := rExt2) hN hi hx he iop_ext hf) fun D σ H ⟨B0, H0, ρ, s, De, R, hd, hn, _⟩ => ?_
  unfold dAugL at hd
  split at hd
  · rename_i q l e1
    obtain ⟨o, s0, rfl, xs, hq, im⟩ := R.sl i _ e1
    refine ⟨.ref q, s0, B0, H0, ρ, s, _, R, hd, fun y s1 u H1 qx R1 g1 r1 => ?_⟩
    split at qx
    · rename_i m e2
      obtain ⟨b, ys, rfl, h1, h2⟩ := r1.lst e2
      have hq1 := g1 q _ hq (R.fr q (own_mem e1)).2.1
      have im1 := im.grow badZ R.ok g1
      refine ⟨q, b, xs, ys, rfl, rfl, hq1, h1, by rw [im1.length, h2.length]; exact smB qx.1, ?_⟩
      have es : σ.set i (some (.ref q)) = σ := by
        refine List.ext_getElem? fun j => ?_
        rw [List.getElem?_set]
        split
        · next z =>
          subst z
          rw [if_pos (List.getElem?_eq_some_iff.mp s0).1, s0]
        · rfl
      show D.nx (σ.set i (some (.ref q))) _
      rw [es]
      exact hn s1 _ σ _ qx.2 (R1.mutL e1 (im1.append h2)) ((g1.stp R).trans R1 (mut_stp R1 e1))
    · exact qx.elim
  · exact hd.elim
/-- xs[k] += e, of ints -/
def dAugIx (i : Nat) (dk de : DX Z) : DSt Z := fun De s ρ => match ρ[i]? with
  | some (.ow q l) => dk s ρ fun k s1 => match k.D with
    | some (.int n) => ∃ (j : Nat) (x : Int), n = (j : Nat) ∧ l[j]? = some (.int x) ∧ de s1 ρ fun r s2 => match r.D with
      | some (.int y) => De.nx s2 (ρ.set i (.ow q (l.set j (.int (x + y)))))
      | _ => False
    | _ => False
  | _ => False
theorem ds_iaddIx {i : Nat} {n : Str} {k : Expr} {dk : DX Z} {np ps : Pos} (hN : X.N[i]? = some n) (hv : Vis X.env.scope n) (hk : DE Z X k dk) (he : DE Z X e de) (hd : (n == ("__debug__" : Str)) = false := by decide) (hcd : (n == ("__classdict__" : Str)) = false := by decide)
    (ha : ∀ ov iv new, augStore k ov iv new = (do holding [new, ov, iv] (setItem ov iv new); release [new, ov, iv] []; pure .next) := by intros; rfl) : DS Z X (.AugAssign (.Subscript (.Name n np) k ps) .Add e pos) (dAugIx i dk de) := by
  refine PS.of (ps_augS (pe_var hN hv hd hcd) hk get_listN he ip_add set_list ha) fun D σ H ⟨B0, H0, ρ, s, De, R, hd, hn, _⟩ => ?_
  unfold dAugIx at hd
  split at hd
  · rename_i q l e1
    obtain ⟨o, s0, rfl, xs, hq, im⟩ := R.sl i _ e1
    refine ⟨.ref q, s0, B0, H0, ρ, s, _, R, hd, fun k s1 w H1 qk R1 g1 r1 => ?_⟩
    split at qk
    · rename_i m e2
      obtain ⟨j, x, rfl, hx, qk⟩ := qk
      have hq1 := g1 q _ hq (R.fr q (own_mem e1)).2.1
      have im1 := im.grow badZ R.ok g1
      obtain ⟨v, hv, iv⟩ := im1.get hx
      cases iv
      refine ⟨q, xs, j, .int x, rfl, r1.vI e2, SqL.of hq1, hv, B0, H0, ρ, s1, _, R1, qk, fun r s2 u H2 qr R2 g2 r2 => ?_⟩
      split at qr
      · rename_i y e3
        have hq2 := g2 q _ hq1 (R1.fr q (own_mem e1)).2.1
        have im2 := im1.grow badZ R1.ok g2
        have hj : j < xs.length := (List.getElem?_eq_some_iff.mp hv).1
        refine ⟨x, y, rfl, r2.vI e3, q, xs, _, j, rfl, r1.vI e2, hq2, by unfold ixN; rw [if_pos (by omega), if_pos (by omega), Int.toNat_natCast], ?_⟩
        exact hn s2 _ σ _ qr (R2.mutL e1 (im2.set j (.int _))) ((g1.stp R).trans R1 ((g2.stp R1).trans R2 (mut_stp R2 e1)))
      · exact qr.elim
    · exact qk.elim
  · exact hd.elim
/-- a, b = x, y, of names that a comprehension reads -/
theorem ds_parC {i j : Nat} {n1 n2 : Str} {px py pt : Pos} {kt k2 pt2} {a b : Expr} {da db : DX Z} (hc : X.calm = true) (hN : X.N.Nodup) (hi : X.N[i]? = some n1) (hj : X.N[j]? = some n2) (hx : Loc X.env.scope n1) (hy : Loc X.env.scope n2) (ha : DE Z X a da) (hb : DE Z X b db)
    (hs : swapsWithSole [.Tuple [.Name n1 px, .Name n2 py] kt pt] (.Tuple [a, b] k2 pt2) pos.line X.env = pure false := by rfl) (hw : swappedStores [.Tuple [.Name n1 px, .Name n2 py] kt pt] (.Tuple [a, b] k2 pt2) X.env = pure none := by rfl) (h1 : (assignEach [.Tuple [.Name n1 px, .Name n2 py] kt pt] X.env).map (·.2) = [assign (.Tuple [.Name n1 px, .Name n2 py] kt pt) X.env] := by rfl)
    (s1 : starEach [a, b] X.env = (false, eval a X.env) :: starEach [b] X.env := by rfl) (s2 : starEach [b] X.env = (false, eval b X.env) :: starEach [] X.env := by rfl)
    (fx : X.fn n1 = true ∨ X.env.scope.names.lookup n1 = some .local := by first | exact .inl rfl | exact .inr rfl) (fy : X.fn n2 = true ∨ X.env.scope.names.lookup n2 = some .local := by first | exact .inl rfl | exact .inr rfl)
    (g1 : (assignEach [.Name n1 px, .Name n2 py] X.env).map (·.2) = assign (.Name n1 px) X.env :: (assignEach [.Name n2 py] X.env).map (·.2) := by rfl) (g2 : (assignEach [.Name n2 py] X.env).map (·.2) = assign (.Name n2 py) X.env :: (assignEach [] X.env).map (·.2) := by rfl)
    (gl : (assignEach [.Name n1 px, .Name n2 py] X.env).length = 2 := by rfl) (gf : (assignEach [.Name n1 px, .Name n2 py] X.env).findIdx? (·.1) = none := by rfl) :
    DS Z X (.Assign [.Tuple [.Name n1 px, .Name n2 py] kt pt] (.Tuple [a, b] k2 pt2) pos) (dPar i j da db) := by
  refine PS.of (ps_asg (pe_tup (pa_cons ha (pa_cons hb pa_nil s2) s1)) (pg_tup hc (pgs_cons (pg_name hN hi hx fx) (pgs_cons (pg_name hN hj hy fy) pgs_nil g2) g1) gl gf) hs hw h1) fun D σ H h => ?_
  have h' : liftS Z (dPar i j da db) { D with nx := fun σ' H' => ∀ p xs, H' p = none → D.nx σ' (upd H' p (.tup xs)) } σ H := by
    obtain ⟨B0, H0, ρ, s, De, R, hd, hn, hr⟩ := h
    refine ⟨B0, H0, ρ, s, De, R, hd, fun s' ρ' σ' H' q R' st p xs hp => ?_, hr⟩
    have sm := same_new (o := .tup xs) hp
    exact hn s' ρ' σ' _ q (R'.same sm) (st.trans R' ((Gr.of sm).stp R'))
  obtain ⟨B0, H0, ρ, s, Qd, R, hd, hq⟩ := par_ok h'
  refine ⟨B0, H0, ρ, s, Qd, R, hd, fun r s' v H' q R' g rr => ?_⟩
  obtain ⟨B1, H1, ρ1, s1, Q1, R1, hd1, hq1⟩ := hq r s' v H' q R' g rr
  refine ⟨B1, H1, ρ1, s1, Q1, R1, hd1, fun r2 s2 w H2 q2 R2 g2 rr2 => ⟨by show 2 ≤ sizeLine; decide, fun p hp => ⟨p, [v, w], rfl, SqT.of upd_same, rfl, v, [w], rfl, w, [], rfl, rfl, ?_⟩⟩⟩
  exact hq1 r2 s2 w H2 q2 R2 g2 rr2 p [v, w] hp
end
end Lf
namespace Lf
open PySem PySem.Spec PyProof.Rows L2
/-! ### sorted of a list of pairs of ints -/
def prAt (H : Hp) (x : V) (p : Int × Int) : Prop := ∃ t, x = .ref t ∧ ∃ o, H t = some (.frz o (.tup [.int p.1, .int p.2])) ∧ Tk o
theorem prAt.inj {H : Hp} {x : V} {p q : Int × Int} (h : prAt H x p) (k : prAt H x q) : p = q := by
  obtain ⟨t, rfl, h⟩ := h
  obtain ⟨u, e, k⟩ := k
  cases e
  obtain ⟨p1, p2⟩ := p
  obtain ⟨q1, q2⟩ := q
  obtain ⟨o, h, _⟩ := h
  obtain ⟨o', k, _⟩ := k
  rw [h] at k
  cases k
  rfl
def rSortPS (K : PySem.W.Frag) : List V → Hp → VK → Prop := fun vs H Q => ∃ (a : Addr) (xs : List V) (k : V → Int × Int), vs = [V.ref a] ∧ SqL K H a xs ∧ (∀ x ∈ xs, ∃ t, x = V.ref t ∧ SqT K H t [.int (k x).1, .int (k x).2]) ∧
  ∀ ys p, SrtO.Srtd (ltP k) ys → ys.Perm xs → H p = none → Q (.ref p) (upd H p (.lst ys))
theorem cr_sortPS {X : Cx} : CallR X (.builtin "sorted") (rSortPS X.K) := by
  intro pins s σ H vs us Q I r h
  obtain ⟨a, xs, k, rfl, hs, hx, q⟩ := h
  obtain ⟨its, rv, hl, hz⟩ := I.list hs
  obtain ⟨u, rfl, ru⟩ := vals1 r
  obtain rfl : u = Value.ref a := ru
  obtain ⟨e1, e2⟩ := refs_back rv fun x m => (hx x m).imp fun t h => h.1
  refine SrtO.sorted_pairsO (k := fun u => k (backV u)) hl.isList (by rw [← rv.length]; exact hz) (fun v hv => ?_) fun h' d out h1 h2 kp hd hn => ?_
  · obtain ⟨t, rfl⟩ := e2 v hv
    have hm : V.ref t ∈ xs := by rw [e1]; exact List.mem_map.mpr ⟨_, hv, rfl⟩
    obtain ⟨t', e, ht⟩ := hx _ hm
    cases e
    obtain ⟨its2, r2, ⟨o, ho, hc, n, hd⟩, _⟩ := I.tuple ht
    obtain ⟨u1, u2, rfl, ⟨t1, rfl⟩, ⟨t2, rfl⟩⟩ := vals2 r2
    exact ⟨t, o, t1, t2, n, rfl, ho, hc, hd⟩
  · have h3 : ∀ u ∈ out, ∃ a, u = Value.ref a := fun u hu => e2 u (h2.perm.mem_iff.mp hu)
    obtain ⟨n, hn⟩ := hn
    have hb : (out.map backV).Perm xs := by
      rw [e1]
      exact h2.perm.map backV
    refine ⟨.ref d, upd H d (.lst (out.map backV)), I.laid (t' := s.toks) kp hd ⟨?_, out, n, vals_back h3, hn⟩, rfl, q _ d (SrtO.srtd_map h1) hb (I.hok.fresh hd)⟩
    rw [hb.length_eq]
    exact hz
def prD (l : List (Int × Int)) : List PyData := l.map fun p => .tuple [.int p.1, .int p.2]
def opSortP : Cb := fun rs Q => match rs with
  | [x] => match x.D with
    | some (.list l) => ∃ ps : List (Int × Int), l = prD ps ∧ ∀ qs : List (Int × Int), qs.Perm ps → qs.Pairwise (fun p q => SrtO.lexB q p = false) → Q (.fr (prD qs))
    | _ => False
  | _ => False
theorem im_pair {B : Addr → Prop} {H : Hp} {v : V} {p : Int × Int} (h : Im B H v (.tuple [.int p.1, .int p.2])) : prAt H v p := by
  cases h with
  | ftp e tk q =>
    cases q with
    | cons h1 q =>
      cases q with
      | cons h2 q =>
        cases q
        cases h1
        cases h2
        exact ⟨_, rfl, _, e, tk⟩
theorem pair_im {B : Addr → Prop} {H : Hp} {v : V} {p : Int × Int} (h : prAt H v p) : Im B H v (.tuple [.int p.1, .int p.2]) := by
  obtain ⟨t, rfl, o, h, tk⟩ := h
  exact .ftp h tk (.cons (.int _) (.cons (.int _) .nil))
theorem im_pairs {B : Addr → Prop} {H : Hp} {k : V → Int × Int} (hk : ∀ x p, prAt H x p → k x = p) : ∀ {xs : List V} {ps : List (Int × Int)}, ImAll B H xs (prD ps) → (∀ x ∈ xs, prAt H x (k x)) ∧ xs.map k = ps
  | [], [], _ => ⟨fun x hx => absurd hx List.not_mem_nil, rfl⟩
  | [], _ :: _, h => by cases h
  | _ :: _, [], h => by cases h
  | x :: xs, p :: ps, h => by
    have h : ImAll B H (x :: xs) (.tuple [.int p.1, .int p.2] :: prD ps) := h
    cases h with
    | cons h1 h2 =>
      obtain ⟨a, b⟩ := im_pairs hk h2
      have hx := im_pair h1
      have e := hk x p hx
      refine ⟨fun y hy => ?_, by rw [List.map_cons, e, b]⟩
      rcases List.mem_cons.mp hy with z | z
      · rw [z, e]; exact hx
      · exact a y z
theorem pairs_im {B : Addr → Prop} {H : Hp} {k : V → Int × Int} : ∀ {ys : List V}, (∀ x ∈ ys, prAt H x (k x)) → ImAll B H ys (prD (ys.map k))
  | [], _ => .nil
  | y :: ys, h => .cons (pair_im (h y List.mem_cons_self)) (pairs_im fun x hx => h x (List.mem_cons_of_mem _ hx))
section
variable {Z : Zn} {X : Cx} {e : Expr} {es : List Expr} {das : DA Z} {pos p : Pos}
theorem de_sortedP (hg : Gl X "sorted") (hm : X.mg "sorted" = none) (ha : DAs Z X (e :: es) das) (he : starEach (e :: es) X.env = (false, eval e X.env) :: starEach es X.env := by rfl) (hpl : (backTo pos (starEach es X.env)).any (·.1) = false := by rfl) : DE Z X (.Call (.Name "sorted" p) (e :: es) [] pos) (dCB opSortP das) := by
  refine PE.of (pe_callB cr_sortPS hg hm (by decide +kernel) ha (by decide) (by decide) he hpl) fun σ H Q h => lift_cb ?_ h
  intro Z B0 ρ s H0 σ Ha H vs xs Qd Q R rr q kk
  unfold opSortP at q
  split at q
  · obtain ⟨v, rfl, r1⟩ := rr.one
    split at q
    · rename_i l e1
      obtain ⟨ps, rfl, q⟩ := q
      obtain ⟨a, ys, rfl, h1, h2⟩ := r1.lst e1
      classical
      let k : V → Int × Int := fun x => if h : ∃ p, prAt H x p then h.choose else (0, 0)
      have hk : ∀ x p, prAt H x p → k x = p := fun x p hp => by
        have hx : ∃ p, prAt H x p := ⟨p, hp⟩
        show (if h : ∃ p, prAt H x p then h.choose else (0, 0)) = p
        rw [dif_pos hx]
        exact hx.choose_spec.inj hp
      obtain ⟨hp, em⟩ := im_pairs hk h2
      refine ⟨a, ys, k, rfl, SqL.of h1, fun x hx => ?_, fun zs p hs pm hn => ?_⟩
      · obtain ⟨t, rfl, o, h, _⟩ := hp x hx
        exact ⟨t, rfl, .inl (.inr ⟨o, h⟩)⟩
      · refine kk _ _ _ (q (zs.map k) (by rw [← em]; exact pm.map k) (List.pairwise_map.mpr hs)) (same_new hn) (R.newL hn (pairs_im fun x hx => hp x (pm.mem_iff.mp hx)))
    · exact q.elim
  · exact q.elim
end
/-- a strictly sorted list is its own sorted form -/
theorem sort_self {ps qs : List (Int × Int)} (pm : qs.Perm ps) (hq : qs.Pairwise fun p q => SrtO.lexB q p = false) (hp : ps.Pairwise fun p q => SrtO.lexB p q = true) : qs = ps := by
  refine List.Perm.eq_of_pairwise (le := fun p q => SrtO.lexB q p = false) (fun a b _ _ h1 h2 => ?_) hq (hp.imp fun {a b} h => ?_) pm
  · have h1 := SrtO.lexB_no.mp h1
    have h2 := SrtO.lexB_no.mp h2
    exact Prod.ext (by omega) (by omega)
  · have := SrtO.lexB_iff.mp h
    exact SrtO.lexB_no.mpr (by omega)
end Lf
namespace Lf
open PySem PySem.Spec PyProof.Rows L2
/-! ### sorted of a list of any data that can be compared -/
section
open PySem.W PySem.Calls
theorem sorts_short {prog : Program} {w : World} {A : Around} {s : Shared} {vs : List Value} {ds : List PyData} (e : EachIs (fun v d => ∃ as, Reads s.heap v d as) vs ds) (hal : AllAlike ds) (hn : ∀ d ∈ ds, d ≠ .none) (hs : ds.length ≤ 1) (hu : ∀ d, d ∈ ds → A.units + d.depth < cLine) : SortsAt prog w A s (dataKind s.heap ds) vs := by
  have room : ∀ {d d' : PyData}, d ∈ ds → A.units + min d.depth d'.depth < cLine := fun {d d'} hd => Nat.lt_of_le_of_lt (Nat.add_le_add_left (Nat.min_le_left _ _) _) (hu d hd)
  refine ⟨fun v hv => ?_, general', fun E x y a b Q ha hb hq => ?_, fun h2 => ?_⟩
  · obtain ⟨d, hd, as, r⟩ := e.left v hv
    exact ⟨_, dataKind_some hal hd r⟩
  · obtain ⟨d, as, hd, ra, rfl⟩ := dataKind_inv ha
    obtain ⟨d', as', hd', rb, rfl⟩ := dataKind_inv hb
    exact oneLt_alike (f := false) (fun z => nomatch z) ra rb (hal d hd d' hd') (hn d hd) (room hd) hq
  · have := e.length
    omega
theorem sorted_dataS {prog : Program} {w : World} {A : Around} {E : Value → Shared → Prop} {s : Shared} {vs : List Value} {bs : List PyData} {R : Value → PyData → Prop} {l : Addr} {Q : Value → Shared → Prop} (hl : s.heap.IsList l vs.toArray) (e : EachIs R vs bs) (er : EachIs (fun v b => ∃ as, Reads s.heap v b as) vs bs) (hal : AllAlike bs) (hn : ∀ d ∈ bs, d ≠ .none) (hs : bs.length ≤ 1) (hL : bs.length ≤ sizeLine)
    (hu : ∀ b, b ∈ bs → A.units + 2 + b.depth < cLine) (h : ∀ out, out.length = bs.length → EachIs R out (bs.mergeSort (dataLe false id)) → Q (.ref (s.heap.objs.size + 1)) { s with heap := sortedAll s.heap vs (List.toArray out) }) :
    wpAny (model prog w) A (call (.builtin "sorted") [.ref l]) Q E s := by
  have er' : EachIs (fun v b => ∃ as, Reads (sortingHeap (copyHeap s.heap vs) (s.heap.objs.size + 1) vs) v (id b) as) vs bs := er.mono fun _ _ ⟨as, r⟩ => ⟨as, PyProof.Rows.Reads.keeps (fun _ _ => sorting_copy_old) r⟩
  have hal' : AllAlike (bs.map id) := by rw [List.map_id]; exact hal
  have S := sorts_short (prog := prog) (w := w) (A := A.in1.in1) (s := { s with heap := sortingHeap (copyHeap s.heap vs) (s.heap.objs.size + 1) vs }) (ds := bs.map id) (by rw [List.map_id]; exact er') hal' (by rw [List.map_id]; exact hn) (by rw [List.map_id]; exact hs) (by rw [List.map_id]; exact hu)
  exact sorted_vals hl S (by rw [e.length]; exact hL)
    (h _ (by rw [sortVals_length false rfl]; exact e.length) (sortVals_data false e er' hal'))
end
open PySem.W in
structure SrtOk (l : List PyData) : Prop where
  lay : PyData.canLayAll0 l = true
  like : AllAlike l
  kind : Sortable l ∨ (l.length ≤ 1 ∧ ∀ d ∈ l, d ≠ .none)
  deep : ∀ d ∈ l, d.depth ≤ 50
abbrev srtD (l : List PyData) : List PyData := l.mergeSort (PySem.W.dataLe false id)
open PySem.W in
theorem each_im {B : Addr → Prop} {H : Hp} : ∀ {vs : List Value} {ds : List PyData}, EachIs (fun v d => ∃ x, RelV x v ∧ Im B H x d) vs ds → ∃ ys, Vals ys vs ∧ ImAll B H ys ds
  | _, _, .nil => ⟨[], .nil, .nil⟩
  | _, _, .cons ⟨x, h1, h2⟩ t => by
    obtain ⟨ys, h3, h4⟩ := each_im t
    exact ⟨x :: ys, .cons h1 h3, .cons h2 h4⟩
open PySem.W in
theorem im_each {B : Addr → Prop} {H : Hp} : ∀ {xs : List V} {vs : List Value} {ds : List PyData}, Vals xs vs → ImAll B H xs ds → EachIs (fun v d => ∃ x, RelV x v ∧ Im B H x d) vs ds
  | _, _, _, .nil, h => by cases h; exact .nil
  | _, _, _, .cons h1 h2, h => by
    cases h with
    | cons g1 g2 => exact .cons ⟨_, h1, g1⟩ (im_each h2 g2)
open PySem.W in
theorem reads_each {h : Heap} : ∀ {vs : List Value} {ds : List PyData} {as : List Addr}, ReadsAll h vs ds as → EachIs (fun v d => ∃ as, Reads h v d as) vs ds
  | _, _, _, .nil => .nil
  | _, _, _, .cons h1 h2 => .cons ⟨_, h1⟩ (reads_each h2)
def rSortG (K : PySem.W.Frag) : List V → Hp → VK → Prop := fun vs H Q => ∃ (B : Addr → Prop) (a : Addr) (xs : List V) (l : List PyData), vs = [V.ref a] ∧ SqL K H a xs ∧ ImAll B H xs l ∧ SrtOk l ∧ ∀ ys p, ImAll B H ys (srtD l) → H p = none → Q (.ref p) (upd H p (.lst ys))
open PySem.W in
theorem cr_sortG {X : Cx} (hu : X.A.units + 65 < cLine) : CallR X (.builtin "sorted") (rSortG X.K) := by
  intro pins s σ H vs us Q I r h
  obtain ⟨B, a, xs, l, rfl, hs, hx, ok, q⟩ := h
  obtain ⟨its, rv, hl, hz⟩ := I.list hs
  obtain ⟨u, rfl, ru⟩ := vals1 r
  obtain rfl : u = Value.ref a := ru
  obtain ⟨as, ra⟩ := Dp.readsAll I l _ its (dps_of ok.lay hx) rv
  have e := im_each rv hx
  have er := reads_each ra
  have ll : l.length = its.length := e.length.symm
  have hL : l.length ≤ sizeLine := by rw [← hx.length]; exact hz
  have hd : ∀ b, b ∈ l → X.A.units + 2 + b.depth < cLine := fun b hb => by have := ok.deep b hb; omega
  have fin : ∀ out : List Value, out.length = l.length → EachIs (fun v d => ∃ x, RelV x v ∧ Im B H x d) out (srtD l) → ∃ v H', Inv X pins σ H' { s with heap := sortedAll s.heap its (List.toArray out) } ∧ RelV v (Value.ref (s.heap.objs.size + 1)) ∧ Q v H' := fun out lo eo => by
    obtain ⟨ys, h1, h2⟩ := each_im eo
    obtain ⟨c, hc⟩ := sortedAll_at s.heap its out.toArray
    refine ⟨.ref (s.heap.objs.size + 1), upd H (s.heap.objs.size + 1) (.lst ys), I.laid (t' := s.toks) (fun _ _ => sortedAll_old) (Nat.le_succ _) ⟨?_, out, c, h1, hc⟩, rfl, q ys _ h2 (I.hok.fresh (Nat.le_succ _))⟩
    rw [h2.length, List.length_mergeSort]
    exact hL
  rcases ok.kind with k | ⟨k, kn⟩
  · exact sorted_data (enc := id) hl.isList e er (by rw [List.map_id]; exact ok.like) (by rw [List.map_id]; exact k) hL hd fin
  · exact sorted_dataS hl.isList e er ok.like kn k hL hd fin
def opSortG : Cb := fun rs Q => match rs with
  | [x] => match x.D with
    | some (.list l) => SrtOk l ∧ Q (.fr (srtD l))
    | _ => False
  | _ => False
section
variable {Z : Zn} {X : Cx} {e : Expr} {es : List Expr} {das : DA Z} {pos p : Pos}
theorem de_sortedG (hu : X.A.units + 65 < cLine) (hg : Gl X "sorted") (hm : X.mg "sorted" = none) (ha : DAs Z X (e :: es) das) (he : starEach (e :: es) X.env = (false, eval e X.env) :: starEach es X.env := by rfl) (hpl : (backTo pos (starEach es X.env)).any (·.1) = false := by rfl) : DE Z X (.Call (.Name "sorted" p) (e :: es) [] pos) (dCB opSortG das) := by
  refine PE.of (pe_callB (cr_sortG hu) hg hm (by decide +kernel) ha (by decide) (by decide) he hpl) fun σ H Q h => lift_cb ?_ h
  intro Z B0 ρ s H0 σ Ha H vs xs Qd Q R rr q kk
  unfold opSortG at q
  split at q
  · obtain ⟨v, rfl, r1⟩ := rr.one
    split at q
    · rename_i l e1
      obtain ⟨a, ys, rfl, h1, h2⟩ := r1.lst e1
      exact ⟨_, a, ys, l, rfl, SqL.of h1, h2, q.1, fun zs p hz hn => kk _ _ _ q.2 (same_new hn) (R.newL hn hz)⟩
    · exact q.elim
  · exact q.elim
end
end Lf
namespace Lf
open PySem PySem.Spec PyProof.Rows L2
/-! ### sizes of what repr shows -/
structure Sw (k m : Nat) (d : PyData) : Prop where
  shows : d.showable = true
  deep : d.depth ≤ k
  short : d.shown.length ≤ m
theorem Sw.mono {k m k' m' : Nat} {d : PyData} (h : Sw k m d) (a : k ≤ k') (b : m ≤ m') : Sw k' m' d := ⟨h.shows, Nat.le_trans h.deep a, Nat.le_trans h.short b⟩
theorem Sw.all {k m : Nat} : ∀ {ds : List PyData}, (∀ d ∈ ds, Sw k m d) → PyData.showableAll ds = true ∧ PyData.depthAll ds ≤ k ∧ ((PyData.shownAll ds).map (·.length)).sum ≤ m * ds.length ∧ (PyData.shownAll ds).length = ds.length
  | [], _ => ⟨rfl, Nat.zero_le _, Nat.zero_le _, rfl⟩
  | d :: ds, h => by
    obtain ⟨h1, h2, h3, h4⟩ := Sw.all (ds := ds) fun y hy => h y (List.mem_cons_of_mem _ hy)
    have g := h d List.mem_cons_self
    refine ⟨?_, ?_, ?_, ?_⟩
    · show (PyData.showable d && PyData.showableAll ds) = true
      rw [g.shows, h1]
      rfl
    · show max (PyData.depth d) (PyData.depthAll ds) ≤ k
      exact Nat.max_le.mpr ⟨g.deep, h2⟩
    · show (PyData.shown d).length + ((PyData.shownAll ds).map (·.length)).sum ≤ m * (ds.length + 1)
      have := g.short
      rw [Nat.mul_succ]
      omega
    · show (PyData.shownAll ds).length + 1 = ds.length + 1
      rw [h4]
theorem Sw.tup {k m n : Nat} {ds : List PyData} (h : ∀ d ∈ ds, Sw k m d) (hn : ds.length ≤ n) : Sw (k + 1) ((m + 2) * n + 3) (.tuple ds) := by
  obtain ⟨h1, h2, h3, h4⟩ := Sw.all h
  refine ⟨h1, Nat.succ_le_succ h2, ?_⟩
  show (tupleText (PyData.shownAll ds)).length ≤ _
  have := tupleText_len_le (PyData.shownAll ds)
  rw [h4] at this
  have : (m + 2) * ds.length ≤ (m + 2) * n := Nat.mul_le_mul_left _ hn
  rw [Nat.add_mul] at this
  omega
theorem Sw.lst {k m n : Nat} {ds : List PyData} (h : ∀ d ∈ ds, Sw k m d) (hn : ds.length ≤ n) : Sw (k + 1) ((m + 2) * n + 3) (.list ds) := by
  obtain ⟨h1, h2, h3, h4⟩ := Sw.all h
  refine ⟨h1, Nat.succ_le_succ h2, ?_⟩
  show (listText (PyData.shownAll ds)).length ≤ _
  have := listText_len_le (PyData.shownAll ds)
  rw [h4] at this
  have : (m + 2) * ds.length ≤ (m + 2) * n := Nat.mul_le_mul_left _ hn
  rw [Nat.add_mul] at this
  omega
theorem Sw.int {i : Int} (h : i.natAbs < 10 ^ 12) : Sw 0 13 (.int i) := by
  refine ⟨decide_eq_true ?_, Nat.le_refl _, PyData.shown_int_le h⟩
  have h2 : i.natAbs < 2 ^ 1920 := Nat.lt_of_lt_of_le h (by decide +kernel)
  by_cases z : i.natAbs = 0
  · rw [z]; decide
  · exact (Nat.log2_lt z).mpr h2
theorem Sw.nat {x : Nat} (h : x < 10 ^ 12) : Sw 0 13 (.int (x : Nat)) := Sw.int (by rw [Int.natAbs_natCast]; exact h)
theorem Sw.bool (b : Bool) : Sw 0 5 (.bool b) := by cases b <;> exact ⟨rfl, Nat.le_refl _, by decide +kernel⟩
theorem Sw.none : Sw 0 5 .none := ⟨rfl, Nat.le_refl _, by decide +kernel⟩
theorem Sw.tupN {l : List Nat} {n : Nat} (h : ∀ x ∈ l, x < 10 ^ 12) (hn : l.length ≤ n) : Sw 1 (15 * n + 3) (Lf.tupN l) := Sw.tup (m := 13) (fun d hd => by
  obtain ⟨x, hx, e⟩ := List.mem_map.mp hd
  rw [← e]
  exact Sw.nat (h x hx)) (by rw [nD_len]; exact hn)
theorem Sw.lstN {l : List Nat} {n : Nat} (h : ∀ x ∈ l, x < 10 ^ 12) (hn : l.length ≤ n) : Sw 1 (15 * n + 3) (.list (nD l)) := Sw.lst (m := 13) (fun d hd => by
  obtain ⟨x, hx, e⟩ := List.mem_map.mp hd
  rw [← e]
  exact Sw.nat (h x hx)) (by rw [nD_len]; exact hn)
theorem Sw.fits {k m : Nat} {d : PyData} (h : Sw k m d) (a : k ≤ 100) (b : m ≤ 10000000) : d.showable = true ∧ d.depth ≤ 100 ∧ d.shown.length ≤ sizeLine := ⟨h.shows, Nat.le_trans h.deep a, Nat.le_trans h.short (Nat.le_trans b (by rw [sizeLine_eq]; omega))⟩
theorem Sw.forest {fs : List Nat} (F : Forest fs) : Sw 1 363 (Lf.tupN fs) := Sw.tupN (n := 24) (fun x hx => by
  obtain ⟨i, hi⟩ := List.getElem?_of_mem hx
  have := F.rng i (List.getElem?_eq_some_iff.mp hi).1
  unfold par at this
  rw [List.getD_eq_getElem?_getD, hi] at this
  have := F.few
  have : x < fs.length := by assumption
  omega) F.few
/-- the two sides show alike -/
theorem ne_same (z : Str) : (!decide (z = z)) = false := by rw [decide_eq_true rfl]; rfl
end Lf
namespace Lf
open PySem PySem.Spec PyProof.Rows L2
/-! ### nests of tuples: weight, depth, place, order -/
mutual
def nst : PyData → Bool
  | .tuple ds => nsts ds
  | _ => false
def nsts : List PyData → Bool
  | [] => true
  | d :: ds => nst d && nsts ds
end
mutual
def wgt : PyData → Nat
  | .tuple ds => 1 + wgts ds
  | .list ds => 1 + wgts ds
  | _ => 1
def wgts : List PyData → Nat
  | [] => 0
  | d :: ds => wgt d + wgts ds
end
mutual
def dph : PyData → Nat
  | .tuple ds => 1 + dphs ds
  | .list ds => 1 + dphs ds
  | _ => 1
def dphs : List PyData → Nat
  | [] => 0
  | d :: ds => max (dph d) (dphs ds)
end
mutual
def pkey : PyData → PyData
  | .tuple ds => .tuple [.int ((1 + wgts ds : Nat)), .tuple (pkeys ds)]
  | d => d
def pkeys : List PyData → List PyData
  | [] => []
  | d :: ds => pkey d :: pkeys ds
end
mutual
def okl : PyData → Bool
  | .tuple ds => okls ds
  | .list ds => okls ds
  | d => d.showable && (decide (d.depth ≤ 1) && decide (d.shown.length ≤ 50))
def okls : List PyData → Bool
  | [] => true
  | d :: ds => okl d && okls ds
end
/-- in ascending order -/
def chn (l : List PyData) : Bool := decide (l.Pairwise fun a b => PySem.W.dataLt b a = false)
mutual
def ord : PyData → Bool
  | .tuple ds => chn (pkeys ds) && ords ds
  | _ => true
def ords : List PyData → Bool
  | [] => true
  | d :: ds => ord d && ords ds
end
def lgtR (ws : List Nat) : Bool := ws.all fun x => decide (x ≤ 1 + (ws.filter fun y => decide (y < x)).sum)
mutual
def lgt : PyData → Bool
  | .tuple ds => lgtR (ds.map wgt) && lgts ds
  | _ => true
def lgts : List PyData → Bool
  | [] => true
  | d :: ds => lgt d && lgts ds
end
theorem all_of {p : PyData → Bool} {ps : List PyData → Bool} (h0 : ps [] = true) (h1 : ∀ d ds, ps (d :: ds) = (p d && ps ds)) : ∀ {ds : List PyData}, ps ds = ds.all p
  | [] => h0
  | d :: ds => by rw [h1, all_of h0 h1]; rfl
theorem nsts_all (ds : List PyData) : nsts ds = ds.all nst := all_of rfl fun _ _ => rfl
theorem okls_all (ds : List PyData) : okls ds = ds.all okl := all_of rfl fun _ _ => rfl
theorem ords_all (ds : List PyData) : ords ds = ds.all ord := all_of rfl fun _ _ => rfl
theorem lgts_all (ds : List PyData) : lgts ds = ds.all lgt := all_of rfl fun _ _ => rfl
theorem nsts_iff {ds : List PyData} : nsts ds = true ↔ ∀ d ∈ ds, nst d = true := by rw [nsts_all, List.all_eq_true]
theorem okls_iff {ds : List PyData} : okls ds = true ↔ ∀ d ∈ ds, okl d = true := by rw [okls_all, List.all_eq_true]
theorem pkeys_map : ∀ ds : List PyData, pkeys ds = ds.map pkey
  | [] => rfl
  | d :: ds => by
    show pkey d :: pkeys ds = _
    rw [pkeys_map ds]
    rfl
theorem wgts_sum : ∀ ds : List PyData, wgts ds = (ds.map wgt).sum
  | [] => rfl
  | d :: ds => by
    show wgt d + wgts ds = _
    rw [wgts_sum ds]
    rfl
theorem wgt_pos (d : PyData) : 1 ≤ wgt d := by
  cases d with
  | tuple ds => exact Nat.le_add_right 1 (wgts ds)
  | list ds => exact Nat.le_add_right 1 (wgts ds)
  | _ => exact Nat.le_refl 1
theorem wgts_app (a b : List PyData) : wgts (a ++ b) = wgts a + wgts b := by rw [wgts_sum, wgts_sum, wgts_sum, List.map_append, List.sum_append]
theorem wgts_perm {a b : List PyData} (p : a.Perm b) : wgts a = wgts b := by rw [wgts_sum, wgts_sum]; exact (p.map wgt).sum_nat
theorem wgts_len : ∀ ds : List PyData, ds.length ≤ wgts ds
  | [] => Nat.le_refl 0
  | d :: ds => by
    have := wgts_len ds
    have := wgt_pos d
    show ds.length + 1 ≤ wgt d + wgts ds
    omega
theorem wgts_mem {d : PyData} : ∀ {ds : List PyData}, d ∈ ds → wgt d ≤ wgts ds
  | x :: ds, h => by
    show wgt d ≤ wgt x + wgts ds
    rcases List.mem_cons.mp h with rfl | h
    · omega
    · have := wgts_mem h
      omega
theorem dphs_mem {d : PyData} : ∀ {ds : List PyData}, d ∈ ds → dph d ≤ dphs ds
  | x :: ds, h => by
    show dph d ≤ max (dph x) (dphs ds)
    rcases List.mem_cons.mp h with rfl | h
    · omega
    · have := dphs_mem h
      omega
theorem dphs_le {n : Nat} : ∀ {ds : List PyData}, (∀ d ∈ ds, dph d ≤ n) → dphs ds ≤ n
  | [], _ => Nat.zero_le _
  | x :: ds, h => Nat.max_le.mpr ⟨h x List.mem_cons_self, dphs_le fun d hd => h d (List.mem_cons_of_mem _ hd)⟩
theorem dph_pos (d : PyData) : 1 ≤ dph d := by
  cases d with
  | tuple ds => exact Nat.le_add_right 1 (dphs ds)
  | list ds => exact Nat.le_add_right 1 (dphs ds)
  | _ => exact Nat.le_refl 1
mutual
theorem dph_wgt : ∀ d : PyData, dph d ≤ wgt d
  | .tuple ds => Nat.add_le_add_left (dphs_wgts ds) 1
  | .list ds => Nat.add_le_add_left (dphs_wgts ds) 1
  | .none => Nat.le_refl 1
  | .bool _ => Nat.le_refl 1
  | .int _ => Nat.le_refl 1
  | .str _ => Nat.le_refl 1
  | .dict _ => Nat.le_refl 1
theorem dphs_wgts : ∀ ds : List PyData, dphs ds ≤ wgts ds
  | [] => Nat.le_refl 0
  | d :: ds => by
    have h1 := dph_wgt d
    have h2 := dphs_wgts ds
    show max (dph d) (dphs ds) ≤ wgt d + wgts ds
    omega
end
/-! what can be compared -/
open PySem.W in
mutual
theorem alike_nst : ∀ d e : PyData, nst d = true → nst e = true → alike d e = true
  | .tuple ds, .tuple es, h1, h2 => alikes_nst ds es h1 h2
  | .none, _, h, _ => nomatch h
  | .bool _, _, h, _ => nomatch h
  | .int _, _, h, _ => nomatch h
  | .str _, _, h, _ => nomatch h
  | .list _, _, h, _ => nomatch h
  | .dict _, _, h, _ => nomatch h
  | .tuple _, .none, _, h => nomatch h
  | .tuple _, .bool _, _, h => nomatch h
  | .tuple _, .int _, _, h => nomatch h
  | .tuple _, .str _, _, h => nomatch h
  | .tuple _, .list _, _, h => nomatch h
  | .tuple _, .dict _, _, h => nomatch h
theorem alikes_nst : ∀ ds es : List PyData, nsts ds = true → nsts es = true → alikeAll ds es = true
  | [], _, _, _ => rfl
  | _ :: _, [], _, _ => rfl
  | d :: ds, e :: es, h1, h2 => by
    have h1 := Bool.and_eq_true_iff.mp (show (nst d && nsts ds) = true from h1)
    have h2 := Bool.and_eq_true_iff.mp (show (nst e && nsts es) = true from h2)
    show (alike d e && alikeAll ds es) = true
    rw [alike_nst d e h1.1 h2.1, alikes_nst ds es h1.2 h2.2]
    rfl
end
open PySem.W in
mutual
theorem alike_key : ∀ d e : PyData, nst d = true → nst e = true → alike (pkey d) (pkey e) = true
  | .tuple ds, .tuple es, h1, h2 => by
    show (true && (alikeAll (pkeys ds) (pkeys es) && true)) = true
    rw [alikes_key ds es h1 h2]
    rfl
  | .none, _, h, _ => nomatch h
  | .bool _, _, h, _ => nomatch h
  | .int _, _, h, _ => nomatch h
  | .str _, _, h, _ => nomatch h
  | .list _, _, h, _ => nomatch h
  | .dict _, _, h, _ => nomatch h
  | .tuple _, .none, _, h => nomatch h
  | .tuple _, .bool _, _, h => nomatch h
  | .tuple _, .int _, _, h => nomatch h
  | .tuple _, .str _, _, h => nomatch h
  | .tuple _, .list _, _, h => nomatch h
  | .tuple _, .dict _, _, h => nomatch h
theorem alikes_key : ∀ ds es : List PyData, nsts ds = true → nsts es = true → alikeAll (pkeys ds) (pkeys es) = true
  | [], _, _, _ => rfl
  | _ :: _, [], _, _ => rfl
  | d :: ds, e :: es, h1, h2 => by
    have h1 := Bool.and_eq_true_iff.mp (show (nst d && nsts ds) = true from h1)
    have h2 := Bool.and_eq_true_iff.mp (show (nst e && nsts es) = true from h2)
    show (alike (pkey d) (pkey e) && alikeAll (pkeys ds) (pkeys es)) = true
    rw [alike_key d e h1.1 h2.1, alikes_key ds es h1.2 h2.2]
    rfl
end
theorem nst_tup {d : PyData} (h : nst d = true) : ∃ ds, d = .tuple ds ∧ nsts ds = true := by
  cases d with
  | tuple ds => exact ⟨ds, rfl, h⟩
  | _ => cases h
theorem pkey_tup (ds : List PyData) : pkey (.tuple ds) = .tuple [.int ((1 + wgts ds : Nat)), .tuple (pkeys ds)] := rfl
/-! laid out, depths -/
mutual
theorem lay_nst : ∀ d : PyData, nst d = true → d.canLay0 = true ∧ (pkey d).canLay0 = true
  | .tuple ds, h => by
    obtain ⟨h1, h2⟩ := lays_nst ds h
    exact ⟨h1, by show (true && (PyData.canLayAll0 (pkeys ds) && true)) = true; rw [h2]; rfl⟩
  | .none, h => nomatch h
  | .bool _, h => nomatch h
  | .int _, h => nomatch h
  | .str _, h => nomatch h
  | .list _, h => nomatch h
  | .dict _, h => nomatch h
theorem lays_nst : ∀ ds : List PyData, nsts ds = true → PyData.canLayAll0 ds = true ∧ PyData.canLayAll0 (pkeys ds) = true
  | [], _ => ⟨rfl, rfl⟩
  | d :: ds, h => by
    have h := Bool.and_eq_true_iff.mp (show (nst d && nsts ds) = true from h)
    obtain ⟨a1, a2⟩ := lay_nst d h.1
    obtain ⟨b1, b2⟩ := lays_nst ds h.2
    exact ⟨by show (d.canLay0 && PyData.canLayAll0 ds) = true; rw [a1, b1]; rfl, by show ((pkey d).canLay0 && PyData.canLayAll0 (pkeys ds)) = true; rw [a2, b2]; rfl⟩
end
mutual
theorem dep_nst : ∀ d : PyData, nst d = true → d.depth ≤ dph d ∧ (pkey d).depth ≤ 2 * dph d
  | .tuple ds, h => by
    obtain ⟨h1, h2⟩ := deps_nst ds h
    refine ⟨?_, ?_⟩
    · show PyData.depthAll ds + 1 ≤ 1 + dphs ds
      omega
    · show max 0 (max (PyData.depthAll (pkeys ds) + 1) 0) + 1 ≤ 2 * (1 + dphs ds)
      omega
  | .none, h => nomatch h
  | .bool _, h => nomatch h
  | .int _, h => nomatch h
  | .str _, h => nomatch h
  | .list _, h => nomatch h
  | .dict _, h => nomatch h
theorem deps_nst : ∀ ds : List PyData, nsts ds = true → PyData.depthAll ds ≤ dphs ds ∧ PyData.depthAll (pkeys ds) ≤ 2 * dphs ds
  | [], _ => ⟨Nat.le_refl 0, Nat.zero_le _⟩
  | d :: ds, h => by
    have h := Bool.and_eq_true_iff.mp (show (nst d && nsts ds) = true from h)
    obtain ⟨a1, a2⟩ := dep_nst d h.1
    obtain ⟨b1, b2⟩ := deps_nst ds h.2
    refine ⟨?_, ?_⟩
    · show max d.depth (PyData.depthAll ds) ≤ max (dph d) (dphs ds)
      omega
    · show max (pkey d).depth (PyData.depthAll (pkeys ds)) ≤ 2 * max (dph d) (dphs ds)
      omega
end
/-! equal keys -/
mutual
def kyB : PyData → Bool
  | .int _ => true
  | .tuple ds => kyBs ds
  | _ => false
def kyBs : List PyData → Bool
  | [] => true
  | d :: ds => kyB d && kyBs ds
end
theorem kyBs_all (ds : List PyData) : kyBs ds = ds.all kyB := all_of rfl fun _ _ => rfl
mutual
theorem kd_eqv : ∀ d e : PyData, kyB d = true → kyB e = true → PyData.eqv d e = true → d = e
  | .int i, .int j, _, _, h => by
    rw [eqv_int, decide_eq_true_iff] at h
    rw [h]
  | .tuple ds, .tuple es, h1, h2, h => by rw [kds_eqv ds es h1 h2 h]
  | .int _, .tuple _, _, _, h => nomatch h
  | .tuple _, .int _, _, _, h => nomatch h
  | .none, _, h, _, _ => nomatch h
  | .bool _, _, h, _, _ => nomatch h
  | .str _, _, h, _, _ => nomatch h
  | .list _, _, h, _, _ => nomatch h
  | .dict _, _, h, _, _ => nomatch h
  | .tuple _, .none, _, h, _ => nomatch h
  | .tuple _, .bool _, _, h, _ => nomatch h
  | .tuple _, .str _, _, h, _ => nomatch h
  | .tuple _, .list _, _, h, _ => nomatch h
  | .tuple _, .dict _, _, h, _ => nomatch h
  | .int _, .none, _, h, _ => nomatch h
  | .int _, .bool _, _, h, _ => nomatch h
  | .int _, .str _, _, h, _ => nomatch h
  | .int _, .list _, _, h, _ => nomatch h
  | .int _, .dict _, _, h, _ => nomatch h
theorem kds_eqv : ∀ ds es : List PyData, kyBs ds = true → kyBs es = true → PyData.eqvAll ds es = true → ds = es
  | [], [], _, _, _ => rfl
  | [], _ :: _, _, _, h => nomatch h
  | _ :: _, [], _, _, h => nomatch h
  | d :: ds, e :: es, h1, h2, h => by
    have h1 := Bool.and_eq_true_iff.mp (show (kyB d && kyBs ds) = true from h1)
    have h2 := Bool.and_eq_true_iff.mp (show (kyB e && kyBs es) = true from h2)
    have h := Bool.and_eq_true_iff.mp (show (PyData.eqv d e && PyData.eqvAll ds es) = true from h)
    rw [kd_eqv d e h1.1 h2.1 h.1, kds_eqv ds es h1.2 h2.2 h.2]
end
mutual
theorem key_kd : ∀ d : PyData, nst d = true → kyB (pkey d) = true
  | .tuple ds, h => by
    show (true && (kyBs (pkeys ds) && true)) = true
    rw [keys_kd ds h]
    rfl
  | .none, h => nomatch h
  | .bool _, h => nomatch h
  | .int _, h => nomatch h
  | .str _, h => nomatch h
  | .list _, h => nomatch h
  | .dict _, h => nomatch h
theorem keys_kd : ∀ ds : List PyData, nsts ds = true → kyBs (pkeys ds) = true
  | [], _ => rfl
  | d :: ds, h => by
    have h := Bool.and_eq_true_iff.mp (show (nst d && nsts ds) = true from h)
    show (kyB (pkey d) && kyBs (pkeys ds)) = true
    rw [key_kd d h.1, keys_kd ds h.2]
    rfl
end
theorem layAll_iff {ds : List PyData} : PyData.canLayAll0 ds = true ↔ ∀ d ∈ ds, d.canLay0 = true := by
  rw [all_of (p := PyData.canLay0) (ps := PyData.canLayAll0) rfl fun _ _ => rfl, List.all_eq_true]
theorem depAll_le {n : Nat} : ∀ {ds : List PyData}, (∀ d ∈ ds, d.depth ≤ n) → PyData.depthAll ds ≤ n
  | [], _ => Nat.zero_le _
  | x :: ds, h => Nat.max_le.mpr ⟨h x List.mem_cons_self, depAll_le fun d hd => h d (List.mem_cons_of_mem _ hd)⟩
/-- the keys of nests can be sorted and compared -/
theorem keys_ok {ds : List PyData} (h : nsts ds = true) (hd : dphs ds ≤ 25) : SrtOk (pkeys ds) where
  lay := (lays_nst ds h).2
  like := fun d hd d' hd' => by
    rw [pkeys_map] at hd hd'
    obtain ⟨x, hx, rfl⟩ := List.mem_map.mp hd
    obtain ⟨y, hy, rfl⟩ := List.mem_map.mp hd'
    exact alike_key x y (nsts_iff.mp h x hx) (nsts_iff.mp h y hy)
  kind := .inl (.inl fun d hd => by
    rw [pkeys_map] at hd
    obtain ⟨x, hx, rfl⟩ := List.mem_map.mp hd
    obtain ⟨es, rfl, _⟩ := nst_tup (nsts_iff.mp h x hx)
    exact ⟨_, _, pkey_tup es⟩)
  deep := fun d hm => by
    rw [pkeys_map] at hm
    obtain ⟨x, hx, rfl⟩ := List.mem_map.mp hm
    have h1 := (dep_nst x (nsts_iff.mp h x hx)).2
    have h2 := dphs_mem hx
    omega
/-! sizes for repr -/
theorem sw_leaf {d : PyData} (h : (d.showable && (decide (d.depth ≤ 1) && decide (d.shown.length ≤ 50))) = true) (hp : 1 ≤ dph d) (hw : 1 ≤ wgt d) : Sw (dph d) (62 * wgt d - 2) d := by
  simp only [Bool.and_eq_true, decide_eq_true_eq] at h
  exact ⟨h.1, Nat.le_trans h.2.1 hp, by have := h.2.2; omega⟩
mutual
theorem sw_okl : ∀ d : PyData, okl d = true → Sw (dph d) (62 * wgt d - 2) d
  | .tuple ds, h => by
    obtain ⟨h1, h2, h3⟩ := sws_okl ds h
    refine ⟨h1, ?_, ?_⟩
    · show PyData.depthAll ds + 1 ≤ 1 + dphs ds
      omega
    · show (tupleText (PyData.shownAll ds)).length ≤ 62 * (1 + wgts ds) - 2
      have := tupleText_len_le (PyData.shownAll ds)
      omega
  | .list ds, h => by
    obtain ⟨h1, h2, h3⟩ := sws_okl ds h
    refine ⟨h1, ?_, ?_⟩
    · show PyData.depthAll ds + 1 ≤ 1 + dphs ds
      omega
    · show (listText (PyData.shownAll ds)).length ≤ 62 * (1 + wgts ds) - 2
      have := listText_len_le (PyData.shownAll ds)
      omega
  | .none, h => sw_leaf h (Nat.le_refl 1) (Nat.le_refl 1)
  | .bool _, h => sw_leaf h (Nat.le_refl 1) (Nat.le_refl 1)
  | .int _, h => sw_leaf h (Nat.le_refl 1) (Nat.le_refl 1)
  | .str _, h => sw_leaf h (Nat.le_refl 1) (Nat.le_refl 1)
  | .dict _, h => sw_leaf h (Nat.le_refl 1) (Nat.le_refl 1)
theorem sws_okl : ∀ ds : List PyData, okls ds = true → PyData.showableAll ds = true ∧ PyData.depthAll ds ≤ dphs ds ∧ ((PyData.shownAll ds).map (·.length)).sum + 2 * (PyData.shownAll ds).length ≤ 62 * wgts ds
  | [], _ => ⟨rfl, Nat.le_refl 0, Nat.le_refl 0⟩
  | d :: ds, h => by
    have h := Bool.and_eq_true_iff.mp (show (okl d && okls ds) = true from h)
    have g := sw_okl d h.1
    obtain ⟨b1, b2, b3⟩ := sws_okl ds h.2
    have g1 := g.deep
    have g2 := g.short
    have g3 := wgt_pos d
    refine ⟨?_, ?_, ?_⟩
    · show (d.showable && PyData.showableAll ds) = true
      rw [g.shows, b1]
      rfl
    · show max d.depth (PyData.depthAll ds) ≤ max (dph d) (dphs ds)
      omega
    · show d.shown.length + ((PyData.shownAll ds).map (·.length)).sum + 2 * ((PyData.shownAll ds).length + 1) ≤ 62 * (wgt d + wgts ds)
      omega
end
/-! sorted lists -/
open PySem.W in
theorem lt_negA (a b c : PyData) (h : dataLt a c = true) : dataLt a b = true ∨ dataLt b c = true := (listOrd itemOrd).negTrans _ _ _ h
open PySem.W in
theorem lt_asymA {a b : PyData} (h : dataLt a b = true) : dataLt b a = false := by
  cases z : dataLt b a with
  | false => rfl
  | true =>
    have := (listOrd itemOrd).trans _ _ _ h z
    rw [(listOrd itemOrd).irrefl] at this
    cases this
open PySem.W in
theorem le_transA {a b c : PyData} (h1 : dataLt b a = false) (h2 : dataLt c b = false) : dataLt c a = false := by
  cases z : dataLt c a with
  | false => rfl
  | true =>
    rcases lt_negA c b a z with y | y
    · rw [y] at h2; cases h2
    · rw [y] at h1; cases h1
theorem srtA_perm (l : List PyData) : (srtD l).Perm l := List.mergeSort_perm _ _
theorem le_iffA {a b : PyData} : PySem.W.dataLe false id a b = true ↔ PySem.W.dataLt b a = false := by
  show (!PySem.W.dataLt b a) = true ↔ _
  rw [Bool.not_eq_true']
theorem srtA_sorted (l : List PyData) : (srtD l).Pairwise fun a b => PySem.W.dataLt b a = false := by
  refine (List.pairwise_mergeSort (le := PySem.W.dataLe false id) (fun a b c h1 h2 => ?_) (fun a b => ?_) l).imp fun h => le_iffA.mp h
  · exact le_iffA.mpr (le_transA (le_iffA.mp h1) (le_iffA.mp h2))
  · rw [Bool.or_eq_true, le_iffA, le_iffA]
    cases z : PySem.W.dataLt b a with
    | false => exact .inl rfl
    | true => exact .inr (lt_asymA z)
theorem chn_iff {l : List PyData} : chn l = true ↔ l.Pairwise fun a b => PySem.W.dataLt b a = false := decide_eq_true_iff
theorem chn_srt {l : List PyData} : chn l = true ↔ srtD l = l := by
  rw [chn_iff]
  constructor
  · intro h
    exact List.mergeSort_of_pairwise (h.imp fun h => le_iffA.mpr h)
  · intro h
    rw [← h]
    exact srtA_sorted l
theorem adj_iff {R : PyData → PyData → Prop} (tr : ∀ a b c, R a b → R b c → R a c) : ∀ l : List PyData, l.Pairwise R ↔ ∀ k, k + 1 < l.length → R (l.getD k .none) (l.getD (k + 1) .none)
  | [] => ⟨fun _ k hk => absurd hk (Nat.not_lt_zero _), fun _ => .nil⟩
  | [x] => ⟨fun _ k hk => absurd hk (by show ¬ k + 1 < 1; omega), fun _ => List.pairwise_singleton R x⟩
  | x :: y :: l => by
    have ih := adj_iff tr (y :: l)
    constructor
    · intro h k hk
      obtain ⟨h1, h2⟩ := List.pairwise_cons.mp h
      cases k with
      | zero => exact h1 y List.mem_cons_self
      | succ k => exact ih.mp h2 k (by have hk : k + 1 + 1 < l.length + 1 + 1 := hk; show k + 1 < l.length + 1; omega)
    · intro h
      have h2 := ih.mpr fun k hk => h (k + 1) (by have hk : k + 1 < l.length + 1 := hk; show k + 1 + 1 < l.length + 1 + 1; omega)
      have xy : R x y := h 0 (by show 1 < l.length + 1 + 1; omega)
      refine List.pairwise_cons.mpr ⟨fun z hz => ?_, h2⟩
      rcases List.mem_cons.mp hz with rfl | hz
      · exact xy
      · exact tr _ _ _ xy ((List.pairwise_cons.mp h2).1 z hz)
end Lf
set_option maxHeartbeats 4000000
namespace Lf
open PySem PySem.Spec PyProof.Rows L2
/-! ### a > b of data that are alike; t * k, k > 1, t a tuple -/
section
variable {X : Cx}
def rGtG (K : PySem.W.Frag) : R2 := fun x y H Q => ∃ d e : PyData, Dp K H x d ∧ Dp K H y e ∧ PySem.W.alike d e = true ∧ d ≠ .none ∧ d.depth ≤ 64 ∧ Q (.bl (PySem.W.dataLt e d)) H
theorem op_gtG (hu : X.A.units + 65 < cLine) : OpR X (compareOp .Gt) (rGtG X.K) := by
  rintro pins s σ H x y v u Q I rx ry ⟨d, e, h1, h2, al, nn, dp, q⟩
  obtain ⟨as, ra⟩ := Dp.reads I _ _ _ h1 rx
  obtain ⟨bs, rb⟩ := Dp.reads I _ _ _ h2 ry
  have mn : min d.depth e.depth ≤ d.depth := Nat.min_le_left _ _
  exact PySem.W.gt_data ra rb al nn (by omega) ⟨.bl _, H, I, rfl, q⟩
/-- t * k -/
def rRepK (K : PySem.W.Frag) : R2 := fun x y H Q => ∃ (l : Addr) (k : Int) (xs : List V), x = .ref l ∧ y = .int k ∧ SqT K H l xs ∧ xs ≠ [] ∧ 2 ≤ k ∧ k ≤ 1000 ∧ xs.length ≤ 1000 ∧ ∀ p o, H p = none → Tk o → Q (.ref p) (upd H p (.frz o (.tup (List.replicate k.toNat xs).flatten)))
theorem op_repK : OpR X (binaryOp .Mult) (rRepK X.K) := by
  rintro pins s σ H x y v u Q I rx ry ⟨l, k, xs, rfl, rfl, sq, ne, k2, kM, len, q⟩
  cases rx
  obtain ⟨tk, rfl⟩ := ry
  obtain ⟨its, vals, ⟨⟨cls, dd, data, sl⟩, at0, hc, n, hd⟩, _⟩ := I.tuple sq
  simp only at hc hd
  subst hc hd
  have lenI : its.length = xs.length := vals.length.symm
  have neI : its.toArray.isEmpty = false := by
    cases its with
    | nil => exact absurd (List.eq_nil_of_length_eq_zero lenI.symm) ne
    | cons a b => rfl
  have size : its.toArray.size = xs.length := by rw [List.size_toArray, lenI]
  have many : k.toNat * xs.length ≤ 1000 * 1000 := Nat.mul_le_mul (by omega) len
  have prod : ((its.toArray.size : Nat) : Int) * k ≤ 1000000 := by
    rw [size]
    have := Int.mul_le_mul_of_nonneg_right (show ((xs.length : Nat) : Int) ≤ 1000 by omega) (show (0 : Int) ≤ k by omega)
    omega
  have b1 : (decide (k < -(2 ^ 63)) || decide (k ≥ 2 ^ 63)) = false := by rw [decide_eq_false (by omega), decide_eq_false (by omega)] <;> rfl
  have b2 : (its.toArray.isEmpty || k == 1) = false := by rw [neI, Bool.false_or]; exact beq_eq_false_iff_ne.mpr (by omega)
  have b3 : (decide (k ≤ 0) || its.toArray.isEmpty) = false := by rw [neI, Bool.or_false]; exact decide_eq_false (by omega)
  have b4 : Builtin.Tuple.tupleTooMany (((its.toArray.size : Nat) : Int) * k) = false := by
    unfold Builtin.Tuple.tupleTooMany
    rw [sizeLine_eq]
    exact decide_eq_false (by omega)
  have flat : (List.replicate k.toNat its).flatten.length ≤ sizeLine := by rw [PyProof.Rows.lm_len_rep_flat, lenI, sizeLine_eq]; omega
  refine wpAny_binaryOp_repeat_ref (T := "tuple") (U := "int") (by decide) ⟨_, at0, rfl⟩ (fun s' => typeIs_int s' k tk) noFill_tuple_mul F.fills_int_mul F.slot_int_rmul repeat_tuple F.slot_int_index.lookup
    (call_meets F.slot_int_rmul (typeIs_int s k tk) F.entry_int_rmul (F.args_int_rmul_2 _ _) (int_rmul_tuple k tk l its.toArray n dd sl)
      ⟨at0, rfl, ⟨_, at0, rfl⟩, call_meets F.slot_tuple_mul ⟨_, at0, rfl⟩ F.entry_tuple_mul (F.args_tuple_mul_2 _ _) (tuple_mulW l its.toArray n dd sl k tk b1 b2 b3 (by omega) b4 (by rw [size_rep, List.size_toArray]; exact flat)) ⟨at0, ?_⟩⟩)
  rw [size_rep]
  have lenX : (List.replicate k.toNat xs).flatten.length ≤ sizeLine := by rw [PyProof.Rows.lm_len_rep_flat, sizeLine_eq]; omega
  exact ⟨.ref s.heap.objs.size, _, laidT (tk := s.toks) I (vals.rep k.toNat) lenX, rfl, q _ _ (I.hok.fresh (Nat.le_refl _)) tk_new⟩
end
section
variable {Z : Zn} {X : Cx} {a b : Expr} {da db : DX Z} {pos : Pos}
def opGtG : Op := fun x y Q => match x.D, y.D with
  | some d, some e => PySem.W.alike d e = true ∧ d ≠ .none ∧ d.canLay0 = true ∧ e.canLay0 = true ∧ d.depth ≤ 64 ∧ Q (.im (.bool (PySem.W.dataLt e d)))
  | _, _ => False
theorem o2_gtG {K : PySem.W.Frag} : Op2 K (rGtG K) opGtG := by
  intro Z B0 ρ s H0 σ Ha Hb H v u x y Qd Q R rx ry q k
  unfold opGtG at q
  split at q
  · rename_i d e e1 e2
    obtain ⟨al, nn, l1, l2, dp, q⟩ := q
    exact ⟨d, e, dp_of l1 (rx.rd e1), dp_of l2 (ry.rd e2), al, nn, dp, k _ _ _ q (Same.refl H) (Im.bl _)⟩
  · exact q.elim
theorem dt_gtG (hu : X.A.units + 65 < cLine) (ha : DE Z X a da) (hb : DE Z X b db) : DTs Z X (.Compare a [.Gt] [b] pos) (dTst (dBin opGtG da db)) := dt_cmp (op_gtG hu) o2_gtG ha hb (nomark _)
def opMulK : Op := fun x y Q => match x.D, y.D with
  | some (.tuple l), some (.int k) => l ≠ [] ∧ 2 ≤ k ∧ k ≤ 1000 ∧ l.length ≤ 1000 ∧ Q (.im (.tuple (List.replicate k.toNat l).flatten))
  | _, _ => False
theorem de_mulK (ha : DE Z X a da) (hb : DE Z X b db) : DE Z X (.BinOp a .Mult b pos) (dBin opMulK da db) := by
  refine PE.of (pe_op op_repK ha hb) fun σ H Q h => lift_bin (K := X.K) ?_ h
  intro Z B0 ρ s H0 σ Ha Hb H v u x y Qd Q R rx ry q k
  unfold opMulK at q
  split at q
  · rename_i l m e1 e2
    obtain ⟨ne, k1, k2, len, q⟩ := q
    obtain ⟨a, xs, rfl, h1, h2⟩ := rx.tup (K := X.K) e1
    have nx : xs ≠ [] := fun z => ne (by
      have := h2.length
      rw [z] at this
      exact List.length_eq_zero_iff.mp this.symm)
    exact ⟨a, m, xs, rfl, ry.vI e2, h1, nx, k1, k2, by rw [h2.length]; exact len, fun p o hp tk => k _ _ _ q (same_new hp) (newT hp tk (h2.rep _))⟩
  · exact q.elim
end
end Lf
namespace Lf
open PySem PySem.Spec PyProof.Rows L2
def topS (i : Nat) : Stmt := PySem.Challenge.pw_linkforests_k54_shapes_recognized.main.body.getD i (.Pass ⟨0, 0, 0, 0⟩)
end Lf
namespace Lf
open PySem PySem.Spec PyProof.Rows L2
/-! ### all(xs), any(xs) of bools; x in range(n), x not in range(n) -/
section
variable {Z : Zn} {X : Cx} {B0 : Addr → Prop} {H0 H H1 H2 : Hp} {ρ ρ1 ρ2 : List Sl} {s s1 s2 : Z.S} {σ : L2.St} {v u : V} {r x y : Rv} {e a b c tg : Expr} {es rest : List Expr} {de da db dc : DX Z} {dt du : DT Z} {das : DA Z} {pos p : Pos} {K : PySem.W.Frag} {B : Addr → Prop}
theorem bls_of : ∀ {xs : List V} {bs : List Bool}, ImAll B H xs (bs.map .bool) → xs = bs.map V.bl
  | [], [], _ => rfl
  | _, b :: bs, .cons h q => by
    cases h
    rw [List.map_cons, ← bls_of q]
def opAll : Cb := fun rs Q => match rs with
  | [x] => match x.D with
    | some (.list l) => ∃ bs : List Bool, l = bs.map .bool ∧ Q (.im (.bool (bs.all id)))
    | _ => False
  | _ => False
def opAny : Cb := fun rs Q => match rs with
  | [x] => match x.D with
    | some (.list l) => ∃ bs : List Bool, l = bs.map .bool ∧ Q (.im (.bool (bs.any id)))
    | _ => False
  | _ => False
theorem de_all (hc : X.calm = true) (hg : Gl X "all") (hm : X.mg "all" = none) (ha : DAs Z X (e :: es) das) (he : starEach (e :: es) X.env = (false, eval e X.env) :: starEach es X.env := by rfl) (hpl : (backTo pos (starEach es X.env)).any (·.1) = false := by rfl) : DE Z X (.Call (.Name "all" p) (e :: es) [] pos) (dCB opAll das) := by
  refine PE.of (pe_callB (cr_all hc) hg hm (by decide +kernel) ha (by decide) (by decide) he hpl) fun σ H Q h => lift_cb ?_ h
  intro Z B0 ρ s H0 σ Ha H vs xs Qd Q R rr q k
  unfold opAll at q
  split at q
  · obtain ⟨v, rfl, r1⟩ := rr.one
    split at q
    · rename_i l e1
      obtain ⟨bs, rfl, q⟩ := q
      obtain ⟨a, ys, rfl, h1, h2⟩ := r1.lst e1
      rw [bls_of h2] at h1
      exact ⟨a, bs, rfl, SqL.of h1, k _ _ _ q (Same.refl H) (Im.bl _)⟩
    · exact q.elim
  · exact q.elim
theorem de_any (hc : X.calm = true) (hg : Gl X "any") (hm : X.mg "any" = none) (ha : DAs Z X (e :: es) das) (he : starEach (e :: es) X.env = (false, eval e X.env) :: starEach es X.env := by rfl) (hpl : (backTo pos (starEach es X.env)).any (·.1) = false := by rfl) : DE Z X (.Call (.Name "any" p) (e :: es) [] pos) (dCB opAny das) := by
  refine PE.of (pe_callB (cr_any hc) hg hm (by decide +kernel) ha (by decide) (by decide) he hpl) fun σ H Q h => lift_cb ?_ h
  intro Z B0 ρ s H0 σ Ha H vs xs Qd Q R rr q k
  unfold opAny at q
  split at q
  · obtain ⟨v, rfl, r1⟩ := rr.one
    split at q
    · rename_i l e1
      obtain ⟨bs, rfl, q⟩ := q
      obtain ⟨a, ys, rfl, h1, h2⟩ := r1.lst e1
      rw [bls_of h2] at h1
      exact ⟨a, bs, rfl, SqL.of h1, k _ _ _ q (Same.refl H) (Im.bl _)⟩
    · exact q.elim
  · exact q.elim
theorem cr_range1 : CallR X (.type "range") (fun vs H Q => ∃ j, vs = [V.int j] ∧ ∀ p, H p = none → Q (.ref p) (upd H p (.rng 0 j))) := by
  intro pins s σ H vs us Q I r h
  obtain ⟨j, rfl, q⟩ := h
  obtain ⟨u1, rfl, rj⟩ := vals1 r
  obtain ⟨u, rfl⟩ := rj
  refine call_range_1 ⟨.ref s.heap.objs.size, upd H s.heap.objs.size (.rng 0 j), I.laid (t' := s.toks + 1 + 1) (fun b o e => Heap.get?_push_of_some _ e) (Nat.le_refl _) ?_, rfl, q _ (I.hok.fresh (Nat.le_refl _))⟩
  exact ⟨s.toks, u, s.toks + 1, Heap.get?_push_size _ rfl⟩
theorem op_notin_rng : OpR X (compareOp .NotIn) (fun x y H Q => ∃ i a lo hi, x = V.int i ∧ y = V.ref a ∧ H a = some (.rng lo hi) ∧ Q (.bl (!decide (lo ≤ i ∧ i < hi))) H) := by
  intro pins s σ H x y v u Q I rx ry h
  obtain ⟨i, a, lo, hi, rfl, rfl, ha, q⟩ := h
  obtain ⟨k, rfl⟩ := rx
  obtain rfl : u = Value.ref a := ry
  obtain ⟨t1, t2, t3, ho⟩ := I.hok a _ ha
  show wpAny _ _ (do return Value.bool (!(← contains (Value.ref a) (Value.int i k)))) _ _ s
  refine wpAny_bind (wpAny_contains_slot (T := "range") ⟨_, ho, rfl⟩ F.slot_range_contains (call_meets F.slot_range_contains ⟨_, ho, rfl⟩ F.entry_range_contains (F.args_range_contains_2 _ _) (q_contains a lo hi i t1 t2 t3 k)
    ⟨ho, wpAny_truthy_bool (wpAny_pure ⟨.bl _, H, I, rfl, ?_⟩)⟩))
  rw [place1]
  exact q
def opInR (neg : Bool) : Op := fun x y Q => match x.D, y.D with
  | some (.int i), some (.int j) => Q (.im (.bool (neg != decide (0 ≤ i ∧ i < j))))
  | _, _ => False
theorem lift_inR {neg : Bool} {rr : R2} (h2 : ∀ (H : Hp) (i j : Int) (a : Addr) (Q : VK), H a = some (.rng 0 j) → Q (.bl (neg != decide (0 ≤ i ∧ i < j))) H → rr (.int i) (.ref a) H Q) {σ : L2.St} {H : Hp} {Q : VK} (h : liftE Z (dBin (opInR neg) da db) σ H Q) :
    tOp rr (liftE Z da) (tCB (fun vs H Q => ∃ j, vs = [V.int j] ∧ ∀ p, H p = none → Q (.ref p) (upd H p (.rng 0 j))) (tCons (liftE Z db) tNil)) σ H Q := by
  obtain ⟨B0, H0, ρ, s, Qd, R, hd, hq⟩ := h
  refine ⟨B0, H0, ρ, s, _, R, hd, fun x s1 v H1 qx R1 g1 r1 => ?_⟩
  refine ⟨B0, H0, ρ, s1, _, R1, qx, fun y s2 u H2 qy R2 g2 r2 => ?_⟩
  have r1 := r1.grow R1 g2
  unfold opInR at qy
  split at qy
  · rename_i i j e1 e2
    refine ⟨j, by rw [r2.vI e2], fun p hp => ?_⟩
    rw [r1.vI e1]
    exact h2 _ i j p Q upd_same (hq _ s2 _ _ qy (R2.same (same_new hp)) (g1.trans (g2.trans (Gr.of (same_new hp)))) (Im.bl _))
  · exact qy.elim
theorem de_notinR {p2 pos2 : Pos} (hg : Gl X "range") (hmg : X.mg "range" = none) (ha : DE Z X a da) (hb : DE Z X b db) (hs : starEach [b] X.env = (false, eval b X.env) :: starEach [] X.env := by rfl) (hpl : (backTo pos2 (starEach [] X.env)).any (·.1) = false := by rfl)
    (hm : behindInMarks .NotIn (.Call (.Name "range" p2) [b] [] pos2) = false := by rfl) : DE Z X (.Compare a [.NotIn] [.Call (.Name "range" p2) [b] [] pos2] pos) (dBin (opInR true) da db) := by
  refine PE.of (pe_cmpR op_notin_rng ha (pe_callTy cr_range1 hg hmg (by decide +kernel) (pa_cons hb pa_nil hs) (by decide) (by decide) hs hpl) hm) fun σ H Q h => lift_inR (fun H i j a Q h1 q => ⟨i, a, 0, j, rfl, rfl, h1, by rw [Bool.true_bne] at q; exact q⟩) h
theorem de_inR {p2 pos2 : Pos} (hg : Gl X "range") (hmg : X.mg "range" = none) (ha : DE Z X a da) (hb : DE Z X b db) (hs : starEach [b] X.env = (false, eval b X.env) :: starEach [] X.env := by rfl) (hpl : (backTo pos2 (starEach [] X.env)).any (·.1) = false := by rfl)
    (hm : behindInMarks .In (.Call (.Name "range" p2) [b] [] pos2) = false := by rfl) : DE Z X (.Compare a [.In] [.Call (.Name "range" p2) [b] [] pos2] pos) (dBin (opInR false) da db) := by
  refine PE.of (pe_cmpR op_in_rng ha (pe_callTy cr_range1 hg hmg (by decide +kernel) (pa_cons hb pa_nil hs) (by decide) (by decide) hs hpl) hm) fun σ H Q h => lift_inR (fun H i j a Q h1 q => ⟨i, a, 0, j, rfl, rfl, h1, by rw [Bool.false_bne] at q; exact q⟩) h
theorem dt_notinR {p2 pos2 : Pos} (hg : Gl X "range") (hmg : X.mg "range" = none) (ha : DE Z X a da) (hb : DE Z X b db) (hs : starEach [b] X.env = (false, eval b X.env) :: starEach [] X.env := by rfl) (hpl : (backTo pos2 (starEach [] X.env)).any (·.1) = false := by rfl)
    (hm : behindInMarks .NotIn (.Call (.Name "range" p2) [b] [] pos2) = false := by rfl) : DTs Z X (.Compare a [.NotIn] [.Call (.Name "range" p2) [b] [] pos2] pos) (dTst (dBin (opInR true) da db)) := by
  refine PT.of (pt_cmpR op_notin_rng ha (pe_callTy cr_range1 hg hmg (by decide +kernel) (pa_cons hb pa_nil hs) (by decide) (by decide) hs hpl) hm) fun σ H Q h => ?_
  obtain ⟨B0, H0, ρ, s, Qd, R, hd, hq⟩ := lift_tst h
  exact lift_inR (fun H i j a Q h1 q => ⟨i, a, 0, j, rfl, rfl, h1, by rw [Bool.true_bne] at q; exact q⟩) ⟨B0, H0, ρ, s, Qd, R, hd, hq⟩
theorem dt_inR {p2 pos2 : Pos} (hg : Gl X "range") (hmg : X.mg "range" = none) (ha : DE Z X a da) (hb : DE Z X b db) (hs : starEach [b] X.env = (false, eval b X.env) :: starEach [] X.env := by rfl) (hpl : (backTo pos2 (starEach [] X.env)).any (·.1) = false := by rfl)
    (hm : behindInMarks .In (.Call (.Name "range" p2) [b] [] pos2) = false := by rfl) : DTs Z X (.Compare a [.In] [.Call (.Name "range" p2) [b] [] pos2] pos) (dTst (dBin (opInR false) da db)) := by
  refine PT.of (pt_cmpR op_in_rng ha (pe_callTy cr_range1 hg hmg (by decide +kernel) (pa_cons hb pa_nil hs) (by decide) (by decide) hs hpl) hm) fun σ H Q h => ?_
  obtain ⟨B0, H0, ρ, s, Qd, R, hd, hq⟩ := lift_tst h
  exact lift_inR (fun H i j a Q h1 q => ⟨i, a, 0, j, rfl, rfl, h1, by rw [Bool.false_bne] at q; exact q⟩) ⟨B0, H0, ρ, s, Qd, R, hd, hq⟩
end
end Lf
namespace Lf
open PySem PySem.Spec PyProof.Rows L2
/-! ### xs += t, a tuple -/
theorem meets_iaddT (l : Addr) (vs : Array Value) (n : Nat) (b : Addr) (ws : Array Value) (m : Nat) (db : Option Addr) (sb : Array (Option Value)) (h0 : ¬ (!vs.isEmpty && Builtin.List.listTooLong (vs.size + ws.size)) = true) (h1 : vs.size ≤ sizeLine) (h2 : vs.size + ws.size ≤ sizeLine + 1) :
    Meets (Builtin.«list.__iadd__» ⟨[.ref l, .ref b], []⟩) (fun _ R s =>
      s.heap.get? l = some { cls := .type "list", dict := none, data := .seq vs n, slots := #[] } ∧
      s.heap.get? b = some { cls := .type "tuple", dict := db, data := .seq ws m, slots := sb } ∧
      R (.ok (.ret (.ref l))) { s with heap := s.heap.update l (Obj.mapSeq fun x => x ++ ws), toks := s.toks }) :=
  .of_wp fun prog w A R s h => by
    obtain ⟨hp, g, d, tk, os⟩ := s
    obtain ⟨hl, hb, h⟩ := h
    have k1 := AutoSeq1.idx_int
    have k2 := AutoSeq1.sub_tuple_tuple
    have k3 := AutoSeq1.sub_list_list
    have k4 := AutoSeq1.sub_tuple_list
    have k5 := AutoSeq1.sub_list_tuple
    have hz : (vs ++ ws).size ≤ sizeLine + 1 := by
      rw [Array.size_append]
      exact h2
    wp_walk using (wpAny_updateSeq hl rfl (hz := h1) (_hz' := hz)), AutoSeq1.wpAny_loadPart' hl, AutoSeq1.wpAny_loadPart' hb
    exact ⟨_, rfl, h⟩
theorem binop_LT {M : Model} {A : Around} {E : Value → Shared → Prop} {s : Shared} {a b : Value} {Q : Option Value → Shared → Prop} (ha : s.TypeIs a "list") (hb : s.TypeIs b "tuple") (h : Q none s) : wpAny M A (binaryOp1 "add" a b) Q E s := by
  unfold binaryOp1
  refine wpAny_bind (wpAny_typeOf ha (wpAny_bind (wpAny_typeOf hb ?_)))
  refine wpAny_bind (wpAny_of_eq noFill_list_add ?_)
  have ne : ((Value.type "list" : Value) == .type "tuple") = false := by decide +kernel
  simp only [ne, Bool.false_eq_true, if_false]
  refine wpAny_bind (wpAny_of_eq noFill_tuple_add ?_)
  simp only [Bool.false_and, Bool.and_false, Bool.false_eq_true, if_false, pure_bind]
  exact wpAny_pure h
theorem iadd_T {M : Model} {A : Around} {E : Value → Shared → Prop} {s : Shared} {a b : Value} {Q : Value → Shared → Prop} (ha : s.TypeIs a "list") (hb : s.TypeIs b "tuple") (hc : wpAny M A (call (.builtin "list.__iadd__") [a, b]) Q E s) : wpAny M A (inplaceOp .Add a b) Q E s := by
  have e1 : typeLookup (.type "list") (dunderI "add") = pure (some (.builtin "list.__iadd__")) := PySem.F.slot_list_iadd.lookup
  have e2 : isSeqSlot (some (.builtin "list.__iadd__")) = true := by decide +kernel
  have e3 : fillsInplaceSlot (.type "list") "add" (Operator.Add == .Add) = pure false := by
    unfold fillsInplaceSlot
    show (typeLookup (.type "list") (dunderI "add") >>= _) = _
    rw [e1, pure_bind, e2]
    rfl
  unfold inplaceOp
  refine wpAny_holding (wpAny_bind (wpAny_typeOf ha (wpAny_bind (wpAny_of_eq e3 ?_))))
  show wpAny M A (if false = true then _ else _) Q E s
  rw [if_neg Bool.false_ne_true]
  refine wpAny_bind (binop_LT ha hb ?_)
  refine wpAny_bind (wpAny_of_eq (PySem.seqSlot_of e1 e2) ?_)
  exact wpAny_bind (wpAny_rule hc)
def rExtT (K : PySem.W.Frag) : R2 := fun x y H Q => ∃ l b xs zs, x = .ref l ∧ y = .ref b ∧ H l = some (.lst xs) ∧ SqT K H b zs ∧ xs.length + zs.length ≤ sizeLine ∧ Q (.ref l) (upd H l (.lst (xs ++ zs)))
theorem iop_extT {X : Cx} : OpR X (inplaceOp .Add) (rExtT X.K) := by
  intro pins s σ H x y v u Q I rx ry h
  obtain ⟨l, b, xs, zs, rfl, rfl, hH, hB, hz, q⟩ := h
  cases rx
  cases ry
  obtain ⟨z, its, n, r, hl, e⟩ := I.lstM hH
  obtain ⟨its2, r2, ⟨⟨ocls, odict, odata, oslots⟩, ho, hcl, m, hd⟩, hz2⟩ := I.tuple hB
  have hcl : ocls = .type "tuple" := hcl
  have hd : odata = .seq its2.toArray m := hd
  subst hcl hd
  have len1 := r.length
  have len2 := r2.length
  have hlong : ¬ (!its.toArray.isEmpty && Builtin.List.listTooLong (its.toArray.size + its2.toArray.size)) = true := by
    rw [notLongL (by rw [List.size_toArray, List.size_toArray]; omega), Bool.and_false]
    exact Bool.false_ne_true
  refine iadd_T ⟨_, e, rfl⟩ ⟨_, ho, rfl⟩ (call_meets PySem.F.slot_list_iadd ⟨_, e, rfl⟩ PySem.F.entry_list_iadd (PySem.F.args_list_iadd_2 _ _)
    (meets_iaddT l its.toArray n b its2.toArray m _ _ hlong (by rw [List.size_toArray]; omega) (by rw [List.size_toArray, List.size_toArray]; omega)) ⟨e, ho, ?_⟩)
  refine ⟨.ref l, _, I.lset (its' := its ++ its2) (t' := s.toks) hH e (by simp) (r.append r2) ?_, rfl, q⟩
  rw [List.length_append]
  omega
section
variable {Z : Zn} {X : Cx} {e : Expr} {pos : Pos} {de : DX Z}
def dAugT (i : Nat) (de : DX Z) : DSt Z := fun De s ρ => match ρ[i]? with
  | some (.ow q l) => de s ρ fun y s1 => match y.D with
    | some (.tuple m) => l.length + m.length ≤ 1000000 ∧ De.nx s1 (ρ.set i (.ow q (l ++ m)))
    | _ => False
  | _ => False
theorem ds_iaddT {i : Nat} {n : Str} {pos' : Pos} (hN : X.N.Nodup) (hi : X.N[i]? = some n) (hx : Loc X.env.scope n) (he : DE Z X e de) (hf : X.fn n = true ∨ X.env.scope.names.lookup n = some .local := by first | exact .inl rfl | exact .inr rfl | assumption) :
    DS Z X (.AugAssign (.Name n pos') .Add e pos) (dAugT i de) := by
  refine PS.of (ps_aug (ti := rExtT X.K) hN hi hx he iop_extT hf) fun D σ H ⟨B0, H0, ρ, s, De, R, hd, hn, _⟩ => ?_
  unfold dAugT at hd
  split at hd
  · rename_i q l e1
    obtain ⟨o, s0, rfl, xs, hq, im⟩ := R.sl i _ e1
    refine ⟨.ref q, s0, B0, H0, ρ, s, _, R, hd, fun y s1 u H1 qx R1 g1 r1 => ?_⟩
    split at qx
    · rename_i m e2
      obtain ⟨b, ys, rfl, h1, h2⟩ := r1.tup (K := X.K) e2
      have hq1 := g1 q _ hq (R.fr q (own_mem e1)).2.1
      have im1 := im.grow badZ R.ok g1
      refine ⟨q, b, xs, ys, rfl, rfl, hq1, h1, by rw [im1.length, h2.length]; exact smB qx.1, ?_⟩
      have es : σ.set i (some (.ref q)) = σ := by
        have hl := List.getElem?_eq_some_iff.mp s0
        rw [← hl.2]
        exact List.set_getElem_self hl.1
      show D.nx (σ.set i (some (.ref q))) _
      rw [es]
      exact hn s1 _ σ _ qx.2 (R1.mutL e1 (im1.append h2)) ((g1.stp R).trans R1 (mut_stp R1 e1))
    · exact qx.elim
  · exact hd.elim
end
end Lf
namespace Lf
open PySem PySem.Spec PyProof.Rows L2
/-! ### forests.py over data, for what is valid -/
theorem isV_natD {n x : Nat} (h : x < n) : isV n (.int (x : Nat)) = true := show (decide (0 ≤ ((x : Nat) : Int)) && decide (((x : Nat) : Int) < (n : Int))) = true from Bool.and_eq_true_iff.mpr ⟨decide_eq_true (by omega), decide_eq_true (by omega)⟩
def fPI : DF Z0 := fun s as Q => ∃ d, as = [.im d] ∧ Q (.im (.bool (isInt d))) s
def fIV : DF Z0 := fun s as Q => ∃ (n : Nat) (d : PyData), as = [.im (.int (n : Nat)), .im d] ∧ Q (.im (.bool (isV n d))) s
def fCheck : DF Z0 := fun s as Q => ∃ (fs : List Nat) (v : Nat), as = [.im (tupN fs), .im (.int (v : Nat))] ∧ v < fs.length ∧ Q (.im .none) s
def fPath : DF Z0 := fun s as Q => ∃ (fs : List Nat) (v : Nat), as = [.im (tupN fs), .im (.int (v : Nat))] ∧ Forest fs ∧ v < fs.length ∧ Q (.im (tupN (way fs v))) s
section
variable {P : Program} {w : World} {K : PySem.W.Frag} {mg : Str → Option Value} {base : Heap}
end
end Lf
namespace Lf
open PySem PySem.Spec PyProof.Rows L2
/-! ### what is not asked exactly: tests with any outcome, comprehensions of which only the items are known, drawn values -/
theorem ite_both {c : Prop} [Decidable c] {A B : Prop} (a : A) (b : B) : if c then A else B := by
  by_cases h : c
  · rw [if_pos h]; exact a
  · rw [if_neg h]; exact b
theorem lcR_prop {Z : Zn} {ρ : List Sl} {R : PyData → Prop} {g : DG Z} {tt : DT Z} {te : DX Z} {s : Z.S} {Q : List PyData → Z.S → Prop} : ∀ {items acc : List PyData}, (∀ d ∈ items, ∀ C : Option PyData → Z.S → Prop, C none s → (∀ x, R x → C (some x) s) → g d ρ fun ρ' => tt s ρ' fun b s1 => if b = true then te s1 ρ' fun r s2 => ∃ x, r.st = some x ∧ C (some x) s2 else C none s1) → acc.length + items.length ≤ 1000000 → (∀ x ∈ acc, R x) →
    (∀ l : List PyData, l.length ≤ acc.length + items.length → (∀ x ∈ l, R x) → Q l s) → lcR g tt te ρ items s acc Q
  | [], acc, _, _, ha, q => q acc (by show _ ≤ _ + 0; omega) ha
  | d :: ds, acc, h, hl, ha, q => by
    rw [List.length_cons] at hl
    refine h d List.mem_cons_self (fun o s1 => match o with
      | some x => acc.length < 1000000 ∧ lcR g tt te ρ ds s1 (acc ++ [x]) Q
      | none => lcR g tt te ρ ds s1 acc Q) ?_ ?_
    · exact lcR_prop (fun d' hd' => h d' (List.mem_cons_of_mem _ hd')) (by omega) ha fun l hl' => q l (by rw [List.length_cons]; omega)
    · intro x hx
      refine ⟨by omega, lcR_prop (fun d' hd' => h d' (List.mem_cons_of_mem _ hd')) (by rw [List.length_append]; show acc.length + 1 + _ ≤ _; omega) (fun y hy => ?_) fun l hl' => q l (by rw [List.length_append] at hl'; rw [List.length_cons]; have : l.length ≤ acc.length + 1 + ds.length := hl'; omega)⟩
      rcases List.mem_append.mp hy with z | z
      · exact ha y z
      · rw [List.mem_singleton.mp z]; exact hx
/-- rows of values that repr shows shortly -/
structure Ts (n : Nat) (ds : List PyData) : Prop where
  len : ds.length ≤ n
  it : ∀ d ∈ ds, Sw 4 400 d
theorem Ts.nil {n : Nat} : Ts n [] := ⟨Nat.zero_le _, fun _ h => absurd h List.not_mem_nil⟩
theorem Ts.one {d : PyData} (h : Sw 4 400 d) : Ts 1 [d] := ⟨Nat.le_refl _, fun x hx => by rw [List.mem_singleton.mp hx]; exact h⟩
theorem Ts.mono {n m : Nat} {ds : List PyData} (h : Ts n ds) (le : n ≤ m) : Ts m ds := ⟨Nat.le_trans h.len le, h.it⟩
theorem Ts.app {n m : Nat} {ds es : List PyData} (h : Ts n ds) (k : Ts m es) : Ts (n + m) (ds ++ es) := ⟨by rw [List.length_append]; have := h.len; have := k.len; omega, fun d hd => (List.mem_append.mp hd).elim (h.it d) (k.it d)⟩
theorem Ts.rev {n : Nat} {ds : List PyData} (h : Ts n ds) : Ts n ds.reverse := ⟨by rw [List.length_reverse]; exact h.len, fun d hd => h.it d (List.mem_reverse.mp hd)⟩
theorem Ts.cut {n : Nat} {ds : List PyData} (h : Ts n ds) (lo hi : Option Int) : Ts n (cutD ds lo hi) := by
  unfold cutD
  refine ⟨?_, fun d hd => h.it d (List.mem_of_mem_drop (List.mem_of_mem_take hd))⟩
  rw [List.length_take, List.length_drop]
  have := h.len
  omega
theorem Ts.nD {n : Nat} {l : List Nat} (h : ∀ x ∈ l, x < 10 ^ 12) (hl : l.length ≤ n) : Ts n (nD l) := ⟨by rw [nD_len]; exact hl, fun d hd => by
  obtain ⟨x, hx, rfl⟩ := List.mem_map.mp hd
  exact (Sw.nat (h x hx)).mono (by decide) (by decide)⟩
theorem Ts.fit {n m : Nat} {ds es : List PyData} (h : Ts n ds) (k : Ts m es) (le : n + m ≤ 1000000 := by decide) : ds.length + es.length ≤ 1000000 := Nat.le_trans (Nat.add_le_add h.len k.len) le
/-- values that a law asks about -/
structure Vd (d : PyData) : Prop where
  sw : Sw 5 100000 d
  len : ∀ ds, d = .tuple ds → ds.length ≤ 200
theorem Ts.tup {n : Nat} {ds : List PyData} (h : Ts n ds) (hn : n ≤ 200) : Vd (.tuple ds) := ⟨(Sw.tup h.it h.len).mono (Nat.le_refl _) (by have : 402 * n ≤ 402 * 200 := Nat.mul_le_mul_left _ hn; omega), fun es e => by cases e; exact Nat.le_trans h.len hn⟩
theorem Ts.lst {n : Nat} {ds : List PyData} (h : Ts n ds) (hn : n ≤ 200) : Vd (.list ds) := ⟨(Sw.lst h.it h.len).mono (Nat.le_refl _) (by have : 402 * n ≤ 402 * 200 := Nat.mul_le_mul_left _ hn; omega), fun es e => by cases e⟩
theorem Vd.all {ds es : List PyData} (h : ∀ d ∈ ds, Vd d) (k : ∀ d ∈ es, Vd d) : ∀ d ∈ ds ++ es, Vd d := fun d hd => (List.mem_append.mp hd).elim (h d) (k d)
theorem Vd.cons {d : PyData} {es : List PyData} (h : Vd d) (k : ∀ d ∈ es, Vd d) : ∀ x ∈ d :: es, Vd x := fun x hx => (List.mem_cons.mp hx).elim (fun z => z ▸ h) (k x)
theorem Vd.nil : ∀ x ∈ ([] : List PyData), Vd x := fun _ h => absurd h List.not_mem_nil
end Lf
namespace Lf
open PySem PySem.Spec PyProof.Rows L2
/-! ### t[::-1] of any tuple -/
section
variable {X : Cx}
def tRevS (K : PySem.W.Frag) (te : TE) : TE := fun σ H Q => te σ H fun x H1 => ∃ (a : Addr) (xs : List V), x = .ref a ∧ SqT K H1 a xs ∧ ∀ p o, H1 p = none → Tk o → Q (.ref p) (upd H1 p (.frz o (.tup xs.reverse)))
theorem pe_revS {e : Expr} {te : TE} {k : Nat} {p1 p2 p3 pos : Pos} (he : PE X e te) : PE X (.Subscript e (.Slice none none (some (.UnaryOp .USub (.Constant (.int 1) k p1) p2)) p3) pos) (tRevS X.K te) := by
  refine ⟨fun pins s σ H Q I h => ?_⟩
  refine Subscript_ (thn (he.run pins s σ H _ I h) ?_)
  rintro v s1 ⟨x, H1, I1, r1, a, xs, rfl, hx, q⟩
  cases (show v = Value.ref a from r1)
  have hst : PE X (.UnaryOp .USub (.Constant (.int 1) k p1) p2) (tUn (rU fun i => .int (-i)) (tC (.int 1))) := pe_un un_neg pe_int
  refine wpAny_Slice (thn (po_none.run pins s1 σ H1 (fun o G => o = none ∧ G = H1) I1 ⟨rfl, rfl⟩) ?_)
  rintro vl s2 ⟨ol, G2, I2, pl, rfl, rfl⟩
  refine thn (po_none.run pins s2 σ G2 (fun o G => o = none ∧ G = G2) I2 ⟨rfl, rfl⟩) ?_
  rintro vu s3 ⟨ou, G3, I3, pu, rfl, rfl⟩
  cases pl
  cases pu
  rw [evalPart_some]
  refine thn (hst.run pins s3 σ G3 (fun y G => y = .int (-1) ∧ G = G3) I3 ⟨1, rfl, rfl, rfl⟩) ?_
  rintro vs s4 ⟨y, H4, I4, ry, rfl, rfl⟩
  obtain ⟨tk, rfl⟩ := ry
  have I5 : Inv X pins σ H4 { s4 with heap := s4.heap.push { cls := .type "slice", data := .fields #[.none, .none, .int (-1) tk] } } := I4.kept (t' := s4.toks) fun b ob z => Heap.get?_push_of_some _ z
  obtain ⟨its, rv, plain, small⟩ := I5.tuple hx
  have same := rv.length
  show wpAny (model X.prog X.w) X.A (subscriptTail e (.Slice none none (some (.UnaryOp .USub (.Constant (.int 1) k p1) p2)) p3) (.ref a) (.ref s4.heap.objs.size)) (EP X pins σ Q) X.xe { s4 with heap := s4.heap.push { cls := .type "slice", data := .fields #[.none, .none, .int (-1) tk] } }
  refine tail_any (ops := [.ref a, .ref s4.heap.objs.size]) plain.typeIs (PyProof.Rows.slot_tuple_getitem.lookup) ?_ (by with_unfolding_all rfl)
  refine getBackA plain (Heap.IsSliceOf.new _ _ _ _) (same ▸ small) ?_
  exact ⟨.ref _, _, laidT (tk := s4.toks) I5 rv.reverse (by rw [List.length_reverse]; exact small), rfl, q _ _ (I5.hok.fresh (Nat.le_refl _)) tk_new⟩
variable {Z : Zn} {e : Expr} {de : DX Z} {k : Nat} {p1 p2 p3 pos : Pos}
def opRevT : Rv → (Rv → Prop) → Prop := fun x Q => match x.D with
  | some (.tuple l) => Q (.im (.tuple l.reverse))
  | _ => False
theorem de_rev (he : DE Z X e de) : DE Z X (.Subscript e (.Slice none none (some (.UnaryOp .USub (.Constant (.int 1) k p1) p2)) p3) pos) (dUn opRevT de) := by
  refine PE.of (pe_revS he) fun σ H Q ⟨B0, H0, ρ, s, Qd, R, hd, hq⟩ => ?_
  refine ⟨B0, H0, ρ, s, _, R, hd, fun x s1 v H1 qx R1 g1 r1 => ?_⟩
  unfold opRevT at qx
  split at qx
  · rename_i l e1
    obtain ⟨a, xs, rfl, h1, h2⟩ := r1.tup (K := X.K) e1
    refine ⟨a, xs, rfl, h1, fun p o hp tk => hq _ s1 _ _ qx (R1.same (same_new hp)) (g1.trans (Gr.of (same_new hp))) ?_⟩
    exact (newT hp tk h2.reverse).back R1.ok g1
  · exact qx.elim
end
end Lf
namespace Lf
open PySem PySem.Spec PyProof.Rows L2
/-! ### xs != [] of a list with any items -/
section
variable {Z : Zn} {X : Cx} {a b : Expr} {da db : DX Z} {pos : Pos} {K : PySem.W.Frag}
def opNeE : Op := fun x y Q => match x.D, y.D with
  | some (.list l), some (.list []) => Q (.im (.bool (!l.isEmpty)))
  | _, _ => False
theorem o2_neE : Op2 K (fun x y H Q => ∃ (a b : Addr) (xs : List V), x = .ref a ∧ y = .ref b ∧ SqL K H a xs ∧ H b = some (.lst []) ∧ Q (.bl (!xs.isEmpty)) H) opNeE := by
  intro Z B0 ρ s H0 σ Ha Hb H v u x y Qd Q R rx ry q k
  unfold opNeE at q
  split at q
  · rename_i l e1 e2
    obtain ⟨a, xs, rfl, h1, h2⟩ := rx.lst e1
    obtain ⟨b, ys, rfl, h3, h4⟩ := ry.lst e2
    cases h4
    refine ⟨a, b, xs, rfl, rfl, SqL.of h1, h3, ?_⟩
    have e : xs.isEmpty = l.isEmpty := by cases h2 <;> rfl
    rw [e]
    exact k _ _ _ q (Same.refl H) (Im.bl _)
  · exact q.elim
theorem dt_neE (hu : X.A.units + 65 < cLine) (ha : DE Z X a da) (hb : DE Z X b db) (hm : behindInMarks .NotEq b = false := by rfl) : DTs Z X (.Compare a [.NotEq] [b] pos) (dTst (dBin opNeE da db)) := dt_cmp (op_neEL (by omega)) o2_neE ha hb hm
theorem de_neE (hu : X.A.units + 65 < cLine) (ha : DE Z X a da) (hb : DE Z X b db) (hm : behindInMarks .NotEq b = false := by rfl) : DE Z X (.Compare a [.NotEq] [b] pos) (dBin opNeE da db) := PE.of (pe_cmpR (op_neEL (by omega)) ha hb hm) fun σ H Q h => lift_bin (K := X.K) o2_neE h
end
end Lf
namespace Lf
open PySem PySem.Spec PyProof.Rows L2
/-! ### min(t) of a tuple of ints -/
section
variable {Z : Zn} {X : Cx} {e : Expr} {es : List Expr} {das : DA Z} {pos p : Pos}
theorem foldl_min (n : Int) : ∀ ns : List Int, ns.foldl min n ∈ n :: ns ∧ ∀ y ∈ n :: ns, ns.foldl min n ≤ y := fun ns => by
  induction ns generalizing n with
  | nil => exact ⟨List.mem_cons_self, fun y hy => by rw [List.mem_singleton.mp hy]; exact Int.le_refl _⟩
  | cons m ns ih =>
    rw [List.foldl_cons]
    obtain ⟨h1, h2⟩ := ih (min n m)
    refine ⟨?_, fun y hy => ?_⟩
    · rcases List.mem_cons.mp h1 with h | h
      · rw [h]
        rcases Int.le_total n m with z | z
        · rw [Int.min_eq_left z]; simp
        · rw [Int.min_eq_right z]; simp
      · exact List.mem_cons_of_mem _ (List.mem_cons_of_mem _ h)
    · have h3 := h2 (min n m) List.mem_cons_self
      rcases List.mem_cons.mp hy with rfl | hy
      · exact Int.le_trans h3 (Int.min_le_left _ _)
      · rcases List.mem_cons.mp hy with rfl | hy
        · exact Int.le_trans h3 (Int.min_le_right _ _)
        · exact h2 y (List.mem_cons_of_mem _ hy)
theorem cr_minT (hc : X.calm = true) (hu : X.A.units + 65 < cLine) : CallR X (.builtin "min") (fun vs H Q => ∃ (a : Addr) (ns : List Int), vs = [V.ref a] ∧ SqT X.K H a (ns.map V.int) ∧ 0 < ns.length ∧ ∀ m, m ∈ ns → (∀ y ∈ ns, m ≤ y) → Q (.int m) H) := by
  intro pins s σ H vs us Q I r h
  obtain ⟨a, ns, rfl, hs, hne, q⟩ := h
  obtain ⟨u, rfl, r1⟩ := vals1 r
  cases (show u = Value.ref a from r1)
  obtain ⟨its, rv, ht, _⟩ := I.tuple hs
  cases ns with
  | nil => exact absurd hne (Nat.lt_irrefl 0)
  | cons n ns =>
    obtain ⟨as, ra⟩ := Dp.readsAll I ((n :: ns).map PyData.int) _ its (dpInts (K := X.K) (H := H) (n :: ns)) rv
    refine PySem.W.min_tuple_data (x := .int n) (xs := ns.map .int) (as := as) (I.ok.hd hc) ht ra (alike_ints (n :: ns)) ?_ fun i v h' tk bs hi rd hk => ?_
    · have := deepInts (n :: ns)
      show X.A.units + 1 + PyData.depthAll ((n :: ns).map PyData.int) < cLine
      rw [this]
      omega
    · rw [PySem.W.minD_ints] at rd
      cases rd with
      | int i t =>
        obtain ⟨h1, h2⟩ := foldl_min n ns
        exact ⟨.int _, H, I.kept hk, ⟨_, rfl⟩, q _ h1 h2⟩
def opMinT : Cb := fun rs Q => match rs with
  | [x] => match x.D with
    | some (.tuple l) => ∃ ns : List Int, l = ns.map .int ∧ 0 < ns.length ∧ ∀ m, m ∈ ns → (∀ y ∈ ns, m ≤ y) → Q (.im (.int m))
    | _ => False
  | _ => False
theorem de_minT (hc : X.calm = true) (hu : X.A.units + 65 < cLine) (hg : Gl X "min") (hm : X.mg "min" = none) (ha : DAs Z X (e :: es) das) (he : starEach (e :: es) X.env = (false, eval e X.env) :: starEach es X.env := by rfl) (hpl : (backTo pos (starEach es X.env)).any (·.1) = false := by rfl) : DE Z X (.Call (.Name "min" p) (e :: es) [] pos) (dCB opMinT das) := by
  refine PE.of (pe_callB (cr_minT hc hu) hg hm (by decide +kernel) ha (by decide) (by decide) he hpl) fun σ H Q h => lift_cb ?_ h
  intro Z B0 ρ s H0 σ Ha H vs xs Qd Q R rr q k
  unfold opMinT at q
  split at q
  · obtain ⟨v, rfl, r1⟩ := rr.one
    split at q
    · rename_i l e1
      obtain ⟨ns, rfl, hn, q⟩ := q
      obtain ⟨a, ys, rfl, h1, h2⟩ := r1.tup (K := X.K) e1
      rw [nums_of h2] at h1
      exact ⟨a, ns, rfl, h1, hn, fun m hm up => k _ _ _ (q m hm up) (Same.refl H) (Im.int _)⟩
    · exact q.elim
  · exact q.elim
end
end Lf
namespace Lf
open PySem PySem.Spec PyProof.Rows L2
/-! ### a, b = xs, xs a local list -/
section
variable {Z : Zn} {X : Cx} {pos : Pos} {k : Nat}
def dAsgL (i : Nat) (is : List Nat) : DSt Z := fun De s ρ => match ρ[i]? with
  | some (.ow _ l) => gNs is l ρ fun ρ' => De.nx s ρ'
  | _ => False
theorem ds_asgL {es : List Expr} {is : List Nat} {i : Nat} {n : Str} {np tp : Pos} (hNi : X.N[i]? = some n) (hv : Vis X.env.scope n) (hc : X.calm = true) (hN : X.N.Nodup) (h : Nms X es is) (hd : (n == ("__debug__" : Str)) = false := by decide) (hcd : (n == ("__classdict__" : Str)) = false := by decide) (hn : (assignEach es X.env).length = is.length := by rfl) (hst : (assignEach es X.env).findIdx? (·.1) = none := by rfl)
    (hs : swapsWithSole [.Tuple es k tp] (.Name n np) pos.line X.env = pure false := by rfl) (hw : swappedStores [.Tuple es k tp] (.Name n np) X.env = pure none := by rfl) (h1 : (assignEach [.Tuple es k tp] X.env).map (·.2) = [assign (.Tuple es k tp) X.env] := by rfl) : DS Z X (.Assign [.Tuple es k tp] (.Name n np) pos) (dAsgL i is) := by
  refine PS.of (ps_asg (pe_var hNi hv hd hcd) (pg_lst (n := is.length) hc (h.pgs hN) hn hst) hs hw h1) fun D σ H ⟨B0, H0, ρ, s, De, R, hd, hn, _⟩ => ?_
  unfold dAsgL at hd
  split at hd
  · rename_i q l e1
    obtain ⟨o, h2, rfl, xs, h3, h4⟩ := R.sl i _ e1
    refine ⟨.ref q, h2, q, xs, rfl, SqL.of h3, by rw [h4.length]; exact gNs_len hd, nms_ok R h4 hd fun ρ' σ' q' R' ho => ?_⟩
    exact hn s ρ' σ' H q' R' ⟨fun _ _ e _ => e, fun _ _ e => e, fun _ _ _ e => e, fun a ha => .inl (ho a ha)⟩
  · exact hd.elim
end
end Lf
namespace Lf
open PySem PySem.Spec PyProof.Rows L2
/-! ### a, b, c = x, y, z -/
section
variable {Z : Zn} {X : Cx} {B0 B1 : Addr → Prop} {H0 H H1 H2 : Hp} {ρ ρ' : List Sl} {s s1 s2 : Z.S} {σ σ' : L2.St} {v : V} {r : Rv} {da db dc : DX Z} {pos : Pos}
def slOf : Rv → Addr → Sl
  | .im d, _ => .im d
  | .fr l, p => .ow p l
  | .rw v, _ => .raw v
  | .bo _, _ => .no
theorem stR_at {i : Nat} {Q : List Sl → Prop} (q : stR r i ρ Q) (p : Addr) : Q (ρ.set i (slOf r p)) := by
  cases r with
  | im d => exact q
  | fr l => exact q p
  | rw u => exact q
  | bo l => exact q.elim
theorem pend {k : Nat} (R : Rel Z B1 H0 ρ s σ H) (R' : Rel Z B0 H0 ρ' s σ' H) (hB : ∀ a, Bad Z B0 ρ' a → Bad Z B1 ρ a) (R2 : Rel Z B1 H0 ρ s2 σ H2) (g : Gr Z H H2) (rr : RvR Z B1 ρ H H2 v r) (hb : ∀ l, r ≠ .bo l) :
    ∃ (B2 : Addr → Prop) (p : Addr), Rel Z B2 H0 ρ s2 σ H2 ∧ Rel Z B0 H0 (ρ'.set k (slOf r p)) s2 (σ'.set k (some v)) H2 ∧ (∀ a, Bad Z B0 (ρ'.set k (slOf r p)) a → Bad Z B2 ρ a) ∧ Stp Z B0 ρ' H (ρ'.set k (slOf r p)) H2 := by
  have rr' := rv_set hB hb rr
  have R3 := R'.grow R2.ok g
  have st := g.stp R'
  cases r with
  | im d => exact ⟨B1, 0, R2, R3.put rfl ⟨v, rfl, rr'⟩, fun a z => hB a (bad_set rfl z), st.keep, st.tups, st.frzs, fun a ha => (mem_own_set ha).elim .inl fun y => by cases y⟩
  | rw u => exact ⟨B1, 0, R2, R3.put rfl (by cases (show v = u from rr'); rfl), fun a z => hB a (bad_set rfl z), st.keep, st.tups, st.frzs, fun a ha => (mem_own_set ha).elim .inl fun y => by cases y⟩
  | bo l => exact absurd rfl (hb l)
  | fr l =>
    obtain ⟨p, xs, rfl, h1, h2, h3, h4⟩ := rr'
    refine ⟨fun a => B1 a ∨ a = p, p, R.more R2.ok g h1 (by rw [h3]; exact fun z => nomatch z), R'.putO R2.ok g h1 h3 h4, fun a z => ?_, st.keep, st.tups, st.frzs, fun a ha => (mem_own_set ha).elim .inl fun y => by cases y; exact .inr h1⟩
    have up : ∀ b, Bad Z B1 ρ b → Bad Z (fun a => B1 a ∨ a = p) ρ b := fun b z => z.imp id fun z => z.imp .inl id
    rcases z with z | z | z
    · exact .inl z
    · exact up a (hB a (.inr (.inl z)))
    · rcases mem_own_set z with z | z
      · exact up a (hB a (.inr (.inr z)))
      · cases z; exact .inr (.inl (.inr rfl))
def dPar3 (i j k : Nat) (da db dc : DX Z) : DSt Z := fun De s ρ => da s ρ fun x s1 => db s1 ρ fun y s2 => dc s2 ρ fun z s3 => stR x i ρ fun ρ1 => stR y j ρ1 fun ρ2 => stR z k ρ2 fun ρ3 => De.nx s3 ρ3
theorem isBo_no (r : Rv) : (∀ l, r ≠ .bo l) ∨ ∃ l, r = .bo l := by
  cases r with
  | bo l => exact .inr ⟨l, rfl⟩
  | _ => exact .inl fun l e => nomatch e
theorem par3_ok {i j k : Nat} {D : Ends} {σ : L2.St} {H : Hp} (h : liftS Z (dPar3 i j k da db dc) D σ H) : liftE Z da σ H fun v H1 => liftE Z db σ H1 fun w H2 => liftE Z dc σ H2 fun u H3 => D.nx (((σ.set i (some v)).set j (some w)).set k (some u)) H3 := by
  obtain ⟨B0, H0, ρ, s, De, R, hd, hn, _⟩ := h
  refine ⟨B0, H0, ρ, s, _, R, hd, fun x s1 v H1 qx R1 g1 r1 => ?_⟩
  rcases isBo_no x with hx | ⟨l, rfl⟩
  · obtain ⟨B2, p, Ra, Rb, hB, st1⟩ := pend (k := i) R R (fun a z => z) R1 g1 r1 hx
    refine ⟨B2, H0, ρ, s1, _, Ra, qx, fun y s2 w H2 qy R2 g2 r2 => ?_⟩
    rcases isBo_no y with hy | ⟨l, rfl⟩
    · obtain ⟨B3, p3, Rc, Rd, hB3, st2⟩ := pend (k := j) Ra Rb hB R2 g2 r2 hy
      refine ⟨B3, H0, ρ, s2, _, Rc, qy, fun z s3 u H3 qz R3 g3 r3 => ?_⟩
      have q1 := stR_at qz p
      have q2 := stR_at q1 p3
      rcases isBo_no z with hz | ⟨l, rfl⟩
      · obtain ⟨B4, p4, Re, Rf, hB4, st3⟩ := pend (k := k) Rc Rd hB3 R3 g3 r3 hz
        exact hn s3 _ _ H3 (stR_at q2 p4) Rf ((st1.trans Rb st2).trans Rd st3)
      · exact q2.elim
    · exact ⟨B2, H0, ρ, s2, _, R2, qy, fun z s3 u H3 qz R3 g3 r3 => (stR_at qz p : False).elim⟩
  · exact ⟨B0, H0, ρ, s1, _, R1, qx, fun y s2 w H2 qy R2 g2 r2 => ⟨B0, H0, ρ, s2, _, R2, qy, fun z s3 u H3 qz R3 g3 r3 => (show False from qz).elim⟩⟩
theorem ds_par3 {i j k : Nat} {n1 n2 n3 : Str} {px py pz pt : Pos} {kt k2 pt2} {a b c : Expr} (hc : X.calm = true) (hN : X.N.Nodup) (hi : X.N[i]? = some n1) (hj : X.N[j]? = some n2) (hk : X.N[k]? = some n3) (hx : Loc X.env.scope n1) (hy : Loc X.env.scope n2) (hz : Loc X.env.scope n3) (ha : DE Z X a da) (hb : DE Z X b db) (hcc : DE Z X c dc)
    (hs : swapsWithSole [.Tuple [.Name n1 px, .Name n2 py, .Name n3 pz] kt pt] (.Tuple [a, b, c] k2 pt2) pos.line X.env = pure false := by rfl) (hw : swappedStores [.Tuple [.Name n1 px, .Name n2 py, .Name n3 pz] kt pt] (.Tuple [a, b, c] k2 pt2) X.env = pure none := by rfl) (h1 : (assignEach [.Tuple [.Name n1 px, .Name n2 py, .Name n3 pz] kt pt] X.env).map (·.2) = [assign (.Tuple [.Name n1 px, .Name n2 py, .Name n3 pz] kt pt) X.env] := by rfl)
    (s1 : starEach [a, b, c] X.env = (false, eval a X.env) :: starEach [b, c] X.env := by rfl) (s2 : starEach [b, c] X.env = (false, eval b X.env) :: starEach [c] X.env := by rfl) (s3 : starEach [c] X.env = (false, eval c X.env) :: starEach [] X.env := by rfl)
    (fx : X.fn n1 = true ∨ X.env.scope.names.lookup n1 = some .local := by first | exact .inl rfl | exact .inr rfl) (fy : X.fn n2 = true ∨ X.env.scope.names.lookup n2 = some .local := by first | exact .inl rfl | exact .inr rfl) (fz : X.fn n3 = true ∨ X.env.scope.names.lookup n3 = some .local := by first | exact .inl rfl | exact .inr rfl)
    (g1 : (assignEach [.Name n1 px, .Name n2 py, .Name n3 pz] X.env).map (·.2) = assign (.Name n1 px) X.env :: (assignEach [.Name n2 py, .Name n3 pz] X.env).map (·.2) := by rfl) (g2 : (assignEach [.Name n2 py, .Name n3 pz] X.env).map (·.2) = assign (.Name n2 py) X.env :: (assignEach [.Name n3 pz] X.env).map (·.2) := by rfl) (g3 : (assignEach [.Name n3 pz] X.env).map (·.2) = assign (.Name n3 pz) X.env :: (assignEach [] X.env).map (·.2) := by rfl)
    (gl : (assignEach [.Name n1 px, .Name n2 py, .Name n3 pz] X.env).length = 3 := by rfl) (gf : (assignEach [.Name n1 px, .Name n2 py, .Name n3 pz] X.env).findIdx? (·.1) = none := by rfl) :
    DS Z X (.Assign [.Tuple [.Name n1 px, .Name n2 py, .Name n3 pz] kt pt] (.Tuple [a, b, c] k2 pt2) pos) (dPar3 i j k da db dc) := by
  refine PS.of (ps_asg (pe_tup (pa_cons ha (pa_cons hb (pa_cons hcc pa_nil s3) s2) s1)) (pg_tup hc (pgs_cons (pg_name hN hi hx fx) (pgs_cons (pg_name hN hj hy fy) (pgs_cons (pg_name hN hk hz fz) pgs_nil g3) g2) g1) gl gf) hs hw h1) fun D σ H h => ?_
  have h' : liftS Z (dPar3 i j k da db dc) { D with nx := fun σ' H' => ∀ p xs, H' p = none → D.nx σ' (upd H' p (.tup xs)) } σ H := by
    obtain ⟨B0, H0, ρ, s, De, R, hd, hn, hr⟩ := h
    refine ⟨B0, H0, ρ, s, De, R, hd, fun s' ρ' σ' H' q R' st p xs hp => ?_, hr⟩
    have sm := same_new (o := .tup xs) hp
    exact hn s' ρ' σ' _ q (R'.same sm) (st.trans R' ((Gr.of sm).stp R'))
  obtain ⟨B0, H0, ρ, s, Qd, R, hd, hq⟩ := par3_ok h'
  refine ⟨B0, H0, ρ, s, Qd, R, hd, fun r s' v H' q R' g rr => ?_⟩
  obtain ⟨B1, H1, ρ1, s1, Q1, R1, hd1, hq1⟩ := hq r s' v H' q R' g rr
  refine ⟨B1, H1, ρ1, s1, Q1, R1, hd1, fun r2 s2 w H2 q2 R2 g2 rr2 => ?_⟩
  obtain ⟨B2, H3, ρ2, s3, Q2, R3, hd2, hq2⟩ := hq1 r2 s2 w H2 q2 R2 g2 rr2
  refine ⟨B2, H3, ρ2, s3, Q2, R3, hd2, fun r3 s4 u H4 q3 R4 g4 rr3 => ⟨by show 3 ≤ sizeLine; decide, fun p hp => ⟨p, [v, w, u], rfl, SqT.of upd_same, rfl, v, [w, u], rfl, w, [u], rfl, u, [], rfl, rfl, ?_⟩⟩⟩
  exact hq2 r3 s4 u H4 q3 R4 g4 rr3 p [v, w, u] hp
end
end Lf
namespace Lf
open PySem PySem.Spec PyProof.Rows L2
/-! ### own objects of any kind; own dicts -/
theorem viaP {α : Type} {M : α → Prop} {G : α → Prop} {C : Prop} (main : (∀ o, M o → G o) → C) (fin : ∀ o, M o → G o) : C := main fin
theorem viaR {Z : Zn} {M : Nat → Prop} {t : DSt Z} {De : DEnds Z} {s : Z.S} (R : Nat → List Sl) {C : Prop} (main : (∀ o, M o → t De s (R o)) → C) (fin : ∀ o, M o → t De s (R o)) : C := main fin
section
variable {Z : Zn} {X : Cx} {B0 B1 B B' : Addr → Prop} {H0 H H' H1 H2 : Hp} {ρ ρ' : List Sl} {s s1 s2 : Z.S} {σ σ' : L2.St} {v : V} {r : Rv} {da db dc dk de : DX Z} {e k : Expr} {pos : Pos}
theorem SlR.move {y : Sl} {o : Option V} (kl : ∀ b o, H b = some o → ¬ B b → H' b = some o ∧ ¬ B' b) (kt : ∀ b xs, H b = some (.tup xs) → H' b = some (.tup xs)) (kf : ∀ b o u, H b = some (.frz o u) → H' b = some (.frz o u)) (ko : ∀ a ob, ownOf y = some a → H a = some ob → H' a = some ob) (h : SlR B H y o) : SlR B' H' y o := by
  cases y with
  | no => trivial
  | im d =>
    obtain ⟨w, h3, h4⟩ := h
    exact ⟨w, h3, h4.mono kl kt kf⟩
  | ow a m =>
    obtain ⟨h3, ys, h4, h5⟩ := h
    exact ⟨h3, ys, ko a _ rfl h4, h5.mono kl kt kf⟩
  | od a m =>
    obtain ⟨h3, ys, h4, h5⟩ := h
    exact ⟨h3, ys, ko a _ rfl h4, h5.mono kl kt kf⟩
  | ot a m =>
    obtain ⟨h3, ys, h4, h5⟩ := h
    exact ⟨h3, ys, ko a _ rfl h4, h5.mono kl kt kf⟩
  | raw w => exact h
theorem SlR.ref {x : Sl} {o : Option V} {q : Addr} (h : SlR B H x o) (hx : ownOf x = some q) : o = some (.ref q) := by
  cases x with
  | no => cases hx
  | im d => cases hx
  | raw w => cases hx
  | ow a m => cases hx; exact h.1
  | od a m => cases hx; exact h.1
  | ot a m => cases hx; exact h.1
/-- a new owned object -/
theorem Rel.putG (R : Rel Z B0 H0 ρ s σ H) {i : Nat} {q : Addr} {o : HO} {x : Sl} (hq : H q = none) (hx : ownOf x = some q) (h : SlR (fun a => Bad Z B0 ρ a ∨ a = q) (upd H q o) x (some (.ref q))) : Rel Z B0 H0 (ρ.set i x) s (σ.set i (some (.ref q))) (upd H q o) := by
  have nz : ¬ Z.at_ q := fun z => Z.trk R.ok z hq
  have nb : ¬ B0 q := fun z => R.btr q z hq
  have no : q ∉ own ρ := fun z => R.otr z hq
  have sm := same_new (o := o) hq
  have R1 := R.same sm
  have hB : ∀ a, Bad Z B0 (ρ.set i x) a → Bad Z B0 ρ a ∨ a = q := fun a z => by
    rcases z with z | z | z
    · exact .inl (.inl z)
    · exact .inl (.inr (.inl z))
    · rcases mem_own_set z with z | z
      · exact .inl (.inr (.inr z))
      · rw [hx] at z; cases z; exact .inr rfl
  refine ⟨R1.ok, by rw [List.length_set, List.length_set]; exact R.len, fun j y e => ?_, nodup_own_set R.nd (fun a z => by rw [hx] at z; cases z; exact no), fun a ha => ?_, R1.btr, R1.frm⟩
  · rcases set_get e with ⟨rfl, rfl⟩ | ⟨ne, e⟩
    · have hi : i < σ.length := by
        rw [R.len]
        rcases Nat.lt_or_ge i ρ.length with z | z
        · exact z
        · rw [List.getElem?_eq_none (by rw [List.length_set]; exact z)] at e; cases e
      exact ⟨_, by rw [List.getElem?_set_self hi], h.bad hB⟩
    · obtain ⟨o', h1, h2⟩ := R.sl j y e
      refine ⟨o', by rw [List.getElem?_set_ne ne]; exact h1, ?_⟩
      refine h2.move (fun b o e n => ⟨sm b o e, fun z => (hB b z).elim n fun z => by subst z; rw [hq] at e; cases e⟩) (fun b ys e => sm b _ e) (fun b o u e => sm b _ e) (fun a ob _ e => sm a _ e)
  · rcases mem_own_set ha with z | z
    · exact R.fr a z
    · rw [hx] at z
      cases z
      exact ⟨R.h0 hq, nz, nb⟩
theorem own_setG : ∀ {ρ : List Sl} {i : Nat} {x x' : Sl} {q : Addr}, ρ[i]? = some x → ownOf x = some q → ownOf x' = some q → own (ρ.set i x') = own ρ
  | [], _, _, _, _, h, _, _ => by cases h
  | y :: ρ, 0, x, x', q, h, h1, h2 => by
    cases h
    rw [List.set_cons_zero, own_cons, own_cons, h1, h2]
  | y :: ρ, i + 1, x, x', q, h, h1, h2 => by
    rw [List.set_cons_succ, own_cons, own_cons, own_setG (i := i) h h1 h2]
theorem own_injG : ∀ {ρ : List Sl} {i j : Nat} {x y : Sl} {q : Addr}, (own ρ).Nodup → ρ[i]? = some x → ownOf x = some q → ρ[j]? = some y → ownOf y = some q → i = j
  | [], _, _, _, _, _, _, h, _, _, _ => by cases h
  | z :: ρ, i, j, x, y, q, nd, h1, hx, h2, hy => by
    rw [own_cons] at nd
    obtain ⟨n1, n2, n3⟩ := List.nodup_append.mp nd
    cases i with
    | zero =>
      cases j with
      | zero => rfl
      | succ j =>
        cases h1
        exact absurd rfl (n3 q (by rw [hx]; simp) q (own_memG (i := j) h2 hy))
    | succ i =>
      cases j with
      | zero =>
        cases h2
        exact absurd rfl (n3 q (by rw [hy]; simp) q (own_memG (i := i) h1 hx))
      | succ j => rw [own_injG n2 (i := i) (j := j) h1 hx h2 hy]
theorem keepG (R : Rel Z B0 H0 ρ s σ H) {i : Nat} {q : Addr} {o : HO} {x : Sl} (hi : ρ[i]? = some x) (hx : ownOf x = some q) : (∀ b ob, H b = some ob → ¬ Bad Z B0 ρ b → upd H q o b = some ob ∧ ¬ Bad Z B0 ρ b) ∧ (∀ b ys, H b = some (.tup ys) → upd H q o b = some (.tup ys)) ∧ (∀ b ob u, H b = some (.frz ob u) → upd H q o b = some (.frz ob u)) := by
  have mq := own_memG hi hx
  obtain ⟨ob, hob, n1, n2⟩ := R.ob hi hx
  exact ⟨fun b ob e n => ⟨by rw [upd_ne (fun z => n (by rw [z]; exact .inr (.inr mq)))]; exact e, n⟩, fun b ys e => by rw [upd_ne (fun z => by rw [z, hob] at e; exact n1 _ (Option.some.inj e))]; exact e, fun b ou u e => by rw [upd_ne (fun z => by rw [z, hob] at e; exact n2 _ _ (Option.some.inj e))]; exact e⟩
/-- an owned object is changed -/
theorem Rel.mutG (R : Rel Z B0 H0 ρ s σ H) {i : Nat} {q : Addr} {o : HO} {x x' : Sl} (hi : ρ[i]? = some x) (hx : ownOf x = some q) (hx' : ownOf x' = some q) (h : SlR (Bad Z B0 ρ) (upd H q o) x' (some (.ref q))) : Rel Z B0 H0 (ρ.set i x') s σ (upd H q o) := by
  have mq := own_memG hi hx
  obtain ⟨f1, f2, f3⟩ := R.fr q mq
  obtain ⟨o0, s0, e0⟩ := R.sl i _ hi
  have e0 := e0.ref hx
  subst e0
  have eo : own (ρ.set i x') = own ρ := own_setG hi hx hx'
  have eB : ∀ a, Bad Z B0 (ρ.set i x') a ↔ Bad Z B0 ρ a := fun a => by unfold Bad; rw [eo]
  obtain ⟨kl, kt, kf⟩ := keepG (o := o) R hi hx
  refine ⟨Z.st R.ok (fun b o z e => by rw [upd_ne (fun y => f2 (by rw [← y]; exact z))]; exact e) kt kf (fun b u e => by rw [upd_ne (fun z => R.nx hi hx u (by rw [← z]; exact e))]; exact e), by rw [List.length_set]; exact R.len, fun j y e => ?_, by rw [eo]; exact R.nd, fun a ha => by rw [eo] at ha; exact R.fr a ha, fun a ha z => ?_, fun b o e n => ?_⟩
  · rcases set_get e with ⟨rfl, rfl⟩ | ⟨ne, e9⟩
    · exact ⟨_, s0, h.bad fun a z => (eB a).mp z⟩
    · obtain ⟨o', h1, h2⟩ := R.sl j y e9
      refine ⟨o', h1, h2.move (fun b ob e n => ⟨(kl b ob e n).1, fun z => n ((eB b).mp z)⟩) kt kf fun a ob hy e => ?_⟩
      rw [upd_ne (fun z => by subst z; exact ne (own_injG R.nd hi hx e9 hy))]
      exact e
  · by_cases y : a = q
    · exact f3 (by rw [← y]; exact ha)
    · rw [upd_ne y] at z
      exact R.btr a ha z
  · rw [upd_ne (fun z => by rw [z, f1] at e; cases e)]
    exact R.frm b o e n
theorem mut_stpG (R : Rel Z B0 H0 ρ s σ H) {i : Nat} {q : Addr} {o : HO} {x x' : Sl} (hi : ρ[i]? = some x) (hx : ownOf x = some q) (hx' : ownOf x' = some q) : Stp Z B0 ρ H (ρ.set i x') (upd H q o) := by
  obtain ⟨kl, kt, kf⟩ := keepG (o := o) R hi hx
  refine ⟨fun b o e n => (kl b o e n).1, kt, kf, fun a ha => .inl ?_⟩
  rw [own_setG hi hx hx'] at ha
  exact ha
/-! ### the entries of a dict, as data -/
section
variable {κ : Type} [DecidableEq κ]
def valD (es : List (κ × PyData)) (k : κ) : Option PyData := (es.find? fun kv => decide (kv.1 = k)).map (·.2)
def putD (es : List (κ × PyData)) (k : κ) (d : PyData) : List (κ × PyData) :=
  if (es.any fun kv => decide (kv.1 = k)) = true then es.map (fun kv => if kv.1 = k then (kv.1, d) else kv) else es ++ [(k, d)]
theorem ImPs.length : ∀ {kvs : List (κ × V)} {es : List (κ × PyData)}, ImPs B H kvs es → kvs.length = es.length
  | _, _, .nil => rfl
  | _, _, .cons _ q => congrArg (· + 1) q.length
theorem ImPs.val {k : κ} : ∀ {kvs : List (κ × V)} {es : List (κ × PyData)}, ImPs B H kvs es → (valD es k = none ∧ valV kvs k = none) ∨ ∃ d v, valD es k = some d ∧ valV kvs k = some v ∧ Im B H v d
  | _, _, .nil => .inl ⟨rfl, rfl⟩
  | _, _, .cons (k := j) (v := v) (d := d) (r := r) (es := es) h q => by
    by_cases z : j = k
    · exact .inr ⟨d, v, by simp [valD, List.find?_cons, z], by simp [valV, List.find?_cons, z], h⟩
    · have e1 : valD ((j, d) :: es) k = valD es k := by simp [valD, List.find?_cons, z]
      have e2 : valV ((j, v) :: r) k = valV r k := by simp [valV, List.find?_cons, z]
      rw [e1, e2]
      exact q.val
theorem ImPs.anyk {k : κ} : ∀ {kvs : List (κ × V)} {es : List (κ × PyData)}, ImPs B H kvs es → (kvs.any fun kv => decide (kv.1 = k)) = (es.any fun kv => decide (kv.1 = k))
  | _, _, .nil => rfl
  | _, _, .cons h q => by rw [List.any_cons, List.any_cons, q.anyk]
theorem ImPs.mapk {k : κ} {v : V} {d : PyData} (hv : Im B H v d) : ∀ {kvs : List (κ × V)} {es : List (κ × PyData)}, ImPs B H kvs es → ImPs B H (kvs.map fun kv => if kv.1 = k then (kv.1, v) else kv) (es.map fun kv => if kv.1 = k then (kv.1, d) else kv)
  | _, _, .nil => .nil
  | _, _, .cons (k := j) h q => by
    rw [List.map_cons, List.map_cons]
    by_cases z : j = k
    · rw [if_pos z, if_pos z]
      exact .cons hv (q.mapk hv)
    · rw [if_neg z, if_neg z]
      exact .cons h (q.mapk hv)
theorem ImPs.snoc {k : κ} {v : V} {d : PyData} (hv : Im B H v d) : ∀ {kvs : List (κ × V)} {es : List (κ × PyData)}, ImPs B H kvs es → ImPs B H (kvs ++ [(k, v)]) (es ++ [(k, d)])
  | _, _, .nil => .cons hv .nil
  | _, _, .cons h q => .cons h (q.snoc hv)
theorem ImPs.put {k : κ} {v : V} {d : PyData} {kvs : List (κ × V)} {es : List (κ × PyData)} (q : ImPs B H kvs es) (hv : Im B H v d) : ImPs B H (putK kvs k v) (putD es k d) := by
  unfold putK putD
  rw [q.anyk]
  split
  · exact q.mapk hv
  · exact q.snoc hv
theorem putD_len (es : List (κ × PyData)) (k : κ) (d : PyData) : (putD es k d).length ≤ es.length + 1 := by
  unfold putD
  split
  · rw [List.length_map]; omega
  · rw [List.length_append]; exact Nat.le_refl _
theorem valD_put (es : List (κ × PyData)) (k j : κ) (d : PyData) : valD (putD es k d) j = if j = k then some d else valD es j := by
  have hmap : ∀ es : List (κ × PyData), valD (es.map fun kv => if kv.1 = k then (kv.1, d) else kv) j = if j = k then (if (es.any fun kv => decide (kv.1 = k)) = true then some d else none) else valD es j := fun es => by
    induction es with
    | nil => split <;> rfl
    | cons p es ih =>
      obtain ⟨a, b⟩ := p
      rw [List.map_cons]
      by_cases z : a = k
      · by_cases y : j = k
        · subst z; subst y
          simp [valD]
        · have : ¬ a = j := fun w => y (by rw [← w, z])
          rw [if_pos z, if_neg y]
          rw [if_neg y] at ih
          have e1 : valD ((a, d) :: (es.map fun kv => if kv.1 = k then (kv.1, d) else kv)) j = valD (es.map fun kv => if kv.1 = k then (kv.1, d) else kv) j := by simp [valD, List.find?_cons, this]
          have e2 : valD ((a, b) :: es) j = valD es j := by simp [valD, List.find?_cons, this]
          rw [e1, e2, ih]
      · rw [if_neg z]
        by_cases w : a = j
        · have y : ¬ j = k := fun y => z (by rw [w, y])
          rw [if_neg y]
          simp [valD, List.find?_cons, w]
        · have e1 : valD ((a, b) :: (es.map fun kv => if kv.1 = k then (kv.1, d) else kv)) j = valD (es.map fun kv => if kv.1 = k then (kv.1, d) else kv) j := by simp [valD, List.find?_cons, w]
          have e2 : valD ((a, b) :: es) j = valD es j := by simp [valD, List.find?_cons, w]
          rw [e1, e2, ih, List.any_cons, decide_eq_false z, Bool.false_or]
  unfold putD
  split
  · next h =>
    rw [hmap es, if_pos h]
  · next h =>
    have hno : ∀ p ∈ es, ¬ p.1 = k := fun p hp z => h (List.any_eq_true.mpr ⟨p, hp, decide_eq_true z⟩)
    unfold valD
    rw [List.find?_append]
    by_cases y : j = k
    · subst y
      rw [List.find?_eq_none.mpr (fun p hp => by simpa using hno p hp)]
      simp
    · rw [if_neg y]
      have : ¬ k = j := fun w => y w.symm
      simp [this]
end
/-! ### x = {}; x[k] = e; x[k]; k in x -/
def keyOf : PyData → Option Key
  | .int i => some (.inl i)
  | .str z => some (.inr z)
  | _ => none
theorem RvR.key {d : PyData} {key : Key} (h : RvR Z B0 ρ H H1 v r) (e : r.D = some d) (ek : keyOf d = some key) : v = kV key := by
  cases d with
  | int i => cases ek; exact h.vI e
  | str i => cases ek; exact h.vS e
  | _ => cases ek
def dNewD (i : Nat) : DSt Z := fun De s ρ => ∀ a, De.nx s (ρ.set i (.od a []))
theorem ds_newD {i : Nat} {n : Str} {pos' dpos : Pos} (hNd : X.N.Nodup) (hj : X.N[i]? = some n) (hx : Loc X.env.scope n) (hsw : swapsWith (.Dict [] [] dpos) (some (.Name n pos')) pos.line X.env = pure false := by rfl) (hf : X.fn n = true ∨ X.env.scope.names.lookup n = some .local := by first | exact .inl rfl | exact .inr rfl | assumption) :
    DS Z X (.Assign [.Name n pos'] (.Dict [] [] dpos) pos) (dNewD i) := by
  refine PS.of (ps_set hNd hj hx pe_dnewK hsw hf) fun D σ H ⟨B0, H0, ρ, s, De, R, hd, hn, _⟩ => ?_
  intro p hp
  have st := (Gr.of (Z := Z) (same_new (o := .dK []) hp)).stp R
  refine hn s _ _ _ (hd p) (R.putG hp rfl ⟨rfl, [], upd_same, .nil⟩) ⟨st.keep, st.tups, st.frzs, fun a ha => (mem_own_set ha).elim .inl fun y => by cases y; exact .inr hp⟩
def dPutD (i : Nat) (dk de : DX Z) : DSt Z := fun De s ρ => match ρ[i]? with
  | some (.od q es) => de s ρ fun r s1 => dk s1 ρ fun k s2 => ∃ d kd key, r.st = some d ∧ k.D = some kd ∧ keyOf kd = some key ∧ es.length < 1000000 ∧ De.nx s2 (ρ.set i (.od q (putD es key d)))
  | _ => False
theorem ds_putD {i : Nat} {n : Str} {np ps : Pos} (hu : X.A.units + 65 < cLine) (hN : X.N[i]? = some n) (hv : Vis X.env.scope n) (hk : DE Z X k dk) (he : DE Z X e de) (hd : (n == ("__debug__" : Str)) = false := by decide) (hcd : (n == ("__classdict__" : Str)) = false := by decide)
    (hs : swapsWith e (some (.Subscript (.Name n np) k ps)) pos.line X.env = pure false := by rfl) : DS Z X (.Assign [.Subscript (.Name n np) k ps] e pos) (dPutD i dk de) := by
  refine PS.of (ps_dput (by omega) (pe_var hN hv hd hcd) hk he hs) fun D σ H ⟨B0, H0, ρ, s, De, R, hd, hn, _⟩ => ?_
  unfold dPutD at hd
  split at hd
  · rename_i q es e1
    refine ⟨B0, H0, ρ, s, _, R, hd, fun r s1 v H1 qx R1 g1 r1 => ?_⟩
    obtain ⟨o, s0, rfl, kvs, hq, im⟩ := R1.sl i _ e1
    refine ⟨.ref q, s0, B0, H0, ρ, s1, _, R1, qx, fun y s2 w H2 qk R2 g2 r2 => ?_⟩
    obtain ⟨d, kd, key, h1, h2, h3, h4, qn⟩ := qk
    obtain ⟨_, _, _, kvs2, hq2, im2⟩ := R2.sl i _ e1
    have iv := RvR.st R (r1.grow R1 g2) h1
    refine ⟨q, upd H2 q (.dK (putK kvs2 key v)), rfl, ?_, ?_⟩
    · rw [r2.key h2 h3]
      exact DPut.k hq2 (by rw [im2.length]; exact smL h4)
    · obtain ⟨kl, kt, kf⟩ := keepG (o := .dK (putK kvs2 key v)) R2 e1 rfl
      exact hn s2 _ σ _ qn (R2.mutG e1 rfl rfl ⟨rfl, _, upd_same, (im2.put iv).mono kl kt kf⟩) ((g1.stp R).trans R1 ((g2.stp R1).trans R2 (mut_stpG R2 e1 rfl rfl)))
  · exact hd.elim
def dGetD (i : Nat) (dk : DX Z) : DX Z := fun s ρ Q => match ρ[i]? with
  | some (.od q es) => dk s ρ fun k s1 => ∃ kd key d, k.D = some kd ∧ keyOf kd = some key ∧ valD es key = some d ∧ Q (.im d) s1
  | _ => False
theorem de_getD {i : Nat} {n : Str} {np : Pos} (hu : X.A.units + 65 < cLine) (hN : X.N[i]? = some n) (hv : Vis X.env.scope n) (hk : DE Z X k dk) (hs : NoSl k := by intro _ _; rfl) (hd : (n == ("__debug__" : Str)) = false := by decide) (hcd : (n == ("__classdict__" : Str)) = false := by decide) : DE Z X (.Subscript (.Name n np) k pos) (dGetD i dk) := by
  refine PE.of (pe_dget (by omega) (pe_var hN hv hd hcd) hk hs) fun σ H Q ⟨B0, H0, ρ, s, Qd, R, hd, hq⟩ => ?_
  unfold dGetD at hd
  split at hd
  · rename_i q es e1
    obtain ⟨o, s0, rfl, kvs, hq0, im⟩ := R.sl i _ e1
    refine ⟨.ref q, s0, B0, H0, ρ, s, _, R, hd, fun y s1 w H1 qk R1 g1 r1 => ?_⟩
    obtain ⟨kd, key, d, h2, h3, h4, qn⟩ := qk
    obtain ⟨_, _, _, kvs1, hq1, im1⟩ := R1.sl i _ e1
    rcases im1.val (k := key) with ⟨z, _⟩ | ⟨d', v', z1, z2, z3⟩
    · rw [h4] at z; cases z
    · rw [h4] at z1
      cases z1
      refine ⟨q, v', rfl, ?_, hq _ s1 v' H1 qn R1 g1 z3⟩
      rw [r1.key h2 h3, ← z2]
      exact DGet.k hq1
  · exact hd.elim
def dInD (neg : Bool) (i : Nat) (dk : DX Z) : DX Z := fun s ρ Q => dk s ρ fun k s1 => match ρ[i]? with
  | some (.od q es) => ∃ kd key, k.D = some kd ∧ keyOf kd = some key ∧ Q (.im (.bool (neg != (valD es key).isSome))) s1
  | _ => False
/-! ### a, b, c = x, y, {} -/
def dPar3D (i j k : Nat) (da db : DX Z) : DSt Z := fun De s ρ => da s ρ fun x s1 => db s1 ρ fun y s2 => stR x i ρ fun ρ1 => stR y j ρ1 fun ρ2 => ∀ a, De.nx s2 (ρ2.set k (.od a []))
theorem par3D_ok {i j k : Nat} {D : Ends} {σ : L2.St} {H : Hp} (h : liftS Z (dPar3D i j k da db) D σ H) : liftE Z da σ H fun v H1 => liftE Z db σ H1 fun w H2 => ∀ u, H2 u = none → D.nx (((σ.set i (some v)).set j (some w)).set k (some (.ref u))) (upd H2 u (.dK [])) := by
  obtain ⟨B0, H0, ρ, s, De, R, hd, hn, _⟩ := h
  refine ⟨B0, H0, ρ, s, _, R, hd, fun x s1 v H1 qx R1 g1 r1 => ?_⟩
  rcases isBo_no x with hx | ⟨l, rfl⟩
  · obtain ⟨B2, p, Ra, Rb, hB, st1⟩ := pend (k := i) R R (fun a z => z) R1 g1 r1 hx
    refine ⟨B2, H0, ρ, s1, _, Ra, qx, fun y s2 w H2 qy R2 g2 r2 u hu => ?_⟩
    rcases isBo_no y with hy | ⟨l, rfl⟩
    · obtain ⟨B3, p3, Rc, Rd, hB3, st2⟩ := pend (k := j) Ra Rb hB R2 g2 r2 hy
      have q1 := stR_at qy p
      have q2 := stR_at q1 p3
      have st := (Gr.of (Z := Z) (same_new (o := .dK []) hu)).stp Rd
      exact hn s2 _ _ _ (q2 u) (Rd.putG hu rfl ⟨rfl, [], upd_same, .nil⟩) ((st1.trans Rb st2).trans Rd ⟨st.keep, st.tups, st.frzs, fun a ha => (mem_own_set ha).elim .inl fun y => by cases y; exact .inr hu⟩)
    · exact (stR_at qy p : False).elim
  · exact ⟨B0, H0, ρ, s1, _, R1, qx, fun y s2 w H2 qy R2 g2 r2 => (show False from qy).elim⟩
theorem ds_par3D {i j k : Nat} {n1 n2 n3 : Str} {px py pz pt pd : Pos} {kt k2 pt2} {a b : Expr} (hc : X.calm = true) (hN : X.N.Nodup) (hi : X.N[i]? = some n1) (hj : X.N[j]? = some n2) (hk : X.N[k]? = some n3) (hx : Loc X.env.scope n1) (hy : Loc X.env.scope n2) (hz : Loc X.env.scope n3) (ha : DE Z X a da) (hb : DE Z X b db)
    (hs : swapsWithSole [.Tuple [.Name n1 px, .Name n2 py, .Name n3 pz] kt pt] (.Tuple [a, b, .Dict [] [] pd] k2 pt2) pos.line X.env = pure false := by rfl) (hw : swappedStores [.Tuple [.Name n1 px, .Name n2 py, .Name n3 pz] kt pt] (.Tuple [a, b, .Dict [] [] pd] k2 pt2) X.env = pure none := by rfl) (h1 : (assignEach [.Tuple [.Name n1 px, .Name n2 py, .Name n3 pz] kt pt] X.env).map (·.2) = [assign (.Tuple [.Name n1 px, .Name n2 py, .Name n3 pz] kt pt) X.env] := by rfl)
    (s1 : starEach [a, b, .Dict [] [] pd] X.env = (false, eval a X.env) :: starEach [b, .Dict [] [] pd] X.env := by rfl) (s2 : starEach [b, .Dict [] [] pd] X.env = (false, eval b X.env) :: starEach [.Dict [] [] pd] X.env := by rfl) (s3 : starEach [.Dict [] [] pd] X.env = (false, eval (.Dict [] [] pd) X.env) :: starEach [] X.env := by rfl)
    (fx : X.fn n1 = true ∨ X.env.scope.names.lookup n1 = some .local := by first | exact .inl rfl | exact .inr rfl) (fy : X.fn n2 = true ∨ X.env.scope.names.lookup n2 = some .local := by first | exact .inl rfl | exact .inr rfl) (fz : X.fn n3 = true ∨ X.env.scope.names.lookup n3 = some .local := by first | exact .inl rfl | exact .inr rfl)
    (g1 : (assignEach [.Name n1 px, .Name n2 py, .Name n3 pz] X.env).map (·.2) = assign (.Name n1 px) X.env :: (assignEach [.Name n2 py, .Name n3 pz] X.env).map (·.2) := by rfl) (g2 : (assignEach [.Name n2 py, .Name n3 pz] X.env).map (·.2) = assign (.Name n2 py) X.env :: (assignEach [.Name n3 pz] X.env).map (·.2) := by rfl) (g3 : (assignEach [.Name n3 pz] X.env).map (·.2) = assign (.Name n3 pz) X.env :: (assignEach [] X.env).map (·.2) := by rfl)
    (gl : (assignEach [.Name n1 px, .Name n2 py, .Name n3 pz] X.env).length = 3 := by rfl) (gf : (assignEach [.Name n1 px, .Name n2 py, .Name n3 pz] X.env).findIdx? (·.1) = none := by rfl) :
    DS Z X (.Assign [.Tuple [.Name n1 px, .Name n2 py, .Name n3 pz] kt pt] (.Tuple [a, b, .Dict [] [] pd] k2 pt2) pos) (dPar3D i j k da db) := by
  refine PS.of (ps_asg (pe_tup (pa_cons ha (pa_cons hb (pa_cons pe_dnewK pa_nil s3) s2) s1)) (pg_tup hc (pgs_cons (pg_name hN hi hx fx) (pgs_cons (pg_name hN hj hy fy) (pgs_cons (pg_name hN hk hz fz) pgs_nil g3) g2) g1) gl gf) hs hw h1) fun D σ H h => ?_
  have h' : liftS Z (dPar3D i j k da db) { D with nx := fun σ' H' => ∀ p xs, H' p = none → D.nx σ' (upd H' p (.tup xs)) } σ H := by
    obtain ⟨B0, H0, ρ, s, De, R, hd, hn, hr⟩ := h
    refine ⟨B0, H0, ρ, s, De, R, hd, fun s' ρ' σ' H' q R' st p xs hp => ?_, hr⟩
    have sm := same_new (o := .tup xs) hp
    exact hn s' ρ' σ' _ q (R'.same sm) (st.trans R' ((Gr.of sm).stp R'))
  obtain ⟨B0, H0, ρ, s, Qd, R, hd, hq⟩ := par3D_ok h'
  refine ⟨B0, H0, ρ, s, Qd, R, hd, fun r s' v H' q R' g rr => ?_⟩
  obtain ⟨B1, H1, ρ1, s1, Q1, R1, hd1, hq1⟩ := hq r s' v H' q R' g rr
  refine ⟨B1, H1, ρ1, s1, Q1, R1, hd1, fun r2 s2 w H2 q2 R2 g2 rr2 u hu => ⟨by show 3 ≤ sizeLine; decide, fun p hp => ⟨p, [v, w, .ref u], rfl, SqT.of upd_same, rfl, v, [w, .ref u], rfl, w, [.ref u], rfl, .ref u, [], rfl, rfl, ?_⟩⟩⟩
  exact hq1 r2 s2 w H2 q2 R2 g2 rr2 u hu p [v, w, .ref u] hp
/-! ### xs.insert(i, xs.pop(j)) -/
def dInsPop (i : Nat) (da db : DX Z) : DSt Z := fun De s ρ => match ρ[i]? with
  | some (.ow q l) => da s ρ fun x s1 => db s1 ρ fun y s2 => match x.D, y.D with
    | some (.int n), some (.int m) => 0 ≤ n ∧ n < 1000000 ∧ 0 ≤ m ∧ m < 1000000 ∧ l.length < 1000000 ∧ ∃ d, l[m.toNat]? = some d ∧ De.nx s2 (ρ.set i (.ow q ((l.eraseIdx m.toNat).take n.toNat ++ [d] ++ (l.eraseIdx m.toNat).drop n.toNat)))
    | _, _ => False
  | _ => False
theorem ds_insPop {i : Nat} {n : Str} {a b : Expr} {np np2 ap ap2 cp cp2 : Pos} (hN : X.N[i]? = some n) (hv : Vis X.env.scope n) (ha : DE Z X a da) (hb : DE Z X b db)
    (hd : (n == ("__debug__" : Str)) = false := by decide) (hcd : (n == ("__classdict__" : Str)) = false := by decide)
    (hbase : attributeBase (.Name n np) "insert" X.env (eval (.Name n np) X.env) = eval (.Name n np) X.env := by rfl) (hbase2 : attributeBase (.Name n np2) "pop" X.env (eval (.Name n np2) X.env) = eval (.Name n np2) X.env := by rfl)
    (hfew2 : ((backTo cp2 (starEach [b] X.env)).all (fun x => !x.1) && (backToKw cp2 (keywordEach [] X.env)).all (fun x => x.1.isSome) && decide ([b].length + ([] : List Keyword).length + (if ([] : List Keyword).isEmpty then 0 else 1) < 30)) = true := by rfl)
    (hfew : ((backTo cp (starEach [a, .Call (.Attribute (.Name n np2) "pop" ap2) [b] [] cp2] X.env)).all (fun x => !x.1) && (backToKw cp (keywordEach [] X.env)).all (fun x => x.1.isSome) && decide ([a, Expr.Call (.Attribute (.Name n np2) "pop" ap2) [b] [] cp2].length + ([] : List Keyword).length + (if ([] : List Keyword).isEmpty then 0 else 1) < 30)) = true := by rfl)
    (hline : (ap.endLine == cp.line) = true := by rfl) (hline2 : (ap2.endLine == cp2.line) = true := by rfl) (hs2 : starEach [b] X.env = (false, eval b X.env) :: starEach [] X.env := by rfl)
    (hs : starEach [a, .Call (.Attribute (.Name n np2) "pop" ap2) [b] [] cp2] X.env = (false, eval a X.env) :: starEach [.Call (.Attribute (.Name n np2) "pop" ap2) [b] [] cp2] X.env := by rfl) (hs3 : starEach [.Call (.Attribute (.Name n np2) "pop" ap2) [b] [] cp2] X.env = (false, eval (.Call (.Attribute (.Name n np2) "pop" ap2) [b] [] cp2) X.env) :: starEach [] X.env := by rfl)
    (hp : (backTo cp (starEach [.Call (.Attribute (.Name n np2) "pop" ap2) [b] [] cp2] X.env)).any (·.1) = false := by rfl) (hp2 : (backTo cp2 (starEach [] X.env)).any (·.1) = false := by rfl) (hsw : swapsWith (.Call (.Attribute (.Name n np) "insert" ap) [a, .Call (.Attribute (.Name n np2) "pop" ap2) [b] [] cp2] [] cp) none pos.line X.env = pure false := by rfl) :
    DS Z X (.Expr (.Call (.Attribute (.Name n np) "insert" ap) [a, .Call (.Attribute (.Name n np2) "pop" ap2) [b] [] cp2] [] cp) pos) (dInsPop i da db) := by
  refine PS.of (ps_expr (pe_bm PySem.F.plainAttrs_list PySem.F.slot_list_insert PySem.F.type_list_insert mt_insert (pe_var hN hv hd hcd) (pa_cons ha (pa_cons (pe_bm PySem.F.plainAttrs_list PySem.F.slot_list_pop PySem.F.type_list_pop mt_popAt (pe_var hN hv hd hcd) (pa_cons hb pa_nil hs2) hbase2 hfew2 hline2 hs2 hp2) pa_nil hs3) hs) hbase hfew hline hs hp) hsw) fun D σ H ⟨B0, H0, ρ, s, De, R, hd, hn, _⟩ => ?_
  unfold dInsPop at hd
  split at hd
  · rename_i q l e1
    obtain ⟨o, s0, rfl, xs, hq, im⟩ := R.sl i _ e1
    refine ⟨.ref q, s0, .inl ⟨rfl, xs, SqL.of hq⟩, B0, H0, ρ, s, _, R, hd, fun x s1 v H1 qx R1 g1 r1 => ?_⟩
    obtain ⟨_, _, _, xs1, hq1, im1⟩ := R1.sl i _ e1
    refine ⟨.ref q, s0, .inl ⟨rfl, xs1, SqL.of hq1⟩, B0, H0, ρ, s1, _, R1, qx, fun y s2 w H2 qy R2 g2 r2 => ?_⟩
    split at qy
    · rename_i m1 m2 ex ey
      obtain ⟨a1, a2, a3, a4, a5, d, hdd, qn⟩ := qy
      obtain ⟨_, _, _, xs2, hq2, im2⟩ := R2.sl i _ e1
      obtain ⟨u, hu, iu⟩ := im2.get hdd
      have hlt : m2.toNat < xs2.length := (List.getElem?_eq_some_iff.mp hu).1
      have ll := im2.length
      refine ⟨q, xs2, m2, m2.toNat, u, rfl, by rw [r2.vI ey], hq2, by omega, by omega, PySem.StrLaws.seqIndex_nonneg a3 (by omega), hu, ?_⟩
      refine ⟨q, xs2.eraseIdx m2.toNat, m1, u, rfl, by rw [r1.vI ex], upd_same, ?_, a1, by omega, ?_⟩
      · rw [List.length_eraseIdx_of_lt hlt]
        exact smL (by omega)
      · have e2 : upd (upd H2 q (.lst (xs2.eraseIdx m2.toNat))) q (.lst ((xs2.eraseIdx m2.toNat).take m1.toNat ++ [u] ++ (xs2.eraseIdx m2.toNat).drop m1.toNat)) = upd H2 q (.lst ((xs2.eraseIdx m2.toNat).take m1.toNat ++ [u] ++ (xs2.eraseIdx m2.toNat).drop m1.toNat)) := by
          funext b
          by_cases z : b = q
          · rw [z, upd_same, upd_same]
          · rw [upd_ne z, upd_ne z, upd_ne z]
        show D.nx σ _
        rw [e2]
        exact hn s2 _ σ _ qn (R2.mutL e1 ((((im2.erase m2.toNat).take _).snoc iu).append ((im2.erase m2.toNat).drop _))) ((g1.stp R).trans R1 ((g2.stp R1).trans R2 (mut_stp R2 e1)))
    · exact qy.elim
  · exact hd.elim
end
end Lf
namespace Lf
open PySem PySem.Spec PyProof.Rows L2
section
variable {Z : Zn} {X : Cx} {a b e : Expr} {es : List Expr} {da db : DX Z} {das : DA Z} {pos p : Pos} {K : PySem.W.Frag}
/-! ### x is True, x is not False -/
def opIsB (neg : Bool) : Op := fun x y Q => match x.D, y.D with
  | some (.bool i), some (.bool j) => Q (.im (.bool (neg != decide (i = j))))
  | _, _ => False
theorem o2_isB : Op2 K rIsB (opIsB false) := by
  intro Z B0 ρ s H0 σ Ha Hb H v u x y Qd Q R rx ry q k
  unfold opIsB at q
  split at q
  · rename_i i j e1 e2
    refine ⟨i, j, rx.vB e1, ry.vB e2, k _ _ _ q (Same.refl H) ?_⟩
    rw [Bool.false_bne]
    exact Im.bl _
  · exact q.elim
theorem o2_notB : Op2 K rNotB (opIsB true) := by
  intro Z B0 ρ s H0 σ Ha Hb H v u x y Qd Q R rx ry q k
  unfold opIsB at q
  split at q
  · rename_i i j e1 e2
    refine ⟨i, j, rx.vB e1, ry.vB e2, k _ _ _ q (Same.refl H) ?_⟩
    rw [Bool.true_bne]
    exact Im.bl _
  · exact q.elim
theorem dt_isB (ha : DE Z X a da) (hb : DE Z X b db) (hm : behindInMarks .Is b = false := by rfl) : DTs Z X (.Compare a [.Is] [b] pos) (dTst (dBin (opIsB false) da db)) := dt_cmp op_isBl o2_isB ha hb hm
theorem dt_notB (ha : DE Z X a da) (hb : DE Z X b db) (hm : behindInMarks .IsNot b = false := by rfl) : DTs Z X (.Compare a [.IsNot] [b] pos) (dTst (dBin (opIsB true) da db)) := dt_cmp op_notBl o2_notB ha hb hm
theorem de_isB (ha : DE Z X a da) (hb : DE Z X b db) (hm : behindInMarks .Is b = false := by rfl) : DE Z X (.Compare a [.Is] [b] pos) (dBin (opIsB false) da db) := PE.of (pe_cmpR op_isBl ha hb hm) fun σ H Q h => lift_bin (K := X.K) o2_isB h
theorem de_notB (ha : DE Z X a da) (hb : DE Z X b db) (hm : behindInMarks .IsNot b = false := by rfl) : DE Z X (.Compare a [.IsNot] [b] pos) (dBin (opIsB true) da db) := PE.of (pe_cmpR op_notBl ha hb hm) fun σ H Q h => lift_bin (K := X.K) o2_notB h
/-! ### str of a number or a tuple -/
def opStr : Cb := fun rs Q => match rs with
  | [x] => match x.D with
    | some d => d.showable = true ∧ d.depth ≤ 100 ∧ d.shown.length ≤ sizeLine ∧ ((∃ i, d = .int i) ∨ ∃ ds, d = .tuple ds) ∧ Q (.im (.str d.shown))
    | _ => False
  | _ => False
theorem de_strC (sys : ∃ o, X.base.get? sysModules = some o) (hgu : X.A.guards = some []) (hu : X.A.units + 200 < cLine) (hg : Gl X "str") (hm : X.mg "str" = none) (ha : DAs Z X (e :: es) das) (he : starEach (e :: es) X.env = (false, eval e X.env) :: starEach es X.env := by rfl) (hpl : (backTo pos (starEach es X.env)).any (·.1) = false := by rfl) : DE Z X (.Call (.Name "str" p) (e :: es) [] pos) (dCB opStr das) := by
  refine PE.of (pe_callTy (call_strA sys hgu hu) hg hm (by decide +kernel) ha (by decide) (by decide) he hpl) fun σ H Q h => lift_cb ?_ h
  intro Z B0 ρ s H0 σ Ha H vs xs Qd Q R rr q k
  unfold opStr at q
  split at q
  · obtain ⟨v, rfl, r1⟩ := rr.one
    split at q
    · rename_i d e1
      exact ⟨v, d, rfl, (r1.rd e1).rp, q.1, q.2.1, q.2.2.1, q.2.2.2.1, k _ _ _ q.2.2.2.2 (Same.refl H) (Im.str _)⟩
    · exact q.elim
  · exact q.elim
end
end Lf
namespace Lf
open PySem PySem.Spec PyProof.Rows L2
/-! ### shapes.py: nest_weight, place, is_ordered, has_no_heavy -/
--@iaddt waiting
--@sub (de_callP (hj := hj2) d_place => (de_callP (hj := hj2) d_place
--@sub (de_callP (hj := hj2) d_is_ordered => (de_callP (hj := hj2) d_is_ordered
--@sub (de_callP (hj := hj2) d_has_no_heavy => (de_callP (hj := hj2) d_has_no_heavy
--@sub (de_callP (hj := hj1) d_nest_weight => (de_callP (hj := hj1) d_nest_weight
--@sub (de_sortedG hu (by rfl) => (de_sortedG hu (by rfl)
theorem nsts_app (a b : List PyData) : nsts (a ++ b) = (nsts a && nsts b) := by rw [nsts_all, nsts_all, nsts_all, List.all_append]
def nwt (m : Nat) (d : PyData) : PyData := if nst d = true ∧ wgt d ≤ m then .int (wgt d : Nat) else .none
def fNW : DF Z0 := fun s as Q => ∃ (d : PyData) (m : Nat), as = [.im d, .im (.int (m : Nat))] ∧ 1 ≤ m ∧ m ≤ 1000 ∧ Q (.im (nwt m d)) s
def fPlc (n : Nat) : DF Z0 := fun s as Q => ∃ d : PyData, as = [.im d] ∧ nst d = true ∧ dph d ≤ n ∧ wgt d ≤ 1000 ∧ Q (.im (pkey d)) s
def fOrd (n : Nat) : DF Z0 := fun s as Q => ∃ d : PyData, as = [.im d] ∧ nst d = true ∧ dph d ≤ n ∧ dph d ≤ 26 ∧ wgt d ≤ 1000 ∧ Q (.im (.bool (ord d))) s
def fLgt (n : Nat) : DF Z0 := fun s as Q => ∃ d : PyData, as = [.im d] ∧ nst d = true ∧ dph d ≤ n ∧ wgt d ≤ 60 ∧ Q (.im (.bool (lgt d))) s
def wkey : PyData → Nat
  | .tuple (.int i :: _) => i.toNat
  | _ => 0
theorem sum_cast (l : List Nat) : (l.map fun x => ((x : Nat) : Int)).sum = ((l.sum : Nat) : Int) := by
  induction l with
  | nil => rfl
  | cons x l ih => rw [List.map_cons, List.sum_cons, List.sum_cons, ih, Int.natCast_add]
section
variable {P : Program} {w : World} {K : PySem.W.Frag} {mg : Str → Option Value} {base : Heap}
abbrev s_nest_weight : Stmt := topS (9)
abbrev N_nest_weight : List Str := ["value", "most", "many", "waiting", "part"]
abbrev p_nest_weight : List Str := ["value", "most"]
theorem sc_nest_weight : FnScope N_nest_weight p_nest_weight (defScope s_nest_weight) := ⟨rfl, rfl, rfl, by decide +kernel, rfl, by decide +kernel, by decide +kernel⟩
theorem ok_nest (M : Mk K mg "nest_weight" s_nest_weight p_nest_weight) (m_isinstance : mg "isinstance" = none) (m_len : mg "len" = none) (m_tuple : mg "tuple" = none) : Df P w K mg base CX0 1 "nest_weight" p_nest_weight (spD Z0 fNW) := by
  have nd := sc_nest_weight.nd
  refine def_ok (k := 0) M sc_nest_weight (by decide) ?_ (fun f cdv A outer s H E hr => have hu := hu65 hr; (ds_cons (ds_set (i := 2) nd rfl (.inl rfl) de_int)
      (ds_cons (ds_set (i := 3) nd rfl (.inl rfl) (de_lst (da_cons (dv 0) da_nil)))
      (ds_cons (ds_while PassesOwn.never (dt_tru (dv 3))
      (ds_cons (ds_setmt0 (i := 3) (j := 4) m2_pop PySem.F.slot_list_pop PySem.F.type_list_pop mt_pop nd rfl (.inl rfl) rfl (by first | exact Or.inl rfl | exact Or.inr (Or.inl rfl) | exact Or.inr (Or.inr rfl)))
      (ds_cons (ds_if (PW.pt (dw_or (dt_not (dt_val (de_isi (by rfl) m_isinstance (da_cons (dv 4) (da_cons (de_raw (pe_bltn (v := .ty "tuple") (by rfl) m_tuple (by decide +kernel) rfl)) da_nil))))) (dw_or1 (dt_ge (de_add (de_add (dv 2) (de_len (by rfl) m_len (da_cons (dv 3) da_nil))) (de_len (by rfl) m_len (da_cons (dv 4) da_nil))) (dv 1))))) (ds_one (ds_ret de_non)) ds_nil)
      (ds_cons (ds_iadd (i := 2) nd rfl (.inl rfl) de_int)
      (ds_one (ds_iaddT (i := 3) nd rfl (.inl rfl) (dv 4)))))))
      (ds_one (ds_ret (dv 2))))))) ?_
  · rintro s as Qd ⟨d, m, rfl, _⟩; rfl
  · rintro s as Qd ⟨d, m, rfl, m1, hm, q⟩
    refine ⟨_, rfl, by show 1 ≤ 1000000; decide, fun a => ?_⟩
    refine ⟨fun u s ρ => ∃ (many : Nat) (L : List PyData) (a : Addr) (x4 : Sl), ρ = [.im d, .im (.int (m : Nat)), .im (.int (many : Nat)), .ow a L, x4] ∧ (x4 = .no ∨ ∃ z, x4 = .im z) ∧ (nsts L = nst d) ∧ many + wgts L = wgt d ∧ many + u = m ∧ L.length ≤ 1000, ⟨m, 0, [d], a, .no, rfl, .inl rfl, Bool.and_true _, by show 0 + (wgt d + 0) = _; omega, by omega, by show 1 ≤ 1000; decide⟩, ?_⟩
    rintro u s ρ ⟨many, L, a, x4, rfl, h4, hN, hW, hu1, hL⟩
    refine ⟨trivial, ?_⟩
    show if (!L.isEmpty) = true then _ else _
    rcases List.eq_nil_or_concat L with rfl | ⟨L', p, rfl⟩
    · rw [if_neg (by decide)]
      have h1 : nst d = true := hN.symm
      have h2 : many + 0 = wgt d := hW
      have e : nwt m d = .int (many : Nat) := by
        unfold nwt
        rw [if_pos ⟨h1, by omega⟩, ← h2]
        rfl
      rw [e] at q
      exact q
    · rw [List.concat_eq_append] at hN hW hL ⊢
      have hN : (nsts L' && nst p) = nst d := by rw [← hN, nsts_app]; show _ = (_ && (_ && true)); rw [Bool.and_true]
      have hW : many + (wgts L' + wgt p) = wgt d := by rw [← hW, wgts_app]; rfl
      have lL := wgts_len L'
      rw [List.length_append] at hL
      have hL : L'.length + 1 ≤ 1000 := hL
      rw [if_pos (by simp)]
      refine ⟨p, by simp, ?_⟩
      rw [List.dropLast_concat]
      refine ⟨.inr (.inr (.inr (.inl rfl))), ?_⟩
      have bad : ¬ (nst d = true ∧ wgt d ≤ m) → nwt m d = .none := fun h => if_neg h
      cases p with
      | tuple es =>
        have le := wgts_len es
        have hW : many + (wgts L' + (1 + wgts es)) = wgt d := hW
        show if decide (((m : Nat) : Int) ≤ ((many : Nat) : Int) + ((L'.length : Nat) : Int) + ((es.length : Nat) : Int)) = true then _ else _
        by_cases z : m ≤ many + L'.length + es.length
        · rw [if_pos (decide_eq_true (by omega))]
          rw [bad fun h => by have := h.2; omega] at q
          exact q
        · rw [if_neg (by rw [decide_eq_false (by omega)]; decide)]
          refine ⟨by omega, u - 1, by omega, many + 1, L' ++ es, a, .im (.tuple es), rfl, .inr ⟨_, rfl⟩, ?_, by rw [wgts_app]; omega, by omega, by rw [List.length_append]; omega⟩
          rw [nsts_app]
          exact hN
      | _ =>
        rw [bad fun h => by have h := h.1; rw [← hN] at h; cases hs : nsts L' <;> rw [hs] at h <;> cases h] at q
        exact q
abbrev s_place : Stmt := topS (10)
abbrev N_place : List Str := ["shape", "places", "item", "weight", "rest"]
abbrev p_place : List Str := ["shape"]
theorem sc_place : FnScope N_place p_place (defScope s_place) := ⟨rfl, rfl, rfl, by decide +kernel, rfl, by decide +kernel, by decide +kernel⟩
theorem ok_place (M : Mk K mg "place" s_place p_place) (m_sum : mg "sum" = none) (m_tuple : mg "tuple" = none) : ∀ N, Df P w K mg base CX0 (N + 1) "place" p_place (spD Z0 (fPlc N))
  | 0 => by
    have nd := sc_place.nd
    obtain ⟨f, fd, F, b, g⟩ := M
    have no : ∀ vs H Q E, spD Z0 (fPlc 0) vs H Q E → False := fun vs H Q E ⟨_, _, _, _, _, _, _, ⟨d, _, _, hd, _⟩, _⟩ => by have := dph_pos d; omega
    exact Df.of F b g (F.ok sc_place (fun vs H Q E h => (no vs H Q E h).elim) (fun cdv A outer s H vs Q E hr h => (no vs H Q E h).elim))
  | n + 1 => by
    have d_place := ok_place M m_sum m_tuple n
    have nd := sc_place.nd
    have hj2 : n + 1 ≤ n + 1 := Nat.le_refl _
    refine def_ok (k := n + 1) M sc_place (by decide) ?_ (fun f cdv A outer s H E hr => have hu := hu65 hr; (ds_cons (ds_setLc (i := 1) (ow := [("item", 2)]) (gok_name (i := 2) (by decide)) rfl nd rfl rfl (sw_true rfl rfl rfl rfl) (di_seq (dv 0)) (blkOk_by (own := [("item", 2)]) (N := N_place) (sc := defScope s_place) (by decide +kernel)) (fun _ _ _ _ _ => pg_name (i := 2) nd rfl (Or.inl rfl)) (fun _ _ _ _ _ => dp_nil) (fun _ _ _ _ _ => (de_callP (hj := hj2) d_place pass0 hr (da_cons (dv 2) da_nil))))
      (ds_one (ds_ret (de_tup (da_cons (de_add de_int (de_sum rfl (by rfl) m_sum (da_cons (de_lc (ow := [("weight", 3), ("rest", 4)]) (gok_tup (is := [3, 4]) (n := 2) rfl (by decide)) rfl nd (di_seq (dv 1)) (blkOk_by (own := [("weight", 3), ("rest", 4)]) (N := N_place) (sc := defScope s_place) (by decide +kernel)) (fun _ _ _ _ _ => pg_tup rfl (pgs_cons (pg_name (i := 3) nd rfl (Or.inl rfl)) (pgs_cons (pg_name (i := 4) nd rfl (Or.inl rfl)) pgs_nil))) (fun _ _ _ _ _ => dp_nil) (fun _ _ _ _ _ => (dv 3))) da_nil))) (da_cons (de_tuple (by rfl) m_tuple (da_cons (dv 1) da_nil)) da_nil))))))) ?_
    · rintro s as Qd ⟨d, rfl, _⟩; rfl
    · rintro s as Qd ⟨d, rfl, hN, hd, hW, q⟩
      obtain ⟨ds, rfl, hs⟩ := nst_tup hN
      have ld := wgts_len ds
      have hW : 1 + wgts ds ≤ 1000 := hW
      have hd : 1 + dphs ds ≤ n + 1 := hd
      refine ⟨rfl, ?_⟩
      refine lcR_fun (f := fun d => some (pkey d)) (fun d hm C hC => ?_) (by show 0 + _ ≤ _; omega) ?_
      · have h1 := dphs_mem hm
        have h2 := wgts_mem hm
        exact ⟨d, rfl, nsts_iff.mp hs d hm, by omega, by omega, .inl rfl, _, rfl, hC⟩
      rw [List.nil_append, fm_some]
      show ∀ a, _
      intro a
      refine ⟨rfl, ?_⟩
      refine lcR_fun (f := fun d => some (.int (wkey d : Nat))) (fun d hm C hC => ?_) (by rw [List.length_map]; show 0 + _ ≤ _; omega) ?_
      · obtain ⟨x, hx, rfl⟩ := List.mem_map.mp hm
        obtain ⟨es, rfl, _⟩ := nst_tup (nsts_iff.mp hs x hx)
        exact ⟨_, rfl, hC⟩
      rw [List.nil_append, fm_some]
      have eW : (ds.map pkey).map (fun d => PyData.int (wkey d : Nat)) = (ds.map fun x => ((wgt x : Nat) : Int)).map PyData.int := by
        rw [List.map_map, List.map_map]
        refine List.map_congr_left fun x hx => ?_
        obtain ⟨es, rfl, _⟩ := nst_tup (nsts_iff.mp hs x hx)
        rfl
      rw [eW]
      refine ⟨ds.map fun x => ((wgt x : Nat) : Int), rfl, ?_⟩
      have eS : (1 : Int) + (ds.map fun x => ((wgt x : Nat) : Int)).sum = ((1 + wgts ds : Nat) : Int) := by
        have := sum_cast (ds.map wgt)
        rw [List.map_map] at this
        rw [wgts_sum, show (ds.map fun x => ((wgt x : Nat) : Int)).sum = (((ds.map wgt).sum : Nat) : Int) from this]
        omega
      refine ⟨_, rfl, by show 2 ≤ 1000000; decide, ?_⟩
      rw [eS, ← pkeys_map]
      exact q
abbrev s_is_ordered : Stmt := topS (11)
abbrev N_is_ordered : List Str := ["shape", "places", "item"]
abbrev p_is_ordered : List Str := ["shape"]
theorem sc_is_ordered : FnScope N_is_ordered p_is_ordered (defScope s_is_ordered) := ⟨rfl, rfl, rfl, by decide +kernel, rfl, by decide +kernel, by decide +kernel⟩
theorem ok_ordered (M : Mk K mg "is_ordered" s_is_ordered p_is_ordered) (dP : ∀ n, Df P w K mg base CX0 (n + 1) "place" p_place (spD Z0 (fPlc n))) (m_all : mg "all" = none) (m_sorted : mg "sorted" = none) : ∀ N, Df P w K mg base CX0 (N + 1) "is_ordered" p_is_ordered (spD Z0 (fOrd N))
  | 0 => by
    have nd := sc_is_ordered.nd
    obtain ⟨f, fd, F, b, g⟩ := M
    have no : ∀ vs H Q E, spD Z0 (fOrd 0) vs H Q E → False := fun vs H Q E ⟨_, _, _, _, _, _, _, ⟨d, _, _, hd, _⟩, _⟩ => by have := dph_pos d; omega
    exact Df.of F b g (F.ok sc_is_ordered (fun vs H Q E h => (no vs H Q E h).elim) (fun cdv A outer s H vs Q E hr h => (no vs H Q E h).elim))
  | n + 1 => by
    have d_is_ordered := ok_ordered M dP m_all m_sorted n
    have d_place := dP n
    have nd := sc_is_ordered.nd
    have hj2 : n + 1 ≤ n + 1 := Nat.le_refl _
    refine def_ok (k := n + 1) M sc_is_ordered (by decide) ?_ (fun f cdv A outer s H E hr => have hu := hu65 hr; (ds_cons (ds_setLc (i := 1) (ow := [("item", 2)]) (gok_name (i := 2) (by decide)) rfl nd rfl rfl (sw_true rfl rfl rfl rfl) (di_seq (dv 0)) (blkOk_by (own := [("item", 2)]) (N := N_is_ordered) (sc := defScope s_is_ordered) (by decide +kernel)) (fun _ _ _ _ _ => pg_name (i := 2) nd rfl (Or.inl rfl)) (fun _ _ _ _ _ => dp_nil) (fun _ _ _ _ _ => (de_callP (hj := hj2) d_place pass0 hr (da_cons (dv 2) da_nil))))
      (ds_one (ds_ret (de_and (de_eq hu (dv 1) (de_sortedG hu (by rfl) m_sorted (da_cons (dv 1) da_nil))) (de_one (de_all rfl (by rfl) m_all (da_cons (de_lc (ow := [("item", 2)]) (gok_name (i := 2) (by decide)) rfl nd (di_seq (dv 0)) (blkOk_by (own := [("item", 2)]) (N := N_is_ordered) (sc := defScope s_is_ordered) (by decide +kernel)) (fun _ _ _ _ _ => pg_name (i := 2) nd rfl (Or.inl rfl)) (fun _ _ _ _ _ => dp_nil) (fun _ _ _ _ _ => (de_callP (hj := hj2) d_is_ordered pass0 hr (da_cons (dv 2) da_nil)))) da_nil)))))))) ?_
    · rintro s as Qd ⟨d, rfl, _⟩; rfl
    · rintro s as Qd ⟨d, rfl, hN, hd, h26, hW, q⟩
      obtain ⟨ds, rfl, hs⟩ := nst_tup hN
      have ld := wgts_len ds
      have hW : 1 + wgts ds ≤ 1000 := hW
      have hd : 1 + dphs ds ≤ n + 1 := hd
      have h26 : 1 + dphs ds ≤ 26 := h26
      refine ⟨rfl, ?_⟩
      refine lcR_fun (f := fun d => some (pkey d)) (fun d hm C hC => ?_) (by show 0 + _ ≤ _; omega) ?_
      · have h1 := dphs_mem hm
        have h2 := wgts_mem hm
        exact ⟨d, rfl, nsts_iff.mp hs d hm, by omega, by omega, .inl rfl, _, rfl, hC⟩
      rw [List.nil_append, fm_some, ← pkeys_map]
      show ∀ a, _
      intro a
      have lay := layAll_iff.mp (lays_nst ds hs).2
      have shp : ∀ l : List PyData, (∀ d ∈ l, d ∈ pkeys ds) → SeqAt.shaped (.list l) = true := fun l h => by
        have d1 : (PyData.list l).depth ≤ 64 := by
          have := depAll_le (n := 50) (ds := l) fun d hd => (keys_ok hs (by omega)).deep d (h d hd)
          show PyData.depthAll l + 1 ≤ 64
          omega
        have d2 : (PyData.list l).canLay0 = true := layAll_iff.mpr fun d hd => lay d (h d hd)
        unfold SeqAt.shaped
        rw [d2, decide_eq_true d1]
        rfl
      refine ⟨keys_ok hs (by omega), shp _ fun d hd => hd, shp _ fun d hd => (srtA_perm _).mem_iff.mp hd, ?_⟩
      have eE : PyData.eqv (.list (pkeys ds)) (.list (srtD (pkeys ds))) = chn (pkeys ds) := by
        rw [Bool.eq_iff_iff, chn_srt]
        constructor
        · intro h
          have k1 := keys_kd ds hs
          refine (kds_eqv _ _ k1 ?_ h).symm
          rw [kyBs_all] at k1 ⊢
          exact List.all_eq_true.mpr fun d hd => List.all_eq_true.mp k1 d ((srtA_perm _).mem_iff.mp hd)
        · intro h
          rw [h]
          exact PySem.SeqAt.eqv_refl _ (SeqAt.canLay_of_shaped (shp _ fun d hd => hd))
      rw [eE]
      show if chn (pkeys ds) = true then _ else _
      have eO : ord (.tuple ds) = (chn (pkeys ds) && ds.all ord) := by rw [← ords_all]; rfl
      rw [eO] at q
      cases hC : chn (pkeys ds) with
      | false =>
        rw [if_neg (by decide)]
        rw [hC] at q
        exact q
      | true =>
        rw [if_pos rfl]
        rw [hC, Bool.true_and] at q
        refine ⟨rfl, ?_⟩
        refine lcR_fun (f := fun d => some (.bool (ord d))) (fun d hm C hC => ?_) (by show 0 + _ ≤ _; omega) ?_
        · have h1 := dphs_mem hm
          have h2 := wgts_mem hm
          exact ⟨d, rfl, nsts_iff.mp hs d hm, by omega, by omega, by omega, .inl rfl, _, rfl, hC⟩
        rw [List.nil_append, fm_some]
        refine ⟨ds.map ord, by rw [List.map_map]; rfl, ?_⟩
        rw [List.all_map]
        exact q
abbrev s_has_no_heavy : Stmt := topS (16)
abbrev N_has_no_heavy : List Str := ["shape", "sizes", "size", "item", "other"]
abbrev p_has_no_heavy : List Str := ["shape"]
theorem sc_has_no_heavy : FnScope N_has_no_heavy p_has_no_heavy (defScope s_has_no_heavy) := ⟨rfl, rfl, rfl, by decide +kernel, rfl, by decide +kernel, by decide +kernel⟩
theorem ok_noheavy {t : Tok} (M : Mk K mg "has_no_heavy" s_has_no_heavy p_has_no_heavy) (d_nest_weight : Df P w K mg base CX0 1 "nest_weight" p_nest_weight (spD Z0 fNW)) (g_SHAPE_VERTICES : mg "SHAPE_VERTICES" = some (.int 60 t)) (m_all : mg "all" = none) (m_sum : mg "sum" = none) : ∀ N, Df P w K mg base CX0 (N + 1) "has_no_heavy" p_has_no_heavy (spD Z0 (fLgt N))
  | 0 => by
    have nd := sc_has_no_heavy.nd
    obtain ⟨f, fd, F, b, g⟩ := M
    have no : ∀ vs H Q E, spD Z0 (fLgt 0) vs H Q E → False := fun vs H Q E ⟨_, _, _, _, _, _, _, ⟨d, _, _, hd, _⟩, _⟩ => by have := dph_pos d; omega
    exact Df.of F b g (F.ok sc_has_no_heavy (fun vs H Q E h => (no vs H Q E h).elim) (fun cdv A outer s H vs Q E hr h => (no vs H Q E h).elim))
  | n + 1 => by
    have d_has_no_heavy := ok_noheavy M d_nest_weight g_SHAPE_VERTICES m_all m_sum n
    have nd := sc_has_no_heavy.nd
    have hj2 : n + 1 ≤ n + 1 := Nat.le_refl _
    have hj1 : 1 ≤ n + 1 := by omega
    refine def_ok (k := n + 1) M sc_has_no_heavy (by decide) ?_ (fun f cdv A outer s H E hr => have hu := hu65 hr; (ds_cons (ds_setLc (i := 1) (ow := [("item", 3)]) (gok_name (i := 3) (by decide)) rfl nd rfl rfl (sw_true rfl rfl rfl rfl) (di_seq (dv 0)) (blkOk_by (own := [("item", 3)]) (N := N_has_no_heavy) (sc := defScope s_has_no_heavy) (by decide +kernel)) (fun _ _ _ _ _ => pg_name (i := 3) nd rfl (Or.inl rfl)) (fun _ _ _ _ _ => dp_nil) (fun _ _ _ _ _ => (de_callP (hj := hj1) d_nest_weight pass0 hr (da_cons (dv 3) (da_cons (de_gi (by rfl) g_SHAPE_VERTICES) da_nil)))))
      (ds_cons (ds_frz 1 (ds_for PassesOwn.never rfl (di_seq (dv 1)) (dg_name (i := 2) nd rfl (.inr rfl))
      (ds_one (ds_if (dt_gt (dv 2) (de_add de_int (de_sum rfl (by rfl) m_sum (da_cons (de_lc (ow := [("other", 4)]) (gok_name (i := 4) (by decide)) rfl nd (di_seq (dv 1)) (blkOk_by (own := [("other", 4)]) (N := N_has_no_heavy) (sc := defScope s_has_no_heavy) (by decide +kernel)) (fun _ _ _ _ _ => pg_name (i := 4) nd rfl (Or.inl rfl)) (fun _ _ _ _ _ => (dp_one (dt_lt (dv 4) (dv 2)))) (fun _ _ _ _ _ => (dv 4))) da_nil)))) (ds_one (ds_ret de_bl)) ds_nil))))
      (ds_one (ds_ret (de_all rfl (by rfl) m_all (da_cons (de_lc (ow := [("item", 3)]) (gok_name (i := 3) (by decide)) rfl nd (di_seq (dv 0)) (blkOk_by (own := [("item", 3)]) (N := N_has_no_heavy) (sc := defScope s_has_no_heavy) (by decide +kernel)) (fun _ _ _ _ _ => pg_name (i := 3) nd rfl (Or.inl rfl)) (fun _ _ _ _ _ => dp_nil) (fun _ _ _ _ _ => (de_callP (hj := hj2) d_has_no_heavy pass0 hr (da_cons (dv 3) da_nil)))) da_nil))))))) ?_
    · rintro s as Qd ⟨d, rfl, _⟩; rfl
    · rintro s as Qd ⟨d, rfl, hN, hd, hW, q⟩
      obtain ⟨ds, rfl, hs⟩ := nst_tup hN
      have ld := wgts_len ds
      have hW : 1 + wgts ds ≤ 60 := hW
      have hd : 1 + dphs ds ≤ n + 1 := hd
      refine ⟨rfl, ?_⟩
      refine lcR_fun (f := fun d => some (.int (wgt d : Nat))) (fun d hm C hC => ?_) (by show 0 + _ ≤ _; omega) ?_
      · have h2 := wgts_mem hm
        have e : nwt 60 d = .int (wgt d : Nat) := if_pos ⟨nsts_iff.mp hs d hm, by omega⟩
        exact ⟨d, 60, rfl, by decide, by decide, .inl rfl, _, by rw [e]; rfl, hC⟩
      rw [List.nil_append, fm_some]
      show ∀ a, _
      intro a
      have eW : ds.map (fun d => PyData.int (wgt d : Nat)) = nD (ds.map wgt) := by unfold nD; rw [List.map_map]; rfl
      rw [eW]
      have lW : (ds.map wgt).length = ds.length := List.length_map ..
      have eL : lgt (.tuple ds) = (lgtR (ds.map wgt) && ds.all lgt) := by rw [← lgts_all]; rfl
      rw [eL] at q
      generalize hws : ds.map wgt = ws at *
      refine ⟨rfl, fun k s ρ => ∃ x2 : Sl, ρ = [.im (.tuple ds), .im (.list (nD ws)), x2, .no, .no] ∧ (∀ x ∈ ws.take k, x ≤ 1 + (ws.filter fun y => decide (y < x)).sum), ⟨_, rfl, fun x hx => by rw [List.take_zero] at hx; cases hx⟩, ?_, ?_⟩
      · rintro k d s ρ hk ⟨x2, rfl, ok⟩
        obtain ⟨x, hx, rfl⟩ := nD_some hk
        have few := List.mem_of_getElem? hx
        refine ⟨rfl, ?_⟩
        refine lcR_nD (l := ws) (f := fun y => if decide (y < x) = true then some (.int (y : Nat)) else none) (fun y hy C hC => ?_) (by omega) ?_
        · show if decide (((y : Nat) : Int) < ((x : Nat) : Int)) = true then _ else _
          by_cases z : y < x
          · rw [if_pos (decide_eq_true (by omega))]
            rw [if_pos (decide_eq_true z)] at hC
            exact ⟨_, rfl, hC⟩
          · rw [if_neg (by rw [decide_eq_false (by omega)]; decide)]
            rw [if_neg (by rw [decide_eq_false z]; decide)] at hC
            exact hC
        rw [fm_if]
        refine ⟨(ws.filter fun y => decide (y < x)).map fun y => ((y : Nat) : Int), by rw [List.map_map]; rfl, ?_⟩
        rw [sum_cast]
        show if decide ((1 : Int) + (((ws.filter fun y => decide (y < x)).sum : Nat) : Int) < ((x : Nat) : Int)) = true then _ else _
        by_cases z : x ≤ 1 + (ws.filter fun y => decide (y < x)).sum
        · rw [if_neg (by rw [decide_eq_false (by omega)]; decide)]
          refine ⟨_, rfl, fun y hy => ?_⟩
          rw [take_snoc hx] at hy
          rcases List.mem_append.mp hy with hy | hy
          · exact ok y hy
          · rw [List.mem_singleton.mp hy]; exact z
        · rw [if_pos (decide_eq_true (by omega))]
          have nL : lgtR ws = false := by
            cases e : lgtR ws with
            | false => rfl
            | true => exact absurd (of_decide_eq_true (List.all_eq_true.mp e x few)) z
          rw [nL] at q
          exact q
      · rintro s ρ ⟨x2, rfl, ok⟩
        rw [nD_len, List.take_length] at ok
        have yL : lgtR ws = true := List.all_eq_true.mpr fun x hx => decide_eq_true (ok x hx)
        rw [yL, Bool.true_and] at q
        refine ⟨rfl, ?_⟩
        refine lcR_fun (f := fun d => some (.bool (lgt d))) (fun d hm C hC => ?_) (by show 0 + _ ≤ _; omega) ?_
        · have h1 := dphs_mem hm
          have h2 := wgts_mem hm
          exact ⟨d, rfl, nsts_iff.mp hs d hm, by omega, by omega, .inl rfl, _, rfl, hC⟩
        rw [List.nil_append, fm_some]
        refine ⟨ds.map lgt, by rw [List.map_map]; rfl, ?_⟩
        rw [List.all_map]
        exact q
end
end Lf
set_option maxHeartbeats 4000000
namespace Lf
open PySem PySem.Spec PyProof.Rows L2
/-! ### xs == [] of a list with any items; () * k -/
section
variable {X : Cx}
theorem op_eqEL (hu : X.A.units < cLine) : OpR X (compareOp .Eq) (fun x y H Q => ∃ (a b : Addr) (xs : List V), x = .ref a ∧ y = .ref b ∧ SqL X.K H a xs ∧ H b = some (.lst []) ∧ Q (.bl xs.isEmpty) H) := by
  rintro pins s σ H x y v u Q I rx ry ⟨a, b, xs, rfl, rfl, ha, hb, q⟩
  cases (show v = Value.ref a from rx)
  cases (show u = Value.ref b from ry)
  obtain ⟨its, r1, p1, _⟩ := I.list ha
  obtain ⟨jts, r2, p2, _⟩ := I.list (SqL.of hb)
  cases r2
  cases r1 with
  | nil => exact SeqAt.RcAt.lists (e := fun _ => true) p1.isList p2.isList rfl hu (fun j j1 _ => absurd j1 (Nat.not_lt_zero j)) _ _ _ _ ⟨.bl _, H, I, rfl, q⟩
  | cons _ _ => exact SeqAt.RcAt.lists_lengths p1.isList p2.isList (by simp) hu _ _ _ _ ⟨.bl _, H, I, rfl, q⟩
theorem tuple_mulE (l : Addr) (items : Array Value) (n : Nat) (dd : Option Addr) (sl : Array (Option Value)) (x : Int) (u : Tok) (c0 : (decide (x < -(2 ^ 63)) || decide (x ≥ 2 ^ 63)) = false) (c1 : (items.isEmpty || x == 1) = true) :
    Meets (Builtin.«tuple.__mul__» ⟨[.ref l, .int x u], []⟩) (fun _ R s => s.heap.get? l = some { cls := .type "tuple", dict := dd, data := .seq items n, slots := sl } ∧ R (.ok (.ret (Value.ref l))) s) :=
  .of_wp fun prog w A R s h => by
    obtain ⟨hp, g, d, tk, os⟩ := s
    obtain ⟨hl, h⟩ := h
    have f1 := AutoSeq1.idx_int
    wp_walk using wpAny_loadPart' hl
    repeat (first
      | (refine wpAny_ite_false (decide_eq_false (by rw [c0]; exact Bool.false_ne_true)) ?_; wp_walk using wpAny_loadPart' hl)
      | (refine wpAny_ite_true (decide_eq_true c1) ?_; wp_walk using wpAny_loadPart' hl))
    exact ⟨_, rfl, h⟩
def rRepE (K : PySem.W.Frag) : R2 := fun x y H Q => ∃ (l : Addr) (k : Int), x = .ref l ∧ y = .int k ∧ SqT K H l [] ∧ 2 ≤ k ∧ k ≤ 1000 ∧ Q (.ref l) H
theorem op_repE : OpR X (binaryOp .Mult) (rRepE X.K) := by
  rintro pins s σ H x y v u Q I rx ry ⟨l, k, rfl, rfl, sq, k2, kM, q⟩
  cases rx
  obtain ⟨tk, rfl⟩ := ry
  obtain ⟨its, vals, ⟨⟨cls, dd, data, sl⟩, at0, hc, n, hd⟩, _⟩ := I.tuple sq
  simp only at hc hd
  subst hc hd
  cases vals
  have b1 : (decide (k < -(2 ^ 63)) || decide (k ≥ 2 ^ 63)) = false := by rw [decide_eq_false (by omega), decide_eq_false (by omega)] <;> rfl
  refine wpAny_binaryOp_repeat_ref (T := "tuple") (U := "int") (by decide) ⟨_, at0, rfl⟩ (fun s' => typeIs_int s' k tk) noFill_tuple_mul F.fills_int_mul F.slot_int_rmul repeat_tuple F.slot_int_index.lookup
    (call_meets F.slot_int_rmul (typeIs_int s k tk) F.entry_int_rmul (F.args_int_rmul_2 _ _) (int_rmul_tuple k tk l #[] n dd sl)
      ⟨at0, rfl, ⟨_, at0, rfl⟩, call_meets F.slot_tuple_mul ⟨_, at0, rfl⟩ F.entry_tuple_mul (F.args_tuple_mul_2 _ _) (tuple_mulE l #[] n dd sl k tk b1 rfl) ⟨at0, ?_⟩⟩)
  exact ⟨.ref l, H, I, rfl, q⟩
end
section
variable {Z : Zn} {X : Cx} {a b : Expr} {da db : DX Z} {pos : Pos} {K : PySem.W.Frag}
def opEqE0 : Op := fun x y Q => match x.D, y.D with
  | some (.list l), some (.list []) => Q (.im (.bool l.isEmpty))
  | _, _ => False
theorem o2_eqE0 : Op2 K (fun x y H Q => ∃ (a b : Addr) (xs : List V), x = .ref a ∧ y = .ref b ∧ SqL K H a xs ∧ H b = some (.lst []) ∧ Q (.bl xs.isEmpty) H) opEqE0 := by
  intro Z B0 ρ s H0 σ Ha Hb H v u x y Qd Q R rx ry q k
  unfold opEqE0 at q
  split at q
  · rename_i l e1 e2
    obtain ⟨a, xs, rfl, h1, h2⟩ := rx.lst e1
    obtain ⟨b, ys, rfl, h3, h4⟩ := ry.lst e2
    cases h4
    refine ⟨a, b, xs, rfl, rfl, SqL.of h1, h3, ?_⟩
    rw [show xs.isEmpty = l.isEmpty by cases h2 <;> rfl]
    exact k _ _ _ q (Same.refl H) (Im.bl _)
  · exact q.elim
theorem de_eqE0 (hu : X.A.units + 65 < cLine) (ha : DE Z X a da) (hb : DE Z X b db) (hm : behindInMarks .Eq b = false := by rfl) : DE Z X (.Compare a [.Eq] [b] pos) (dBin opEqE0 da db) := PE.of (pe_cmpR (op_eqEL (by omega)) ha hb hm) fun σ H Q h => lift_bin (K := X.K) o2_eqE0 h
/-- t * k, t perhaps empty -/
def opMulA : Op := fun x y Q => match x.D, y.D with
  | some (.tuple l), some (.int k) => 2 ≤ k ∧ k ≤ 1000 ∧ l.length ≤ 1000 ∧ Q (.im (.tuple (List.replicate k.toNat l).flatten))
  | _, _ => False
theorem flat_nil {α : Type} : ∀ k : Nat, (List.replicate k ([] : List α)).flatten = []
  | 0 => rfl
  | k + 1 => by rw [List.replicate_succ, List.flatten_cons, flat_nil k]; rfl
theorem de_mulA (ha : DE Z X a da) (hb : DE Z X b db) : DE Z X (.BinOp a .Mult b pos) (dBin opMulA da db) := by
  refine PE.of (pe_op (op_repK.or op_repE) ha hb) fun σ H Q h => lift_bin (K := X.K) ?_ h
  intro Z B0 ρ s H0 σ Ha Hb H v u x y Qd Q R rx ry q k
  unfold opMulA at q
  split at q
  · rename_i l m e1 e2
    obtain ⟨k1, k2, len, q⟩ := q
    obtain ⟨a, xs, rfl, h1, h2⟩ := rx.tup (K := X.K) e1
    cases l with
    | nil =>
      cases h2
      rw [flat_nil] at q
      refine .inr ⟨a, m, rfl, ry.vI e2, h1, k1, k2, k _ _ _ q (Same.refl H) ?_⟩
      cases x with
      | im d => cases e1; exact rx
      | _ => cases e1
    | cons d l =>
      refine .inl ⟨a, m, xs, rfl, ry.vI e2, h1, fun z => ?_, k1, k2, by rw [h2.length]; exact len, fun p o hp tk => k _ _ _ q (same_new hp) (newT hp tk (h2.rep _))⟩
      rw [z] at h2
      cases h2
  · exact q.elim
end
end Lf
namespace Lf
open PySem PySem.Spec PyProof.Rows L2
/-! ### k54: the law's own shapes -/
--@emptylist
--@sub (de_callP (hj := hj2) d__law_key => (de_callP (hj := hj2) d__law_key
--@sub (de_callP (hj := hj2) d__law_is_nested => (de_callP (hj := hj2) d__law_is_nested
--@sub (de_callP (hj := hj2) d__law_is_sorted => (de_callP (hj := hj2) d__law_is_sorted
--@sub (de_callP (hj := hj2) d__law_is_light => (de_callP (hj := hj2) d__law_is_light
--@sub (de_eqE0 hu (de_lc => (de_eqE0 hu (de_lc
--@sub (dt_gtG hu (de_ix (dv 1) (de_sub => (dt_gtG hu (de_ix (dv 1) (de_sub
def fNst (n : Nat) : DF Z0 := fun s as Q => ∃ d : PyData, as = [.im d] ∧ dph d ≤ n ∧ wgt d ≤ 1000 ∧ Q (.im (.bool (nst d))) s
def fSrt (n : Nat) : DF Z0 := fun s as Q => ∃ d : PyData, as = [.im (pkey d)] ∧ nst d = true ∧ dph d ≤ n ∧ dph d ≤ 26 ∧ wgt d ≤ 1000 ∧ Q (.im (.bool (ord d))) s
def fLit (n : Nat) : DF Z0 := fun s as Q => ∃ d : PyData, as = [.im (pkey d)] ∧ nst d = true ∧ dph d ≤ n ∧ wgt d ≤ 1000 ∧ Q (.im (.bool (lgt d))) s
theorem key_at0 (x : PyData) (h : nst x = true) : ∃ es, pkey x = .tuple [.int (wgt x : Nat), .tuple (pkeys es)] ∧ x = .tuple es := by
  obtain ⟨es, rfl, _⟩ := nst_tup h
  exact ⟨es, rfl, rfl⟩
section
variable {P : Program} {w : World} {K : PySem.W.Frag} {mg : Str → Option Value} {base : Heap}
abbrev s__law_key : Stmt := topS (25)
abbrev N__law_key : List Str := ["_law_shape_here", "_law_keys", "_law_item", "_law_key_here"]
abbrev p__law_key : List Str := ["_law_shape_here"]
theorem sc__law_key : FnScope N__law_key p__law_key (defScope s__law_key) := ⟨rfl, rfl, rfl, by decide +kernel, rfl, by decide +kernel, by decide +kernel⟩
theorem ok_lkey (M : Mk K mg "_law_key" s__law_key p__law_key) (m_sum : mg "sum" = none) (m_tuple : mg "tuple" = none) : ∀ N, Df P w K mg base CX0 (N + 1) "_law_key" p__law_key (spD Z0 (fPlc N))
  | 0 => by
    obtain ⟨f, fd, F, b, g⟩ := M
    have no : ∀ vs H Q E, spD Z0 (fPlc 0) vs H Q E → False := fun vs H Q E ⟨_, _, _, _, _, _, _, ⟨d, _, _, hd, _⟩, _⟩ => by have := dph_pos d; omega
    exact Df.of F b g (F.ok sc__law_key (fun vs H Q E h => (no vs H Q E h).elim) (fun cdv A outer s H vs Q E hr h => (no vs H Q E h).elim))
  | n + 1 => by
    have d__law_key := ok_lkey M m_sum m_tuple n
    have nd := sc__law_key.nd
    have hj2 : n + 1 ≤ n + 1 := Nat.le_refl _
    refine def_ok (k := n + 1) M sc__law_key (by decide) ?_ (fun f cdv A outer s H E hr => have hu := hu65 hr; (ds_cons (ds_set (i := 1) nd rfl (.inl rfl) (de_tuple (by rfl) m_tuple (da_cons (de_lc (ow := [("_law_item", 2)]) (gok_name (i := 2) (by decide)) rfl nd (di_seq (dv 0)) (blkOk_by (own := [("_law_item", 2)]) (N := N__law_key) (sc := defScope s__law_key) (by decide +kernel)) (fun _ _ _ _ _ => pg_name (i := 2) nd rfl (Or.inl rfl)) (fun _ _ _ _ _ => dp_nil) (fun _ _ _ _ _ => (de_callP (hj := hj2) d__law_key pass0 hr (da_cons (dv 2) da_nil)))) da_nil)))
      (ds_one (ds_ret (de_tup (da_cons (de_add de_int (de_sum rfl (by rfl) m_sum (da_cons (de_lc (ow := [("_law_key_here", 3)]) (gok_name (i := 3) (by decide)) rfl nd (di_seq (dv 1)) (blkOk_by (own := [("_law_key_here", 3)]) (N := N__law_key) (sc := defScope s__law_key) (by decide +kernel)) (fun _ _ _ _ _ => pg_name (i := 3) nd rfl (Or.inl rfl)) (fun _ _ _ _ _ => dp_nil) (fun _ _ _ _ _ => (de_ix (dv 3) de_int))) da_nil))) (da_cons (dv 1) da_nil))))))) ?_
    · rintro s as Qd ⟨d, rfl, _⟩; rfl
    · rintro s as Qd ⟨d, rfl, hN, hd, hW, q⟩
      obtain ⟨ds, rfl, hs⟩ := nst_tup hN
      have ld := wgts_len ds
      have hW : 1 + wgts ds ≤ 1000 := hW
      have hd : 1 + dphs ds ≤ n + 1 := hd
      refine ⟨rfl, ?_⟩
      refine lcR_fun (f := fun d => some (pkey d)) (fun d hm C hC => ?_) (by show 0 + _ ≤ _; omega) ?_
      · have h1 := dphs_mem hm
        have h2 := wgts_mem hm
        exact ⟨d, rfl, nsts_iff.mp hs d hm, by omega, by omega, .inl rfl, _, rfl, hC⟩
      rw [List.nil_append, fm_some]
      refine ⟨rfl, ?_⟩
      show lcR _ _ _ _ (ds.map pkey) _ [] _
      refine lcR_map (f := fun x => some (.int (wgt x : Nat))) (fun x hx C hC => ?_) (by show 0 + _ ≤ _; omega) ?_
      · obtain ⟨es, rfl, _⟩ := nst_tup (nsts_iff.mp hs x hx)
        exact ⟨_, atI_nat (j := 0) rfl, _, rfl, hC⟩
      rw [List.nil_append, fm_some]
      refine ⟨ds.map fun x => ((wgt x : Nat) : Int), by rw [List.map_map]; rfl, ?_⟩
      have eS : (1 : Int) + (ds.map fun x => ((wgt x : Nat) : Int)).sum = ((1 + wgts ds : Nat) : Int) := by
        have := sum_cast (ds.map wgt)
        rw [List.map_map] at this
        rw [wgts_sum, show (ds.map fun x => ((wgt x : Nat) : Int)).sum = (((ds.map wgt).sum : Nat) : Int) from this]
        omega
      refine ⟨_, rfl, by show 2 ≤ 1000000; decide, ?_⟩
      rw [eS, ← pkeys_map]
      exact q
abbrev s__law_is_nested : Stmt := topS (27)
abbrev N__law_is_nested : List Str := ["_law_value", "_law_item"]
abbrev p__law_is_nested : List Str := ["_law_value"]
theorem sc__law_is_nested : FnScope N__law_is_nested p__law_is_nested (defScope s__law_is_nested) := ⟨rfl, rfl, rfl, by decide +kernel, rfl, by decide +kernel, by decide +kernel⟩
theorem ok_lnested (M : Mk K mg "_law_is_nested" s__law_is_nested p__law_is_nested) (m_isinstance : mg "isinstance" = none) (m_tuple : mg "tuple" = none) : ∀ N, Df P w K mg base CX0 (N + 1) "_law_is_nested" p__law_is_nested (spD Z0 (fNst N))
  | 0 => by
    obtain ⟨f, fd, F, b, g⟩ := M
    have no : ∀ vs H Q E, spD Z0 (fNst 0) vs H Q E → False := fun vs H Q E ⟨_, _, _, _, _, _, _, ⟨d, _, hd, _⟩, _⟩ => by have := dph_pos d; omega
    exact Df.of F b g (F.ok sc__law_is_nested (fun vs H Q E h => (no vs H Q E h).elim) (fun cdv A outer s H vs Q E hr h => (no vs H Q E h).elim))
  | n + 1 => by
    have d__law_is_nested := ok_lnested M m_isinstance m_tuple n
    have nd := sc__law_is_nested.nd
    have hj2 : n + 1 ≤ n + 1 := Nat.le_refl _
    refine def_ok (k := n + 1) M sc__law_is_nested (by decide) ?_ (fun f cdv A outer s H E hr => have hu := hu65 hr; (ds_cons (ds_if (dt_not (dt_val (de_isi (by rfl) m_isinstance (da_cons (dv 0) (da_cons (de_raw (pe_bltn (v := .ty "tuple") (by rfl) m_tuple (by decide +kernel) rfl)) da_nil))))) (ds_one (ds_ret de_bl)) ds_nil)
      (ds_one (ds_ret (de_eqE0 hu (de_lc (ow := [("_law_item", 1)]) (gok_name (i := 1) (by decide)) rfl nd (di_seq (dv 0)) (blkOk_by (own := [("_law_item", 1)]) (N := N__law_is_nested) (sc := defScope s__law_is_nested) (by decide +kernel)) (fun _ _ _ _ _ => pg_name (i := 1) nd rfl (Or.inl rfl)) (fun _ _ _ _ _ => (dp_one (dt_not (dt_val (de_callP (hj := hj2) d__law_is_nested pass0 hr (da_cons (dv 1) da_nil)))))) (fun _ _ _ _ _ => (dv 1))) (de_lst da_nil)))))) ?_
    · rintro s as Qd ⟨d, rfl, _⟩; rfl
    · rintro s as Qd ⟨d, rfl, hd, hW, q⟩
      refine ⟨.inr (.inr (.inr (.inl rfl))), ?_⟩
      cases d with
      | tuple ds =>
        have ld := wgts_len ds
        have hW : 1 + wgts ds ≤ 1000 := hW
        have hd : 1 + dphs ds ≤ n + 1 := hd
        refine ⟨rfl, ?_⟩
        refine lcR_fun (f := fun d => if (!nst d) = true then some d else none) (fun d hm C hC => ?_) (by show 0 + _ ≤ _; omega) ?_
        · have h1 := dphs_mem hm
          have h2 := wgts_mem hm
          refine ⟨d, rfl, by omega, by omega, .inl rfl, ?_⟩
          show if (!nst d) = true then _ else _
          by_cases z : (!nst d) = true
          · rw [if_pos z] at hC ⊢
            exact ⟨_, rfl, hC⟩
          · rw [if_neg z] at hC ⊢
            exact hC
        rw [List.nil_append, fm_if (fun d => !nst d) (fun d => d), List.map_id']
        refine ⟨_, rfl, by show 0 ≤ 1000000; decide, ?_⟩
        have e : (ds.filter fun d => !nst d).isEmpty = nst (.tuple ds) := by
          show _ = nsts ds
          rw [nsts_all, Bool.eq_iff_iff, List.isEmpty_iff, List.filter_eq_nil_iff, List.all_eq_true]
          exact ⟨fun h d hd => by have := h d hd; cases e : nst d <;> rw [e] at this <;> simp_all, fun h d hd => by rw [h d hd]; decide⟩
        show Qd (.im (.bool (ds.filter fun d => !nst d).isEmpty)) s
        rw [e]
        exact q
      | _ => exact q
abbrev s__law_is_sorted : Stmt := topS (28)
abbrev N__law_is_sorted : List Str := ["_law_key_here", "_law_items", "_law_k", "_law_item"]
abbrev p__law_is_sorted : List Str := ["_law_key_here"]
theorem sc__law_is_sorted : FnScope N__law_is_sorted p__law_is_sorted (defScope s__law_is_sorted) := ⟨rfl, rfl, rfl, by decide +kernel, rfl, by decide +kernel, by decide +kernel⟩
theorem ok_lsorted (M : Mk K mg "_law_is_sorted" s__law_is_sorted p__law_is_sorted) (m_len : mg "len" = none) (m_range : mg "range" = none) : ∀ N, Df P w K mg base CX0 (N + 1) "_law_is_sorted" p__law_is_sorted (spD Z0 (fSrt N))
  | 0 => by
    obtain ⟨f, fd, F, b, g⟩ := M
    have no : ∀ vs H Q E, spD Z0 (fSrt 0) vs H Q E → False := fun vs H Q E ⟨_, _, _, _, _, _, _, ⟨d, _, _, hd, _⟩, _⟩ => by have := dph_pos d; omega
    exact Df.of F b g (F.ok sc__law_is_sorted (fun vs H Q E h => (no vs H Q E h).elim) (fun cdv A outer s H vs Q E hr h => (no vs H Q E h).elim))
  | n + 1 => by
    have d__law_is_sorted := ok_lsorted M m_len m_range n
    have nd := sc__law_is_sorted.nd
    have hj2 : n + 1 ≤ n + 1 := Nat.le_refl _
    refine def_ok (k := n + 1) M sc__law_is_sorted (by decide) ?_ (fun f cdv A outer s H E hr => have hu := hu65 hr; (ds_cons (ds_set (i := 1) nd rfl (.inr rfl) (de_ix (dv 0) de_int))
      (ds_cons (ds_if (dt_neE hu (de_lc (ow := [("_law_k", 2)]) (gok_name (i := 2) (by decide)) rfl nd (di_r2 (by rfl) m_range (da_cons de_int (da_cons (de_len (by rfl) m_len (da_cons (dv 1) da_nil)) da_nil))) (blkOk_by (own := [("_law_k", 2)]) (N := N__law_is_sorted) (sc := defScope s__law_is_sorted) (by decide +kernel)) (fun _ _ _ _ _ => pg_name (i := 2) nd rfl (Or.inl rfl)) (fun _ _ _ _ _ => (dp_one (dt_gtG hu (de_ix (dv 1) (de_sub (dv 2) de_int)) (de_ix (dv 1) (dv 2))))) (fun _ _ _ _ _ => (dv 2))) (de_lst da_nil)) (ds_one (ds_ret de_bl)) ds_nil)
      (ds_one (ds_ret (de_eqE0 hu (de_lc (ow := [("_law_item", 3)]) (gok_name (i := 3) (by decide)) rfl nd (di_seq (dv 1)) (blkOk_by (own := [("_law_item", 3)]) (N := N__law_is_sorted) (sc := defScope s__law_is_sorted) (by decide +kernel)) (fun _ _ _ _ _ => pg_name (i := 3) nd rfl (Or.inl rfl)) (fun _ _ _ _ _ => (dp_one (dt_not (dt_val (de_callP (hj := hj2) d__law_is_sorted pass0 hr (da_cons (dv 3) da_nil)))))) (fun _ _ _ _ _ => (dv 3))) (de_lst da_nil))))))) ?_
    · rintro s as Qd ⟨d, rfl, _⟩; rfl
    · rintro s as Qd ⟨d, rfl, hN, hd, h26, hW, q⟩
      obtain ⟨ds, rfl, hs⟩ := nst_tup hN
      have ld := wgts_len ds
      have hW : 1 + wgts ds ≤ 1000 := hW
      have hd : 1 + dphs ds ≤ n + 1 := hd
      have h26 : 1 + dphs ds ≤ 26 := h26
      refine ⟨.tuple (pkeys ds), atI_nat (j := 1) rfl, ?_⟩
      have eK : pkeys ds = ds.map pkey := pkeys_map ds
      have lK : (pkeys ds).length = ds.length := by rw [eK, List.length_map]
      have at_ : ∀ k, k < ds.length → ∃ x, (pkeys ds)[k]? = some (pkey x) ∧ (pkeys ds).getD k .none = pkey x ∧ x ∈ ds := fun k hk => by
        have e : (pkeys ds)[k]? = some (pkey ds[k]) := by rw [eK, List.getElem?_map, List.getElem?_eq_getElem hk]; rfl
        exact ⟨_, e, by rw [List.getD_eq_getElem?_getD, e]; rfl, List.getElem_mem hk⟩
      refine ⟨rfl, ⟨by decide, by decide⟩, ⟨by omega, by omega⟩, ?_⟩
      obtain ⟨m, hm⟩ : ∃ m, (((pkeys ds).length : Nat) : Int) - 1 = ((m : Nat) : Int) - 1 ∧ m = ds.length := ⟨ds.length, by rw [lK], rfl⟩
      have em : ((((pkeys ds).length : Nat) : Int) - 1).toNat = ds.length - 1 := by rw [lK]; omega
      show lcR _ _ _ _ (rngD 1 ((((pkeys ds).length : Nat) : Int) - 1).toNat) _ [] _
      rw [em]
      refine lcR_map (h := fun k : Nat => PyData.int (1 + (k : Nat))) (f := fun k => if PySem.W.dataLt ((pkeys ds).getD (k + 1) .none) ((pkeys ds).getD k .none) = true then some (.int (1 + (k : Nat))) else none) (fun k hk C hC => ?_) (by rw [List.length_range]; show 0 + _ ≤ _; omega) ?_
      · have hk := List.mem_range.mp hk
        obtain ⟨x, x1, x2, x3⟩ := at_ k (by omega)
        obtain ⟨y, y1, y2, y3⟩ := at_ (k + 1) (by omega)
        rw [x2, y2] at hC
        have nx := nsts_iff.mp hs x x3
        have ny := nsts_iff.mp hs y y3
        have dx := (dep_nst x nx).2
        have hx := dphs_mem x3
        refine ⟨pkey x, ?_, pkey y, ?_, alike_key x y nx ny, fun e => ?_, (lay_nst x nx).2, (lay_nst y ny).2, by omega, ?_⟩
        · rw [show (1 : Int) + (k : Nat) - 1 = ((k : Nat) : Int) by omega]
          exact atI_nat x1
        · rw [show (1 : Int) + (k : Nat) = ((k + 1 : Nat) : Int) by omega]
          exact atI_nat y1
        · obtain ⟨es, rfl, _⟩ := nst_tup nx
          cases e
        · show if PySem.W.dataLt (pkey y) (pkey x) = true then _ else _
          by_cases z : PySem.W.dataLt (pkey y) (pkey x) = true
          · rw [if_pos z] at hC ⊢
            exact ⟨_, rfl, hC⟩
          · rw [if_neg z] at hC ⊢
            exact hC
      rw [List.nil_append, fm_if (fun k => PySem.W.dataLt ((pkeys ds).getD (k + 1) .none) ((pkeys ds).getD k .none)) (fun k : Nat => PyData.int (1 + (k : Nat)))]
      refine ⟨_, rfl, by show 0 ≤ 1000000; decide, ?_⟩
      have eO : ord (.tuple ds) = (chn (pkeys ds) && ds.all ord) := by rw [← ords_all]; rfl
      rw [eO] at q
      have eC : (((List.range (ds.length - 1)).filter fun k => PySem.W.dataLt ((pkeys ds).getD (k + 1) .none) ((pkeys ds).getD k .none)).map fun k : Nat => PyData.int (1 + (k : Nat))).isEmpty = chn (pkeys ds) := by
        rw [List.isEmpty_map, Bool.eq_iff_iff, List.isEmpty_iff, List.filter_eq_nil_iff, chn_iff, adj_iff (R := fun a b => PySem.W.dataLt b a = false) fun a b c => le_transA]
        constructor
        · intro h k hk
          have := h k (List.mem_range.mpr (by omega))
          cases e : PySem.W.dataLt ((pkeys ds).getD (k + 1) .none) ((pkeys ds).getD k .none) with
          | false => rfl
          | true => exact absurd e this
        · intro h k hk
          have hk := List.mem_range.mp hk
          rw [h k (by omega)]
          exact Bool.false_ne_true
      show if (!(((List.range (ds.length - 1)).filter fun k => PySem.W.dataLt ((pkeys ds).getD (k + 1) .none) ((pkeys ds).getD k .none)).map fun k : Nat => PyData.int (1 + (k : Nat))).isEmpty) = true then _ else _
      rw [eC]
      cases hC : chn (pkeys ds) with
      | false =>
        rw [if_pos (by decide)]
        rw [hC] at q
        exact q
      | true =>
        rw [if_neg (by decide)]
        rw [hC, Bool.true_and] at q
        refine ⟨rfl, ?_⟩
        rw [eK]
        refine lcR_map (h := pkey) (f := fun x => if (!ord x) = true then some (pkey x) else none) (fun x hx C hC => ?_) (by show 0 + _ ≤ _; omega) ?_
        · have h1 := dphs_mem hx
          have h2 := wgts_mem hx
          refine ⟨x, rfl, nsts_iff.mp hs x hx, by omega, by omega, by omega, .inl rfl, ?_⟩
          show if (!ord x) = true then _ else _
          by_cases z : (!ord x) = true
          · rw [if_pos z] at hC ⊢
            exact ⟨_, rfl, hC⟩
          · rw [if_neg z] at hC ⊢
            exact hC
        rw [List.nil_append, fm_if (fun x => !ord x) pkey]
        refine ⟨_, rfl, by show 0 ≤ 1000000; decide, ?_⟩
        have e : ((ds.filter fun x => !ord x).map pkey).isEmpty = ds.all ord := by
          rw [List.isEmpty_map, Bool.eq_iff_iff, List.isEmpty_iff, List.filter_eq_nil_iff, List.all_eq_true]
          exact ⟨fun h d hd => by have := h d hd; cases e : ord d <;> rw [e] at this <;> simp_all, fun h d hd => by rw [h d hd]; decide⟩
        show Qd (.im (.bool ((ds.filter fun x => !ord x).map pkey).isEmpty)) s
        rw [e]
        exact q
abbrev s__law_is_light : Stmt := topS (30)
abbrev N__law_is_light : List Str := ["_law_key_here", "_law_item", "_law_lighter", "_law_other"]
abbrev p__law_is_light : List Str := ["_law_key_here"]
theorem sc__law_is_light : FnScope N__law_is_light p__law_is_light (defScope s__law_is_light) := ⟨rfl, rfl, rfl, by decide +kernel, rfl, by decide +kernel, by decide +kernel⟩
theorem ok_llight (M : Mk K mg "_law_is_light" s__law_is_light p__law_is_light) (m_sum : mg "sum" = none) : ∀ N, Df P w K mg base CX0 (N + 1) "_law_is_light" p__law_is_light (spD Z0 (fLit N))
  | 0 => by
    obtain ⟨f, fd, F, b, g⟩ := M
    have no : ∀ vs H Q E, spD Z0 (fLit 0) vs H Q E → False := fun vs H Q E ⟨_, _, _, _, _, _, _, ⟨d, _, _, hd, _⟩, _⟩ => by have := dph_pos d; omega
    exact Df.of F b g (F.ok sc__law_is_light (fun vs H Q E h => (no vs H Q E h).elim) (fun cdv A outer s H vs Q E hr h => (no vs H Q E h).elim))
  | n + 1 => by
    have d__law_is_light := ok_llight M m_sum n
    have nd := sc__law_is_light.nd
    have hj2 : n + 1 ≤ n + 1 := Nat.le_refl _
    refine def_ok (k := n + 1) M sc__law_is_light (by decide) ?_ (fun f cdv A outer s H E hr => have hu := hu65 hr; (ds_cons (ds_for PassesOwn.never rfl (di_seq (de_ix (dv 0) de_int)) (dg_name (i := 1) nd rfl (.inr rfl))
      (ds_cons (ds_set (i := 2) nd rfl (.inl rfl) (de_sum rfl (by rfl) m_sum (da_cons (de_lc (ow := [("_law_other", 3)]) (gok_name (i := 3) (by decide)) rfl nd (di_seq (de_ix (dv 0) de_int)) (blkOk_by (own := [("_law_other", 3)]) (N := N__law_is_light) (sc := defScope s__law_is_light) (by decide +kernel)) (fun _ _ _ _ _ => pg_name (i := 3) nd rfl (Or.inl rfl)) (fun _ _ _ _ _ => (dp_one (dt_lt (de_ix (dv 3) de_int) (de_ix (dv 1) de_int)))) (fun _ _ _ _ _ => (de_ix (dv 3) de_int))) da_nil)))
      (ds_one (ds_if (PW.pt (dw_or (dt_gt (de_ix (dv 1) de_int) (de_add de_int (dv 2))) (dw_or1 (dt_not (dt_val (de_callP (hj := hj2) d__law_is_light pass0 hr (da_cons (dv 1) da_nil))))))) (ds_one (ds_ret de_bl)) ds_nil))))
      (ds_one (ds_ret de_bl)))) ?_
    · rintro s as Qd ⟨d, rfl, _⟩; rfl
    · rintro s as Qd ⟨d, rfl, hN, hd, hW, q⟩
      obtain ⟨ds, rfl, hs⟩ := nst_tup hN
      have ld := wgts_len ds
      have hW : 1 + wgts ds ≤ 1000 := hW
      have hd : 1 + dphs ds ≤ n + 1 := hd
      have eK : pkeys ds = ds.map pkey := pkeys_map ds
      refine ⟨.tuple (pkeys ds), atI_nat (j := 1) rfl, rfl, ?_⟩
      rw [eK]
      refine ⟨fun k s ρ => ∃ x1 x2 : Sl, ρ = [.im (pkey (.tuple ds)), x1, x2, .no] ∧ ∀ x ∈ ds.take k, lgt x = true ∧ wgt x ≤ 1 + ((ds.map wgt).filter fun y => decide (y < wgt x)).sum, ⟨_, _, rfl, fun x hx => by rw [List.take_zero] at hx; cases hx⟩, ?_, ?_⟩
      · rintro k d s ρ hk ⟨x1, x2, rfl, ok⟩
        rw [List.getElem?_map] at hk
        obtain ⟨x, hx, rfl⟩ := Option.map_eq_some_iff.mp hk
        have mx := List.mem_of_getElem? hx
        have nx := nsts_iff.mp hs x mx
        have h1 := dphs_mem mx
        have h2 := wgts_mem mx
        obtain ⟨es, ex, hes⟩ := nst_tup nx
        refine ⟨rfl, .tuple (pkeys ds), atI_nat (j := 1) rfl, ?_⟩
        rw [eK]
        refine lcR_map (h := pkey) (f := fun y => if decide (wgt y < wgt x) = true then some (.int (wgt y : Nat)) else none) (fun y hy C hC => ?_) (by show 0 + _ ≤ _; omega) ?_
        · obtain ⟨ey, rfl, _⟩ := nst_tup (nsts_iff.mp hs y hy)
          subst ex
          refine ⟨_, atI_nat (j := 0) rfl, _, atI_nat (j := 0) rfl, ?_⟩
          show if decide (((wgt (.tuple ey) : Nat) : Int) < ((wgt (.tuple es) : Nat) : Int)) = true then _ else _
          by_cases z : wgt (.tuple ey) < wgt (.tuple es)
          · rw [if_pos (decide_eq_true (by omega))]
            rw [if_pos (decide_eq_true z)] at hC
            exact ⟨_, atI_nat (j := 0) rfl, _, rfl, hC⟩
          · rw [if_neg (by rw [decide_eq_false (by omega)]; decide)]
            rw [if_neg (by rw [decide_eq_false z]; decide)] at hC
            exact hC
        rw [List.nil_append, fm_if (fun y => decide (wgt y < wgt x)) (fun y => PyData.int (wgt y : Nat))]
        have eF : (ds.filter fun y => decide (wgt y < wgt x)).map (fun y => PyData.int (wgt y : Nat)) = (((ds.map wgt).filter fun y => decide (y < wgt x)).map fun y => ((y : Nat) : Int)).map PyData.int := by
          rw [List.filter_map, List.map_map, List.map_map]
          rfl
        rw [eF]
        refine ⟨_, rfl, ?_⟩
        rw [sum_cast]
        have no : (lgt x = false ∨ ¬ wgt x ≤ 1 + ((ds.map wgt).filter fun y => decide (y < wgt x)).sum) → lgt (.tuple ds) = false := fun h => by
          show (lgtR (ds.map wgt) && lgts ds) = false
          rw [lgts_all]
          rcases h with h | h
          · cases e : ds.all lgt with
            | false => rw [Bool.and_false]
            | true => rw [List.all_eq_true.mp e x mx] at h; cases h
          · cases e : lgtR (ds.map wgt) with
            | false => rfl
            | true => exact absurd (of_decide_eq_true (List.all_eq_true.mp e _ (List.mem_map.mpr ⟨x, mx, rfl⟩))) h
        subst ex
        refine ⟨_, atI_nat (j := 0) rfl, ?_⟩
        show if decide ((1 : Int) + ((((ds.map wgt).filter fun y => decide (y < wgt (.tuple es))).sum : Nat) : Int) < ((wgt (.tuple es) : Nat) : Int)) = true then _ else _
        by_cases z : wgt (.tuple es) ≤ 1 + ((ds.map wgt).filter fun y => decide (y < wgt (.tuple es))).sum
        · rw [if_neg (by rw [decide_eq_false (by omega)]; decide)]
          refine ⟨.tuple es, rfl, nx, by omega, by omega, .inl rfl, ?_⟩
          show if (!lgt (.tuple es)) = true then _ else _
          cases hL : lgt (.tuple es) with
          | false =>
            rw [if_pos (by decide)]
            rw [no (.inl hL)] at q
            exact q
          | true =>
            rw [if_neg (by decide)]
            refine ⟨_, _, rfl, fun y hy => ?_⟩
            rw [take_snoc hx] at hy
            rcases List.mem_append.mp hy with hy | hy
            · exact ok y hy
            · rw [List.mem_singleton.mp hy]
              exact ⟨hL, z⟩
        · rw [if_pos (decide_eq_true (by omega))]
          rw [no (.inr z)] at q
          exact q
      · rintro s ρ ⟨x1, x2, rfl, ok⟩
        rw [List.length_map, List.take_length] at ok
        have e : lgt (.tuple ds) = true := by
          show (lgtR (ds.map wgt) && lgts ds) = true
          rw [lgts_all, Bool.and_eq_true]
          refine ⟨List.all_eq_true.mpr fun y hy => ?_, List.all_eq_true.mpr fun x hx => (ok x hx).1⟩
          obtain ⟨x, hx, rfl⟩ := List.mem_map.mp hy
          exact decide_eq_true (ok x hx).2
        rw [e] at q
        exact q
end
end Lf
namespace Lf
open PySem PySem.Spec PyProof.Rows L2
/-! ## statements and defs that may raise an own error -/
/-- an error's field and what it holds; none for an error without fields -/
abbrev Er := Option (Str × PyData)
def ErrAt (B : Addr → Prop) (H : Hp) : Er → Option Addr → Prop
  | none, none => True
  | some (f, d), some dx => ∃ v, H dx = some (.xd [(f, v)]) ∧ Im B H v d
  | _, _ => False
theorem ErrAt.bad {B B' : Addr → Prop} {H : Hp} {o : Er} {dx : Option Addr} (hB : ∀ a, B' a → B a) (h : ErrAt B H o dx) : ErrAt B' H o dx := by
  cases o with
  | none => cases dx with
    | none => trivial
    | some _ => exact h.elim
  | some p => cases dx with
    | none => exact h.elim
    | some dx =>
      obtain ⟨v, h1, h2⟩ := h
      exact ⟨v, h1, Im.bad hB h2⟩
def cleanO : Er → Bool
  | none => true
  | some (_, d) => noL d
theorem ErrAt.free {B B' : Addr → Prop} {H : Hp} {o : Er} {dx : Option Addr} (hc : cleanO o = true) (h : ErrAt B H o dx) : ErrAt B' H o dx := by
  cases o with
  | none => cases dx with
    | none => trivial
    | some _ => exact h.elim
  | some p => cases dx with
    | none => exact h.elim
    | some dx =>
      obtain ⟨v, h1, h2⟩ := h
      exact ⟨v, h1, Im.free hc h2⟩
def okE (rs : List Rv) (o : Er) : Prop := rs.any isBo = false ∨ cleanO o = true
structure DEx (Z : Zn) where
  e : DEnds Z
  xr : Addr → Er → Z.S → List Sl → Prop
abbrev DSx (Z : Zn) := DEx Z → Z.S → List Sl → Prop
abbrev DXx (Z : Zn) := Z.S → List Sl → (Rv → Z.S → Prop) → (Addr → Er → Z.S → Prop) → Prop
def liftX (Z : Zn) (W : WX) (d : DSx Z) : TS := fun D σ H => ∃ (B0 : Addr → Prop) (H0 : Hp) (ρ : List Sl) (s : Z.S) (De : DEx Z), Rel Z B0 H0 ρ s σ H ∧ d De s ρ ∧
  (∀ s' ρ' σ' H', De.e.nx s' ρ' → Rel Z B0 H0 ρ' s' σ' H' → Stp Z B0 ρ H ρ' H' → D.nx σ' H') ∧
  (∀ s' ρ' σ' H', De.e.bk s' ρ' → Rel Z B0 H0 ρ' s' σ' H' → Stp Z B0 ρ H ρ' H' → D.bk σ' H') ∧
  (∀ s' ρ' σ' H', De.e.ct s' ρ' → Rel Z B0 H0 ρ' s' σ' H' → Stp Z B0 ρ H ρ' H' → D.ct σ' H') ∧
  (∀ r s' v H', De.e.rt r s' → Z.ok s' H' → Gr Z H0 H' → RvR Z B0 [] H0 H' v r → D.rt v H') ∧
  (∀ C o s' ρ' σ' dx H', De.xr C o s' ρ' → Rel Z B0 H0 ρ' s' σ' H' → Stp Z B0 ρ H ρ' H' → ErrAt (Bad Z B0 ρ') H' o dx → W (.ref C) dx σ' H')
def liftEX (Z : Zn) (W : WX) (d : DXx Z) : TE := fun σ H Q => ∃ (B0 : Addr → Prop) (H0 : Hp) (ρ : List Sl) (s : Z.S) (Qd : Rv → Z.S → Prop) (Xd : Addr → Er → Z.S → Prop), Rel Z B0 H0 ρ s σ H ∧ d s ρ Qd Xd ∧
  (∀ r s' v H', Qd r s' → Rel Z B0 H0 ρ s' σ H' → Gr Z H H' → RvR Z B0 ρ H H' v r → Q v H') ∧
  (∀ C o s' dx H', Xd C o s' → Rel Z B0 H0 ρ s' σ H' → Gr Z H H' → ErrAt (Bad Z B0 ρ) H' o dx → W (.ref C) dx σ H')
abbrev DFX (Z : Zn) := Z.S → List Sl → (Rv → Z.S → Prop) → (Addr → Er → Z.S → Prop) → Prop
def spX (Z : Zn) (F : DFX Z) : Sp := fun vs H Q E => ∃ (B0 : Addr → Prop) (s : Z.S) (as : List Sl) (Qd : Rv → Z.S → Prop) (Xd : Addr → Er → Z.S → Prop), Z.ok s H ∧ (∀ a, B0 a → H a ≠ none) ∧ ArgRs (Bad Z B0 []) H vs as ∧ F s as Qd Xd ∧
  (∀ r s' v H', Qd r s' → Z.ok s' H' → Gr Z H H' → RvR Z B0 [] H H' v r → Q v H') ∧ (∀ C o s' dx H', Xd C o s' → Z.ok s' H' → Gr Z H H' → ErrAt (Bad Z B0 []) H' o dx → E (.ref C) dx H')
section
variable {Z : Zn} {X : Cx} {W : WX} {B0 : Addr → Prop} {H0 H H1 H2 : Hp} {ρ ρ1 ρ2 : List Sl} {s s1 s2 : Z.S} {σ : L2.St} {e a b c tg : Expr} {es rest : List Expr} {de da db dc : DX Z} {dt du : DT Z} {das : DA Z} {pos p : Pos} {st : Stmt} {sts as bs : List Stmt} {d : DSt Z} {t u : DSx Z} {q q' : DXx Z}
def emb (d : DSt Z) : DSx Z := fun De s ρ => d De.e s ρ
theorem dx_of (h : DS Z X st d) : PS X st (liftX Z W (emb d)) := PS.of h fun D σ H ⟨B0, H0, ρ, s, De, R, hd, hn, hb, hc, hr, _⟩ => ⟨B0, H0, ρ, s, De.e, R, hd, hn, hb, hc, hr⟩
theorem dxs_of (h : DSs Z X sts d) : PSs X sts (liftX Z W (emb d)) := PSs.of h fun D σ H ⟨B0, H0, ρ, s, De, R, hd, hn, hb, hc, hr, _⟩ => ⟨B0, H0, ρ, s, De.e, R, hd, hn, hb, hc, hr⟩
theorem dxs_nox (h : DSs Z X.nox sts d) : PSs X sts (liftX Z W (emb d)) := PSs.nox (PSs.of h fun D σ H ⟨B0, H0, ρ, s, De, R, hd, hn, hb, hc, hr, _⟩ => ⟨B0, H0, ρ, s, De.e, R, hd, hn, hb, hc, hr⟩)
def xSeq (t u : DSx Z) : DSx Z := fun De s ρ => t { De with e := { De.e with nx := u De } } s ρ
theorem dx_nil : PSs X [] (liftX Z W fun De s ρ => De.e.nx s ρ) := PSs.of pss_nil fun D σ H ⟨B0, H0, ρ, s, De, R, hd, hn, _⟩ => hn s ρ σ H hd R Stp.refl
theorem dx_cons (h1 : PS X st (liftX Z W t)) (h2 : PSs X sts (liftX Z W u)) : PSs X (st :: sts) (liftX Z W (xSeq t u)) := by
  refine PSs.of (pss_cons h1 h2) fun D σ H ⟨B0, H0, ρ, s, De, R, hd, hn, hb, hc, hr, hx⟩ => ?_
  refine ⟨B0, H0, ρ, s, _, R, hd, fun s1 ρ1 σ1 H1 q R1 st => ?_, hb, hc, hr, hx⟩
  exact ⟨B0, H0, ρ1, s1, De, R1, q, fun s2 ρ2 σ2 H2 q R2 st2 => hn s2 ρ2 σ2 H2 q R2 (st.trans R1 st2), fun s2 ρ2 σ2 H2 q R2 st2 => hb s2 ρ2 σ2 H2 q R2 (st.trans R1 st2), fun s2 ρ2 σ2 H2 q R2 st2 => hc s2 ρ2 σ2 H2 q R2 (st.trans R1 st2), hr, fun C o s2 ρ2 σ2 dx H2 q R2 st2 => hx C o s2 ρ2 σ2 dx H2 q R2 (st.trans R1 st2)⟩
theorem dx_one (h1 : PS X st (liftX Z W t)) : PSs X [st] (liftX Z W t) := pss_one h1
def xIf (c : DT Z) (t u : DSx Z) : DSx Z := fun De s ρ => c s ρ fun b s1 => if b = true then t De s1 ρ else u De s1 ρ
theorem dx_if (hc : DTs Z X c dt) (ha : PSs X as (liftX Z W t)) (hb : PSs X bs (liftX Z W u)) : PS X (.If c as bs pos) (liftX Z W (xIf dt t u)) := by
  refine PS.of (ps_if hc ha hb) fun D σ H ⟨B0, H0, ρ, s, De, R, hd, hn, hb, hc, hr, hx⟩ => ?_
  refine ⟨B0, H0, ρ, s, _, R, hd, fun b s1 H1 q R1 g => ?_⟩
  have st := g.stp R
  cases b with
  | true => exact ⟨B0, H0, ρ, s1, De, R1, q, fun s2 ρ2 σ2 H2 q R2 st2 => hn s2 ρ2 σ2 H2 q R2 (st.trans R1 st2), fun s2 ρ2 σ2 H2 q R2 st2 => hb s2 ρ2 σ2 H2 q R2 (st.trans R1 st2), fun s2 ρ2 σ2 H2 q R2 st2 => hc s2 ρ2 σ2 H2 q R2 (st.trans R1 st2), hr, fun C o s2 ρ2 σ2 dx H2 q R2 st2 => hx C o s2 ρ2 σ2 dx H2 q R2 (st.trans R1 st2)⟩
  | false => exact ⟨B0, H0, ρ, s1, De, R1, q, fun s2 ρ2 σ2 H2 q R2 st2 => hn s2 ρ2 σ2 H2 q R2 (st.trans R1 st2), fun s2 ρ2 σ2 H2 q R2 st2 => hb s2 ρ2 σ2 H2 q R2 (st.trans R1 st2), fun s2 ρ2 σ2 H2 q R2 st2 => hc s2 ρ2 σ2 H2 q R2 (st.trans R1 st2), hr, fun C o s2 ρ2 σ2 dx H2 q R2 st2 => hx C o s2 ρ2 σ2 dx H2 q R2 (st.trans R1 st2)⟩
def xFor (wi : DI Z) (g : DG Z) (tb : DSx Z) : DSx Z := fun De s ρ => wi s ρ fun items fz s1 => fz = true ∧ ∃ I : Nat → Z.S → List Sl → Prop, I 0 s1 ρ ∧
  (∀ k d s ρ, items[k]? = some d → I k s ρ → g d ρ fun ρ' => tb { De with e := { De.e with nx := I (k + 1), ct := I (k + 1), bk := De.e.nx } } s ρ') ∧ ∀ s ρ, I items.length s ρ → De.e.nx s ρ
theorem dx_for {iter : Expr} {body : List Stmt} {wi : DI Z} {g : DG Z} (hp : PassesOwn (model X.prog X.w) X.A X.env X.xe) (hc : X.calm = true) (hi : DIs Z X tg iter wi) (hg : DGs Z X tg g) (hb : PSs X body (liftX Z W t)) (hs : ∀ x, foldedSetIterable iter X.env x = pure x := by intro _; rfl) : PS X (.For tg iter body [] pos) (liftX Z W (xFor wi g t)) := by
  refine PS.of (ps_for hp hc hi hg hb hs) fun D σ H ⟨B0, H0, ρ, s, De, R, hd, hn, hbk, hct, hr, hx⟩ => ?_
  refine ⟨B0, H0, ρ, s, _, R, hd, fun items fz s1 J H1 q R1 g1 ok => ?_⟩
  obtain ⟨rfl, I, i0, turn, fin⟩ := q
  have st1 := g1.stp R
  refine ⟨fun i m σ' H' => m = items.length - i ∧ i ≤ items.length ∧ ∃ s' ρ', I i s' ρ' ∧ Rel Z B0 H0 ρ' s' σ' H' ∧ Stp Z B0 ρ H1 ρ' H', ⟨items.length, by simp, Nat.zero_le _, s1, ρ, i0, R1, Stp.refl⟩, ?_⟩
  rintro i m σ2 H2 ⟨rfl, hi, s2, ρ2, i2, R2, st2⟩
  have k2 : ∀ b o, H1 b = some o → ¬ Bad Z B0 ρ b → H2 b = some o ∧ ¬ Bad Z B0 ρ2 b := fun b o e n => ⟨st2.keep b o e n, fun z => by
    rcases z with z | z | z
    · exact n (.inl z)
    · exact n (.inr (.inl z))
    · rcases st2.owns b z with z | z
      · exact n (.inr (.inr z))
      · rw [z] at e; cases e⟩
  obtain ⟨go, yl, stop⟩ := ok H2 (Bad Z B0 ρ2) (fun b o e n => st2.keep b o e n) k2 st2.tups st2.frzs
  by_cases hlt : i < items.length
  · refine .inr ⟨go i hlt, fun σ' H' => ∃ s' ρ', I (i + 1) s' ρ' ∧ Rel Z B0 H0 ρ' s' σ' H' ∧ Stp Z B0 ρ H1 ρ' H', fun σ' H' h => ⟨items.length - (i + 1), by omega, rfl, hlt, h⟩, fun x H' hy => ?_⟩
    obtain ⟨sm, im⟩ := yl i items[i] x H' (List.getElem?_eq_getElem hlt) hy
    have R3 := R2.same sm
    have st3 := st2.trans R2 (Gr.stp (H1 := H') R2 (Gr.of sm))
    refine ⟨B0, H0, ρ2, s2, items[i], _, R3, im, turn i _ s2 ρ2 (List.getElem?_eq_getElem hlt) i2, fun ρ3 σ3 q3 R4 ho => ?_⟩
    have st4 : Stp Z B0 ρ H1 ρ3 H' := ⟨st3.keep, st3.tups, st3.frzs, fun a ha => st3.owns a (ho a ha)⟩
    exact ⟨B0, H0, ρ3, s2, _, R4, q3, fun s5 ρ5 σ5 H5 q5 R5 st5 => ⟨s5, ρ5, q5, R5, st4.trans R4 st5⟩, fun s5 ρ5 σ5 H5 q5 R5 st5 => hn s5 ρ5 σ5 H5 q5 R5 (st1.trans R1 (st4.trans R4 st5)), fun s5 ρ5 σ5 H5 q5 R5 st5 => ⟨s5, ρ5, q5, R5, st4.trans R4 st5⟩, hr, fun C o s5 ρ5 σ5 dx H5 q5 R5 st5 => hx C o s5 ρ5 σ5 dx H5 q5 R5 (st1.trans R1 (st4.trans R4 st5))⟩
  · have e : i = items.length := by omega
    subst e
    exact .inl ⟨stop, hn s2 ρ2 σ2 H2 (fin s2 ρ2 i2) R2 (st1.trans R1 st2)⟩
/-! ### raise -/
def xRaise (C : Addr) (f : Str) (da : DA Z) : DSx Z := fun De s ρ => da s ρ fun rs s1 => ∃ r d, rs = [r] ∧ r.st = some d ∧ De.xr C (some (f, d)) s1 ρ
theorem dx_raise {nm f : Str} {C : Addr} {j : Nat} {pos' : Pos} (tk : Takes X W) (hc : X.calm = true) (R : ErrF X.prog X.w X.K X.mg X.base nm f C) (hr : Room j X.A) (ha : DAs Z X (e :: es) das) (hj : 2 ≤ j := by decide) (hg : Gl X nm := by rfl)
    (hdb : (nm == ("__debug__" : Str)) = false := by decide) (he : starEach (e :: es) X.env = (false, eval e X.env) :: starEach es X.env := by rfl) (hpl : (backTo pos (starEach es X.env)).any (·.1) = false := by rfl) :
    PS X (.Raise (some (.Call (.Name nm p) (e :: es) [] pos)) none pos') (liftX Z W (xRaise C f das)) := by
  refine PS.of (ps_raise hc tk (pmk_err R hr ha hj hg hdb he hpl)) fun D σ H ⟨B0, H0, ρ, s, De, R, hd, hn, hb, hc, hr, hx⟩ => ?_
  refine ⟨B0, H0, ρ, s, _, R, hd, fun rs s1 vs H1 q R1 g1 r1 => ?_⟩
  obtain ⟨r, d, rfl, hs, q⟩ := q
  obtain ⟨v, rfl, r2⟩ := r1.one
  have im : Im (Bad Z B0 ρ) H1 v d := RvR.st R r2 hs
  refine ⟨by show 1 ≤ 1000; decide, fun a na => ⟨a, v, rfl, upd_same, fun dx nd ne => ⟨rfl, made_out (f := f) (v := v) (Q := fun cls d H' => W cls d σ H') (Same.refl H1) (fun d' H' sm n1 h1 => ?_) a na dx nd ne⟩⟩⟩
  exact hx C _ s1 ρ σ (some d') H' q (R1.same sm) ((g1.stp R).trans R1 ((Gr.of sm).stp R1)) ⟨v, h1, im.same sm⟩
/-! ### calls that may raise -/
def xCallP (F : DFX Z0) (da : DA Z) : DXx Z := fun s ρ Q Xd => da s ρ fun rs s1 => F () (rs.map argOf) (fun r _ => okR rs r ∧ Q r s1) (fun C o _ => okE rs o ∧ Xd C o s1)
theorem lift_callX {F : DFX Z0} {σ : L2.St} {H : Hp} {Q : VK} (h : liftEX Z W (xCallP F das) σ H Q) : tCallS (spX Z0 F) (WE W) (liftA Z das) σ H Q := by
  obtain ⟨B0, H0, ρ, s, Qd, Xd, R, hd, hq, hx⟩ := h
  refine ⟨B0, H0, ρ, s, _, R, hd, fun rs s1 vs H1 qx R1 g1 r1 => ?_⟩
  have hzn : ∀ p, H1 p = none → ¬ Z.at_ p := fun p hp z => Z.trk R1.ok z hp
  have same : ∀ {H2 : Hp}, Gr Z0 H1 H2 → Same H1 H2 := fun g b o e => g b o e id
  cases hb : rs.any isBo with
  | false =>
    have eB : ∀ a, Bad Z0 (fun a => Bad Z B0 ρ a) [] a ↔ Bad Z B0 ρ a := fun a => ⟨fun z => z.elim (fun z => z.elim) fun z => z.elim id (fun z => absurd z List.not_mem_nil), fun z => .inr (.inl z)⟩
    refine ⟨fun a => Bad Z B0 ρ a, (), _, _, _, trivial, fun a ha => R1.bad ha, args_st R (fun a z => (eB a).mp z) r1 hb, qx, fun r s2 v H2 q ok2 g2 rr => ?_, fun C o s2 dx H2 q ok2 g2 er => ?_⟩
    · have rr2 : RvR Z B0 ρ H1 H2 v r := res_ok (fun _ _ => .inr trivial) (fun a z => (eB a).mpr z) hzn rr
      exact hq r s1 v H2 q.2 (R1.same (same g2)) (g1.trans (Gr.of (same g2))) (rr2.back R1.ok g1)
    · exact hx C o s1 dx H2 q.2 (R1.same (same g2)) (g1.trans (Gr.of (same g2))) (er.bad fun a z => (eB a).mpr z)
  | true =>
    refine ⟨fun a => Z.at_ a ∨ B0 a, (), _, _, _, trivial, fun a ha => ha.elim (fun z => Z.trk R1.ok z) (R1.btr a), args_rd R (fun a z => z.elim (fun z => z.elim) fun z => z.elim id fun z => by cases z) r1, qx, fun r s2 v H2 q ok2 g2 rr => ?_, fun C o s2 dx H2 q ok2 g2 er => ?_⟩
    · have hc : cleanR r = true := q.1.elim (fun z => by rw [hb] at z; cases z) id
      have rr2 : RvR Z B0 ρ H1 H2 v r := res_clean hzn hc rr
      exact hq r s1 v H2 q.2 (R1.same (same g2)) (g1.trans (Gr.of (same g2))) (rr2.back R1.ok g1)
    · have hc : cleanO o = true := q.1.elim (fun z => by rw [hb] at z; cases z) id
      exact hx C o s1 dx H2 q.2 (R1.same (same g2)) (g1.trans (Gr.of (same g2))) (er.free hc)
theorem dxe_call {F : DFX Z0} {k j : Nat} {ps : List Str} {n : Str} (tk : Takes X W) (D : Df X.prog X.w X.K X.mg X.base (L2.CX X.prog X.w) k n ps (spX Z0 F)) (hr : Room j X.A) (ha : DAs Z X (e :: es) das) (hj : k ≤ j := by decide) (hg : Gl X n := by rfl)
    (hdb : (n == ("__debug__" : Str)) = false := by decide) (he : starEach (e :: es) X.env = (false, eval e X.env) :: starEach es X.env := by rfl) (hpl : (backTo pos (starEach es X.env)).any (·.1) = false := by rfl) : PE X (.Call (.Name n p) (e :: es) [] pos) (liftEX Z W (xCallP F das)) :=
  PE.of (pe_dS (E := WE W) D hr (fun σ => passAt tk σ) ha hj hg hdb he hpl) fun σ H Q h => lift_callX h
/-- a call of a local name that holds a def which lets nothing out -/
def dCallL (i : Nat) (f : Addr) (F : DF Z0) (da : DA Z) : DX Z := fun s ρ Q => ρ[i]? = some (.raw (.ref f)) ∧ dCallP F da s ρ Q
theorem de_callL {F : DF Z0} {k j i : Nat} {f : Addr} {fd : FuncData} {ps : List Str} {n : Str} (G : FnOk X.prog X.w X.K X.mg X.base CX0 k f fd ps (spD Z0 F)) (hr : Room j X.A) (hN : X.N[i]? = some n) (hv : Vis X.env.scope n) (hk : PySem.W.keepIn X.K (.ref f) = true) (hb : Binds X.K fd ps []) (ha : DAs Z X (e :: es) das) (hj : k ≤ j := by decide)
    (hdb : (n == ("__debug__" : Str)) = false := by decide) (hcd : (n == ("__classdict__" : Str)) = false := by decide) (he : starEach (e :: es) X.env = (false, eval e X.env) :: starEach es X.env := by rfl) (hpl : (backTo pos (starEach es X.env)).any (·.1) = false := by rfl) : DE Z X (.Call (.Name n p) (e :: es) [] pos) (dCallL i f F das) := by
  refine PE.of (pe_callL (i := i) G (hr.mono hj) hN hv hk hb .nil pass0 ha hdb hcd he hpl) fun σ H Q ⟨B0, H0, ρ, s, Qd, R, hd, hq⟩ => ?_
  obtain ⟨o, h1, h2⟩ := R.sl i _ hd.1
  cases (show o = some (.ref f) from h2)
  exact ⟨h1, lift_callP ⟨B0, H0, ρ, s, Qd, R, hd.2, hq⟩⟩
def xEmb (de : DX Z) : DXx Z := fun s ρ Q _ => de s ρ Q
theorem dxe_of (h : DE Z X e de) : PE X e (liftEX Z W (xEmb de)) := PE.of h fun σ H Q ⟨B0, H0, ρ, s, Qd, _, R, hd, hq, _⟩ => ⟨B0, H0, ρ, s, Qd, R, hd, hq⟩
def xIfE (dt : DT Z) (q q' : DXx Z) : DXx Z := fun s ρ Q Xd => dt s ρ fun b s1 => if b = true then q s1 ρ Q Xd else q' s1 ρ Q Xd
theorem dxe_if (hc : DTs Z X c dt) (ha : PE X a (liftEX Z W q)) (hb : PE X b (liftEX Z W q')) : PE X (.IfExp c a b pos) (liftEX Z W (xIfE dt q q')) := by
  refine PE.of (pe_ifExp hc ha hb) fun σ H Q ⟨B0, H0, ρ, s, Qd, Xd, R, hd, hq, hx⟩ => ?_
  refine ⟨B0, H0, ρ, s, _, R, hd, fun c s1 H1 qx R1 g1 => ?_⟩
  cases c with
  | true => exact ⟨B0, H0, ρ, s1, Qd, Xd, R1, qx, fun r s2 v H2 q R2 g2 r2 => hq r s2 v H2 q R2 (g1.trans g2) (r2.back R1.ok g1), fun C o s2 dx H2 q R2 g2 er => hx C o s2 dx H2 q R2 (g1.trans g2) er⟩
  | false => exact ⟨B0, H0, ρ, s1, Qd, Xd, R1, qx, fun r s2 v H2 q R2 g2 r2 => hq r s2 v H2 q R2 (g1.trans g2) (r2.back R1.ok g1), fun C o s2 dx H2 q R2 g2 er => hx C o s2 dx H2 q R2 (g1.trans g2) er⟩
def xExpr (q : DXx Z) : DSx Z := fun De s ρ => q s ρ (fun _ s1 => De.e.nx s1 ρ) fun C o s1 => De.xr C o s1 ρ
theorem dx_expr (he : PE X e (liftEX Z W q)) (hs : swapsWith e none pos.line X.env = pure false := by rfl) : PS X (.Expr e pos) (liftX Z W (xExpr q)) := by
  refine PS.of (ps_expr he hs) fun D σ H ⟨B0, H0, ρ, s, De, R, hd, hn, hb, hc, hr, hx⟩ => ?_
  exact ⟨B0, H0, ρ, s, _, _, R, hd, fun r s1 v H1 q R1 g r1 => hn s1 ρ σ H1 q R1 (g.stp R), fun C o s1 dx H1 q R1 g er => hx C o s1 ρ σ dx H1 q R1 (g.stp R) er⟩
def xSet (i : Nat) (q : DXx Z) : DSx Z := fun De s ρ => q s ρ (fun r s1 => stR r i ρ fun ρ' => De.e.nx s1 ρ') fun C o s1 => De.xr C o s1 ρ
theorem dx_set {i : Nat} {n : Str} {pos' : Pos} (hN : X.N.Nodup) (hi : X.N[i]? = some n) (hx : Loc X.env.scope n) (he : PE X e (liftEX Z W q)) (hs : swapsWith e (some (.Name n pos')) pos.line X.env = pure false := by rfl) (hf : X.fn n = true ∨ X.env.scope.names.lookup n = some .local := by first | exact .inl rfl | exact .inr rfl | assumption) :
    PS X (.Assign [.Name n pos'] e pos) (liftX Z W (xSet i q)) := by
  refine PS.of (ps_set hN hi hx he hs hf) fun D σ H ⟨B0, H0, ρ, s, De, R, hd, hn, hb, hc, hr, hx⟩ => ?_
  refine ⟨B0, H0, ρ, s, _, _, R, hd, fun r s1 v H1 qx R1 g1 r1 => ?_, fun C o s1 dx H1 q R1 g er => hx C o s1 ρ σ dx H1 q R1 (g.stp R) er⟩
  obtain ⟨ρ', q, R', st⟩ := stR_ok R R1 g1 r1 qx
  exact hn s1 ρ' _ H1 q R' st
def xRet (q : DXx Z) : DSx Z := fun De s ρ => q s ρ (fun r s1 => De.e.rt r.ret s1) fun C o s1 => De.xr C o s1 ρ
theorem dx_ret (he : PE X e (liftEX Z W q)) : PS X (.Return (some e) pos) (liftX Z W (xRet q)) := by
  refine PS.of (ps_ret he) fun D σ H ⟨B0, H0, ρ, s, De, R, hd, hn, hb, hc, hr, hx⟩ => ?_
  exact ⟨B0, H0, ρ, s, _, _, R, hd, fun r s1 v H1 q R1 g r1 => hr _ s1 v H1 q R1.ok (fun b o e n => R1.frm b o e n) (ret_ok R R1 r1), fun C o s1 dx H1 q R1 g er => hx C o s1 ρ σ dx H1 q R1 (g.stp R) er⟩
end
/-! ### defs -/
def endsX {Z : Zn} (Qd : Rv → Z.S → Prop) (Xd : Addr → Er → Z.S → Prop) : DEx Z := ⟨ends Qd, fun C o s' _ => Xd C o s'⟩
section
variable {P : Program} {w : World} {K : PySem.W.Frag} {mg : Str → Option Value} {base : Heap} {Z : Zn}
theorem body_okX {N : List Str} {d : DSx Z} {F : DFX Z} {vs : List V} {Q : VK} {E : XK} {H : Hp} (hl : vs.length ≤ N.length) (hd : ∀ s as Qd Xd, F s as Qd Xd → d (endsX Qd Xd) s (as ++ List.replicate (N.length - as.length) .no)) (h : spX Z F vs H Q E) : liftX Z (fun cls dx _ H' => E cls dx H') d { nx := fun _ H' => Q .non H', rt := Q } (L2.start N vs) H := by
  obtain ⟨B0, s, as, Qd, Xd, ok, hB, ha, hf, hq, hx⟩ := h
  refine ⟨B0, H, _, s, endsX Qd Xd, rel_start ok hB ha hl, hd s as Qd Xd hf, fun s' ρ' σ' H' q R' st => ?_, fun _ _ _ _ q => q.elim, fun _ _ _ _ q => q.elim, fun r s' v H' q ok' g' rr => hq r s' v H' q ok' g' rr, fun C o s' ρ' σ' dx H' q R' st er => hx C o s' dx H' q R'.ok R'.frm (er.bad fun a z => ?_)⟩
  · exact hq _ s' .non H' q R'.ok R'.frm Im.non
  · rcases z with z | z | z
    · exact .inl z
    · exact .inr (.inl z)
    · cases z
theorem def_okX {nm : Str} {st : Stmt} {N ps : List Str} {k : Nat} {F : DFX Z} {d : DSx Z} (M : Mk K mg nm st ps) (Sc : FnScope N ps (defScope st)) (hl : ps.length ≤ N.length) (len : ∀ s as Qd Xd, F s as Qd Xd → as.length = ps.length)
    (body : ∀ (f : Addr) (cdv : Value) (A : Around) (outer : List Env) (s : Shared) (H : Hp) (E : XK), Room k (A.deeper (envOfC nm (defScope st) s.heap.objs.size f cdv)) → PSs (cxOf (L2.CX P w) P w K mg base N nm (defScope st) f cdv A outer s H E) (defBody st) (liftX Z (fun cls dx _ H' => E cls dx H') d))
    (hd : ∀ s as Qd Xd, F s as Qd Xd → d (endsX Qd Xd) s (as ++ List.replicate (N.length - as.length) .no)) : Df P w K mg base (L2.CX P w) (k + 1) nm ps (spX Z F) := by
  obtain ⟨f, fd, Fn, b, g⟩ := M
  have hlen : ∀ vs H Q E, spX Z F vs H Q E → vs.length = ps.length := fun vs H Q E ⟨B0, s, as, Qd, Xd, _, _, ha, hf, _⟩ => by rw [ha.length, len s as Qd Xd hf]
  refine Df.of Fn b g (Fn.okX Sc hlen fun cdv A outer s H vs Q E hr h => ⟨_, body f cdv A outer s H E hr, body_okX ?_ hd h⟩)
  rw [hlen vs H Q E h]
  exact hl
end
end Lf
namespace Lf
open PySem PySem.Spec PyProof.Rows L2
/-! ### own errors without fields: raised, and asked for their class -/
structure Err0 (K : PySem.W.Frag) (mg : Str → Option Value) (nm : Str) (C : Addr) : Prop where
  q : PySem.W.excIn K C [.type "ValueError", .type "Exception", .type "BaseException", .type "object"] "ValueError.__new__" = true
  g : mg nm = some (.ref C)
  kp : PySem.W.keepIn K (.ref C) = true
  b1 : PySem.W.subIn K (.ref C) (.type "BaseException") = some true
  t1 : PySem.W.typeIn K (.ref C) = some (.type "type")
section
variable {X : Cx} {Z : Zn} {W : WX} {nm : Str} {C : Addr} {p pos : Pos}
theorem pmk_err0 (R : Err0 X.K X.mg nm C) (hg : Gl X nm := by rfl) (hdb : (nm == ("__debug__" : Str)) = false := by decide) : PMk X (.Call (.Name nm p) [] [] pos) (fun _ H Q => Q (.ref C) none H) := by
  intro pins s σ H Q I h
  refine wpAny_Call_Name_kw (ld_glob I hg R.g ?_ hdb)
  refine PySem.W.callWith_K0 I.kIn R.kp ?_
  obtain ⟨bm, N, nm, qn, bs, hdct, sn, sub, ab, col, dd, k0, k1, k2, k3, k5, mN, hC, hN, hni, T⟩ := exc_obj I.kIn R.q
  refine wpAny_call_exc_subT PySem.F.excBase_ValueError T hC hN hni (fun h' e hm => ?_) (Nat.zero_le _)
  exact mk_of I hm (raises_own R.b1 R.t1) h (I.hok.gone hm.new)
def xRaise0 (C : Addr) : DSx Z := fun De s ρ => De.xr C none s ρ
theorem dx_raise0 {j : Nat} {pos' : Pos} (tk : Takes X W) (hc : X.calm = true) (R : Err0 X.K X.mg nm C) (hr : Room j X.A) (hg : Gl X nm := by rfl) (hdb : (nm == ("__debug__" : Str)) = false := by decide) :
    PS X (.Raise (some (.Call (.Name nm p) [] [] pos)) none pos') (liftX Z W (xRaise0 C)) := by
  refine PS.of (ps_raise hc tk (pmk_err0 R hg hdb)) fun D σ H ⟨B0, H0, ρ, s, De, R, hd, hn, hb, hc, hr, hx⟩ => ?_
  exact hx C none s ρ σ none H hd R Stp.refl trivial
theorem inst_caught0 {a D : Addr} {oe : Obj} {pn pins : List (Addr × Obj)} {σ : L2.St} {H : Hp} {s : Shared} (I : Inv (X.suite a ((a, oe) :: pn)) pins σ H s) (hz : Zc (.ref D) none oe) (hf : ∃ vs, oe.data = .fields vs) : PySem.W.InstAt s.heap a oe D none := by
  obtain ⟨hget, _⟩ := I.pin (a, oe) (List.mem_append.mpr (.inl List.mem_cons_self))
  obtain ⟨vs, hv⟩ := hf
  obtain ⟨oc, od, oda, osl⟩ := oe
  obtain ⟨h1, h2⟩ := hz
  dsimp only at h1 h2 hv
  subst h1 h2 hv
  exact ⟨hget, rfl, rfl, trivial⟩
def rIs0 (K : PySem.W.Frag) (D a : Addr) (cls : Value) (d : Option Addr) : List V → Hp → VK → Prop := fun xs H Q => ∃ (c : V) (cv : Value) (b : Bool), xs = [.ref a, c] ∧ cls = .ref D ∧ d = none ∧ ClsV c cv ∧ PySem.W.kitOne K (.ref D) cv = some b ∧ Q (.bl b) H
theorem call_is0 {a D : Addr} {cls : Value} {d : Option Addr} {oe : Obj} {pn : List (Addr × Obj)} (T : ExK X.K D) (hz : Zc cls d oe) (hf : ∃ vs, oe.data = .fields vs) : CallR (X.suite a ((a, oe) :: pn)) (.builtin "isinstance") (rIs0 X.K D a cls d) := by
  intro pins s σ H xs us Q I r h
  obtain ⟨c, cv, b, rfl, rfl, rfl, hc, ek, q⟩ := h
  obtain ⟨u1, u2, rfl, r1, r2⟩ := vals2 r
  cases (show u1 = Value.ref a from r1)
  have e2 := hc.eq r2
  subst e2
  exact PySem.W.kia_one (PySem.W.handS_kitx_exc T.ga T.gg T.sb T.hd T.ca T.cg T.ct T.cm) I.kIn (inst_caught0 I hz hf) ek (fun z => nomatch z) fun tk => ⟨.bl b, H, I.kept (t' := tk) fun _ _ z => z, rfl, q⟩
def rIs0T (K : PySem.W.Frag) (D a : Addr) (cls : Value) (d : Option Addr) : List V → Hp → VK → Prop := fun xs H Q => ∃ (t : Addr) (cs : List V) (b : Bool), xs = [.ref a, .ref t] ∧ cls = .ref D ∧ d = none ∧ H t = some (.tup cs) ∧ (∀ its, Vals cs its → PySem.W.kitAny K (.ref D) its = some b) ∧ Q (.bl b) H
theorem call_is0T {a D : Addr} {cls : Value} {d : Option Addr} {oe : Obj} {pn : List (Addr × Obj)} (T : ExK X.K D) (hz : Zc cls d oe) (hf : ∃ vs, oe.data = .fields vs) : CallR (X.suite a ((a, oe) :: pn)) (.builtin "isinstance") (rIs0T X.K D a cls d) := by
  intro pins s σ H xs us Q I r h
  obtain ⟨t, cs, b, rfl, rfl, rfl, ht, ek, q⟩ := h
  obtain ⟨u1, u2, rfl, r1, r2⟩ := vals2 r
  cases (show u1 = Value.ref a from r1)
  cases (show u2 = Value.ref t from r2)
  obtain ⟨its, rv, ⟨⟨oc, odd, oda, osl⟩, ho, hc, n, hd'⟩, _⟩ := I.tuple (SqT.of ht)
  dsimp only at hc hd'
  subst hc hd'
  exact PySem.W.kia_tup (PySem.W.handS_kitx_exc T.ga T.gg T.sb T.hd T.ca T.cg T.ct T.cm) I.kIn (inst_caught0 I hz hf) ho (ek its rv) (fun z => nomatch z) fun tk => ⟨.bl b, H, I.kept (t' := tk) fun _ _ z => z, rfl, q⟩
end
/-- an error without fields, caught, asked for three other classes -/
structure Cau0 (K : PySem.W.Frag) (mg : Str → Option Value) (nm n1 n2 n3 : Str) (C L A1 A2 A3 : Addr) : Prop where
  ex : ExK K C
  gC : mg nm = some (.ref C)
  gL : mg "LinkError" = some (.ref L)
  g1 : mg n1 = some (.ref A1)
  g2 : mg n2 = some (.ref A2)
  g3 : mg n3 = some (.ref A3)
  te : PySem.W.exmOne K (.ref C) (.ref L) = some true
  kV : PySem.W.kitOne K (.ref C) (.type "ValueError") = some true
  kC : PySem.W.kitOne K (.ref C) (.ref C) = some true
  k1 : PySem.W.kitOne K (.ref C) (.ref A1) = some false
  k2 : PySem.W.kitOne K (.ref C) (.ref A2) = some false
  k3 : PySem.W.kitOne K (.ref C) (.ref A3) = some false
theorem Cau0.any3 {K : PySem.W.Frag} {mg : Str → Option Value} {nm n1 n2 n3 : Str} {C L A1 A2 A3 : Addr} (T : Cau0 K mg nm n1 n2 n3 C L A1 A2 A3) : ∀ its, Vals [V.ref A1, V.ref A2, V.ref A3] its → PySem.W.kitAny K (.ref C) its = some false := fun its r => by
  rw [ClsV.all (.cons (.own _) (.cons (.own _) (.cons (.own _) .nil))) r]
  simp only [PySem.W.kitAny, T.k1, T.k2, T.k3]
theorem cau0_ok {K : PySem.W.Frag} {mg : Str → Option Value} {nm n1 n2 n3 : Str} {C L A1 A2 A3 : Addr} (h : cauB K C L A1 A2 A3 = true) (gC : mg nm = some (.ref C)) (gL : mg "LinkError" = some (.ref L)) (g1 : mg n1 = some (.ref A1)) (g2 : mg n2 = some (.ref A2)) (g3 : mg n3 = some (.ref A3)) : Cau0 K mg nm n1 n2 n3 C L A1 A2 A3 := by
  obtain ⟨h1, h⟩ := Bool.and_eq_true_iff.mp h
  obtain ⟨h2, h⟩ := Bool.and_eq_true_iff.mp h
  obtain ⟨h3, h⟩ := Bool.and_eq_true_iff.mp h
  obtain ⟨h4, h⟩ := Bool.and_eq_true_iff.mp h
  obtain ⟨h5, h⟩ := Bool.and_eq_true_iff.mp h
  obtain ⟨h6, h7⟩ := Bool.and_eq_true_iff.mp h
  exact ⟨exB_ok h1, gC, gL, g1, g2, g3, of_decide_eq_true h2, of_decide_eq_true h3, of_decide_eq_true h4, of_decide_eq_true h5, of_decide_eq_true h6, of_decide_eq_true h7⟩
end Lf
namespace Lf
open PySem PySem.Spec PyProof.Rows L2
/-! ### a, b = a list that a call made; great numbers shown -/
section
variable {Z : Zn} {X : Cx} {pos : Pos} {e : Expr} {de : DX Z}
def gTL (is : List Nat) : DG Z := fun x ρ Q => match x with
  | .list ds => gNs is ds ρ Q
  | _ => False
theorem dg_lst {es : List Expr} {is : List Nat} {k : Nat} (hc : X.calm = true) (hN : X.N.Nodup) (h : Nms X es is) (hn : (assignEach es X.env).length = is.length := by rfl) (hst : (assignEach es X.env).findIdx? (·.1) = none := by rfl) : DGs Z X (.Tuple es k pos) (gTL is) := by
  refine PG.of (pg_lst (n := is.length) hc (h.pgs hN) hn hst) fun v σ H Q ⟨B0, H0, ρ, s, x, Qd, R, im, hd, hq⟩ => ?_
  unfold gTL at hd
  split at hd
  · rename_i ds
    cases im with
    | im im => cases im with
      | lst e n q => exact ⟨_, _, rfl, SqL.of e, by rw [q.length]; exact gNs_len hd, nms_ok R q hd hq⟩
  · exact hd.elim
end
end Lf
namespace Lf
open PySem PySem.Spec PyProof.Rows L2
/-! ### k54: what is a shape, asked of both -/
--@raise check_shape
def shpB (m : Nat) (d : PyData) : Bool := nst d && (decide (wgt d ≤ m) && ord d)
def fShp : DF Z0 := fun s as Q => ∃ (d : PyData) (m : Nat), as = [.im d, .im (.int (m : Nat))] ∧ 1 ≤ m ∧ m ≤ 1000 ∧ dph d ≤ 26 ∧ wgt d ≤ 1000 ∧ Q (.im (.bool (shpB m d))) s
def fIsS : DF Z0 := fun s as Q => ∃ d : PyData, as = [.im d] ∧ dph d ≤ 26 ∧ wgt d ≤ 1000 ∧ Q (.im (.bool (shpB 60 d))) s
def fIsBS : DF Z0 := fun s as Q => ∃ d : PyData, as = [.im d] ∧ dph d ≤ 26 ∧ wgt d ≤ 1000 ∧ Q (.im (.bool (shpB 60 d && lgt d))) s
def fChk (C : Addr) : DFX Z0 := fun s as Q X => ∃ d : PyData, as = [.im d] ∧ dph d ≤ 26 ∧ wgt d ≤ 1000 ∧ (shpB 60 d = true → Q (.im .none) s) ∧ (shpB 60 d = false → X C none s)
def fSW (C : Addr) : DFX Z0 := fun s as Q X => ∃ d : PyData, as = [.im d] ∧ dph d ≤ 26 ∧ wgt d ≤ 1000 ∧ (shpB 60 d = true → Q (.im (.int (wgt d : Nat))) s) ∧ (shpB 60 d = false → X C none s)
def fLW : DF Z0 := fun s as Q => ∃ d : PyData, as = [.im d] ∧ dph d ≤ 26 ∧ wgt d ≤ 1000 ∧ (shpB 60 d = true → Q (.im (.int (wgt d : Nat))) s) ∧ (shpB 60 d = false → Q (.fr [.str "bad"]) s)
theorem shp_nst {m : Nat} {d : PyData} (h : shpB m d = true) : nst d = true ∧ wgt d ≤ m ∧ ord d = true := by
  unfold shpB at h
  rw [Bool.and_eq_true, Bool.and_eq_true, decide_eq_true_iff] at h
  exact h
section
variable {P : Program} {w : World} {K : PySem.W.Frag} {mg : Str → Option Value} {base : Heap}
abbrev s_is_small_shape : Stmt := topS (12)
abbrev N_is_small_shape : List Str := ["value", "most"]
abbrev p_is_small_shape : List Str := ["value", "most"]
theorem sc_is_small_shape : FnScope N_is_small_shape p_is_small_shape (defScope s_is_small_shape) := ⟨rfl, rfl, rfl, by decide +kernel, rfl, by decide +kernel, by decide +kernel⟩
theorem ok_small (M : Mk K mg "is_small_shape" s_is_small_shape p_is_small_shape) (d_nest_weight : Df P w K mg base CX0 1 "nest_weight" p_nest_weight (spD Z0 fNW)) (d_is_ordered : Df P w K mg base CX0 27 "is_ordered" p_is_ordered (spD Z0 (fOrd 26))) : Df P w K mg base CX0 28 "is_small_shape" p_is_small_shape (spD Z0 fShp) := by
  have nd := sc_is_small_shape.nd
  refine def_ok (k := 27) M sc_is_small_shape (by decide) ?_ (fun f cdv A outer s H E hr => have hu := hu65 hr; (ds_one (ds_ret (de_and (de_notN (de_callP d_nest_weight pass0 hr (da_cons (dv 0) (da_cons (dv 1) da_nil)))) (de_one (de_callP d_is_ordered pass0 hr (da_cons (dv 0) da_nil))))))) ?_
  · rintro s as Qd ⟨d, m, rfl, _⟩; rfl
  · rintro s as Qd ⟨d, m, rfl, m1, hm, hd, hW, q⟩
    refine ⟨d, m, rfl, m1, hm, .inl rfl, ?_⟩
    by_cases z : nst d = true ∧ wgt d ≤ m
    · have e : nwt m d = .int (wgt d : Nat) := if_pos z
      rw [e]
      have e2 : shpB m d = ord d := by unfold shpB; rw [z.1, decide_eq_true z.2]; rfl
      rw [e2] at q
      show if true = true then _ else _
      rw [if_pos rfl]
      exact ⟨d, rfl, z.1, hd, hd, hW, .inl rfl, q⟩
    · have e : nwt m d = .none := if_neg z
      rw [e]
      have e2 : shpB m d = false := by
        cases h : shpB m d with
        | false => rfl
        | true => exact absurd ⟨(shp_nst h).1, (shp_nst h).2.1⟩ z
      rw [e2] at q
      show if false = true then _ else _
      rw [if_neg (by decide)]
      exact q
abbrev s_is_shape : Stmt := topS (13)
abbrev N_is_shape : List Str := ["value"]
abbrev p_is_shape : List Str := ["value"]
theorem sc_is_shape : FnScope N_is_shape p_is_shape (defScope s_is_shape) := ⟨rfl, rfl, rfl, by decide +kernel, rfl, by decide +kernel, by decide +kernel⟩
theorem ok_isshape {t : Tok} (M : Mk K mg "is_shape" s_is_shape p_is_shape) (d_is_small_shape : Df P w K mg base CX0 28 "is_small_shape" p_is_small_shape (spD Z0 fShp)) (g_SHAPE_VERTICES : mg "SHAPE_VERTICES" = some (.int 60 t)) : Df P w K mg base CX0 29 "is_shape" p_is_shape (spD Z0 fIsS) := by
  have nd := sc_is_shape.nd
  refine def_ok (k := 28) M sc_is_shape (by decide) ?_ (fun f cdv A outer s H E hr => have hu := hu65 hr; (ds_one (ds_ret (de_callP d_is_small_shape pass0 hr (da_cons (dv 0) (da_cons (de_gi (by rfl) g_SHAPE_VERTICES) da_nil)))))) ?_
  · rintro s as Qd ⟨d, rfl, _⟩; rfl
  · rintro s as Qd ⟨d, rfl, hd, hW, q⟩
    exact ⟨d, 60, rfl, by decide, by decide, hd, hW, .inl rfl, q⟩
abbrev s_is_built_shape : Stmt := topS (17)
abbrev N_is_built_shape : List Str := ["value"]
abbrev p_is_built_shape : List Str := ["value"]
theorem sc_is_built_shape : FnScope N_is_built_shape p_is_built_shape (defScope s_is_built_shape) := ⟨rfl, rfl, rfl, by decide +kernel, rfl, by decide +kernel, by decide +kernel⟩
theorem ok_isbuilt (M : Mk K mg "is_built_shape" s_is_built_shape p_is_built_shape) (d_is_shape : Df P w K mg base CX0 29 "is_shape" p_is_shape (spD Z0 fIsS)) (d_has_no_heavy : Df P w K mg base CX0 27 "has_no_heavy" p_has_no_heavy (spD Z0 (fLgt 26))) : Df P w K mg base CX0 30 "is_built_shape" p_is_built_shape (spD Z0 fIsBS) := by
  have nd := sc_is_built_shape.nd
  refine def_ok (k := 29) M sc_is_built_shape (by decide) ?_ (fun f cdv A outer s H E hr => have hu := hu65 hr; (ds_one (ds_ret (de_and (de_callP d_is_shape pass0 hr (da_cons (dv 0) da_nil)) (de_one (de_callP d_has_no_heavy pass0 hr (da_cons (dv 0) da_nil))))))) ?_
  · rintro s as Qd ⟨d, rfl, _⟩; rfl
  · rintro s as Qd ⟨d, rfl, hd, hW, q⟩
    refine ⟨d, rfl, hd, hW, .inl rfl, ?_⟩
    show if shpB 60 d = true then _ else _
    cases h : shpB 60 d with
    | false =>
      rw [if_neg (by decide)]
      rw [h] at q
      exact q
    | true =>
      rw [if_pos rfl]
      rw [h, Bool.true_and] at q
      exact ⟨d, rfl, (shp_nst h).1, hd, (shp_nst h).2.1, .inl rfl, q⟩
abbrev s__law_is_shape : Stmt := topS (29)
abbrev N__law_is_shape : List Str := ["_law_value", "_law_most", "_law_key_here"]
abbrev p__law_is_shape : List Str := ["_law_value", "_law_most"]
theorem sc__law_is_shape : FnScope N__law_is_shape p__law_is_shape (defScope s__law_is_shape) := ⟨rfl, rfl, rfl, by decide +kernel, rfl, by decide +kernel, by decide +kernel⟩
theorem ok_lisshape (M : Mk K mg "_law_is_shape" s__law_is_shape p__law_is_shape) (d__law_is_nested : Df P w K mg base CX0 27 "_law_is_nested" p__law_is_nested (spD Z0 (fNst 26))) (d__law_key : Df P w K mg base CX0 27 "_law_key" p__law_key (spD Z0 (fPlc 26))) (d__law_is_sorted : Df P w K mg base CX0 27 "_law_is_sorted" p__law_is_sorted (spD Z0 (fSrt 26))) : Df P w K mg base CX0 28 "_law_is_shape" p__law_is_shape (spD Z0 fShp) := by
  have nd := sc__law_is_shape.nd
  refine def_ok (k := 27) M sc__law_is_shape (by decide) ?_ (fun f cdv A outer s H E hr => have hu := hu65 hr; (ds_cons (ds_if (dt_not (dt_val (de_callP d__law_is_nested pass0 hr (da_cons (dv 0) da_nil)))) (ds_one (ds_ret de_bl)) ds_nil)
      (ds_cons (ds_set (i := 2) nd rfl (.inl rfl) (de_callP d__law_key pass0 hr (da_cons (dv 0) da_nil)))
      (ds_one (ds_ret (de_and (de_le (de_ix (dv 2) de_int) (dv 1)) (de_one (de_callP d__law_is_sorted pass0 hr (da_cons (dv 2) da_nil))))))))) ?_
  · rintro s as Qd ⟨d, m, rfl, _⟩; rfl
  · rintro s as Qd ⟨d, m, rfl, m1, hm, hd, hW, q⟩
    refine ⟨d, rfl, hd, hW, .inl rfl, ?_⟩
    show if (!nst d) = true then _ else _
    cases hN : nst d with
    | false =>
      rw [if_pos (by decide)]
      have e2 : shpB m d = false := by unfold shpB; rw [hN]; rfl
      rw [e2] at q
      exact q
    | true =>
      rw [if_neg (by decide)]
      refine ⟨d, rfl, hN, hd, hW, .inl rfl, ?_⟩
      obtain ⟨ds, rfl, hs⟩ := nst_tup hN
      refine ⟨_, atI_nat (j := 0) rfl, ?_⟩
      show if decide (((wgt (.tuple ds) : Nat) : Int) ≤ ((m : Nat) : Int)) = true then _ else _
      by_cases z : wgt (.tuple ds) ≤ m
      · rw [if_pos (decide_eq_true (by omega))]
        have e2 : shpB m (.tuple ds) = ord (.tuple ds) := by unfold shpB; rw [hN, decide_eq_true z]; rfl
        rw [e2] at q
        exact ⟨.tuple ds, rfl, hN, hd, hd, hW, .inl rfl, q⟩
      · rw [if_neg (by rw [decide_eq_false (by omega)]; decide)]
        have e2 : shpB m (.tuple ds) = false := by unfold shpB; rw [decide_eq_false z, Bool.false_and, Bool.and_false]
        rw [e2] at q
        exact q
abbrev s_check_shape : Stmt := topS (14)
abbrev N_check_shape : List Str := ["value"]
abbrev p_check_shape : List Str := ["value"]
theorem sc_check_shape : FnScope N_check_shape p_check_shape (defScope s_check_shape) := ⟨rfl, rfl, rfl, by decide +kernel, rfl, by decide +kernel, by decide +kernel⟩
theorem okX_check_shape {C : Addr} (M : Mk K mg "check_shape" s_check_shape p_check_shape) (d_is_shape : Df P w K mg base CX0 29 "is_shape" p_is_shape (spD Z0 fIsS)) (R_BadShape : Err0 K mg "BadShape" C) : Df P w K mg base (L2.CX P w) 30 "check_shape" p_check_shape (spX Z0 (fChk C)) := by
  have nd := sc_check_shape.nd
  refine def_okX (k := 29) M sc_check_shape (by decide) ?_ (fun f cdv A outer s H E hr => have hu := hu65 hr; (dx_one (dx_if (dt_not (dt_val (de_callP d_is_shape pass0 hr (da_cons (dv 0) da_nil)))) (dx_one (dx_raise0 (takes_of rfl rfl rfl rfl) rfl R_BadShape hr)) dx_nil))) ?_
  · rintro s as Qd Xd ⟨d, rfl, _⟩; rfl
  · rintro s as Qd Xd ⟨d, rfl, hd, hW, q1, q2⟩
    refine ⟨d, rfl, hd, hW, .inl rfl, ?_⟩
    show if (!shpB 60 d) = true then _ else _
    cases h : shpB 60 d with
    | true =>
      rw [if_neg (by decide)]
      exact q1 h
    | false =>
      rw [if_pos (by decide)]
      exact q2 h
abbrev s_shape_weight : Stmt := topS (15)
abbrev N_shape_weight : List Str := ["value"]
abbrev p_shape_weight : List Str := ["value"]
theorem sc_shape_weight : FnScope N_shape_weight p_shape_weight (defScope s_shape_weight) := ⟨rfl, rfl, rfl, by decide +kernel, rfl, by decide +kernel, by decide +kernel⟩
theorem okX_shape_weight {C : Addr} {t : Tok} (M : Mk K mg "shape_weight" s_shape_weight p_shape_weight) (dX_check_shape : Df P w K mg base (L2.CX P w) 30 "check_shape" p_check_shape (spX Z0 (fChk C))) (d_nest_weight : Df P w K mg base CX0 1 "nest_weight" p_nest_weight (spD Z0 fNW)) (g_SHAPE_VERTICES : mg "SHAPE_VERTICES" = some (.int 60 t)) : Df P w K mg base (L2.CX P w) 31 "shape_weight" p_shape_weight (spX Z0 (fSW C)) := by
  have nd := sc_shape_weight.nd
  refine def_okX (k := 30) M sc_shape_weight (by decide) ?_ (fun f cdv A outer s H E hr => have hu := hu65 hr; (dx_cons (dx_expr (dxe_call (takes_of rfl rfl rfl rfl) dX_check_shape hr (da_cons (dv 0) da_nil)))
      (dxs_of (ds_one (ds_ret (de_callP d_nest_weight pass0 hr (da_cons (dv 0) (da_cons (de_gi (by rfl) g_SHAPE_VERTICES) da_nil)))))))) ?_
  · rintro s as Qd Xd ⟨d, rfl, _⟩; rfl
  · rintro s as Qd Xd ⟨d, rfl, hd, hW, q1, q2⟩
    refine ⟨d, rfl, hd, hW, fun h => ⟨.inl rfl, d, 60, rfl, by decide, by decide, .inl rfl, ?_⟩, fun h => ⟨.inl rfl, q2 h⟩⟩
    have e : nwt 60 d = .int (wgt d : Nat) := if_pos ⟨(shp_nst h).1, (shp_nst h).2.1⟩
    rw [e]
    exact q1 h
abbrev s__law_weight : Stmt := topS (33)
abbrev p__law_weight : List Str := ["_law_value"]
theorem sc__law_weight : FnScope ["_law_value", "_law_found", "error"] p__law_weight (defScope s__law_weight) := ⟨rfl, rfl, rfl, by decide +kernel, rfl, by decide +kernel, by decide +kernel⟩
theorem new_frS {B0 : Addr → Prop} {H H' : Hp} {r : Addr} {xs : List V} {l : List PyData} (g : Gr Z0 H H') (nr : H' r = none) (im : ImAll (Bad Z0 B0 []) H' xs l) : RvR Z0 B0 [] H (upd H' r (.lst xs)) (.ref r) (.fr l) :=
  ⟨r, xs, rfl, none_back (Z := Z0) (s1 := ()) trivial g nr, id, upd_same, im.fresh nr⟩
theorem ok_lweight {C L A1 A2 A3 A4 : Addr} (M : Mk K mg "_law_weight" s__law_weight p__law_weight) (T : Cau0 K mg "BadShape" "BadCount" "NoIndex" "NoVertex" C L A1 A2 A3) (T4 : Cau0 K mg "BadShape" "BadCount" "NoIndex" "TooMany" C L A1 A2 A4) (dS : Df P w K mg base (L2.CX P w) 31 "shape_weight" p_shape_weight (spX Z0 (fSW C))) (mi : mg "isinstance" = none) :
    Df P w K mg base CX0 32 "_law_weight" p__law_weight (spD Z0 fLW) := by
  obtain ⟨f, fd, F, b, g⟩ := M
  have nd := sc__law_weight.nd
  refine Df.of F b g (F.ok sc__law_weight (fun vs H Q E h => ?_) (fun cdv A outer s H vs Q E hr h => ?_))
  · obtain ⟨B0, s0, as, Qd, _, _, ha, ⟨d, rfl, _⟩, _⟩ := h
    exact ha.length
  · obtain ⟨B0, s0, as, Qd, ok, hB, ha, ⟨d, rfl, hd, hW, q1, q2⟩, hq⟩ := h
    obtain ⟨v, rfl, iv⟩ : ∃ v, vs = [v] ∧ Im (Bad Z0 B0 []) H v d := by
      cases ha with
      | cons h1 t =>
        cases t
        exact ⟨_, rfl, h1⟩
    refine ⟨_, pss_cons (ps_set (i := 1) nd rfl (.inl rfl) pe_non)
      (pss_cons (ps_try_as (i := 2) (Wout := fun _ _ _ _ => False) rfl rfl nd rfl rfl ⟨rfl, by decide, .inl T.gL⟩ takes0
        (fun W pn xe tk _ => pss_one (ps_set (i := 1) nd rfl (.inl rfl) (pe_dS dS hr (fun σ => passAt tk σ) (pa_cons (pv 0) pa_nil))))
        (fun a oe cls d pn hz hf => pss_one (ps_if (PW.pt (pw_and (pt_val (pe_callB (call_is0 T.ex hz hf) (by rfl) mi (by decide +kernel) (pa_cons (pv 2) (pa_cons (pe_glob (v := .ref C) rfl T.gC rfl) pa_nil))))
            (pw_and1 (pt_not (pt_val (pe_callB (call_is0T T.ex hz hf) (by rfl) mi (by decide +kernel) (pa_cons (pv 2) (pa_cons (pe_tup (pa_cons (pe_glob (v := .ref A1) rfl T.g1 rfl) (pa_cons (pe_glob (v := .ref A2) rfl T.g2 rfl) (pa_cons (pe_glob (v := .ref A3) rfl T.g3 rfl) (pa_cons (pe_glob (v := .ref A4) rfl T4.g3 rfl) pa_nil))))) pa_nil)))))))) (pss_one (ps_set (i := 1) nd rfl (.inl rfl) (pe_lst (pa_cons pe_str pa_nil)))) pss_nil)))
      (pss_one (ps_ret (pv 1)))), ?_⟩
    have any4 : ∀ its, Vals [V.ref A1, V.ref A2, V.ref A3, V.ref A4] its → PySem.W.kitAny K (.ref C) its = some false := fun its r => by
      rw [ClsV.all (.cons (.own _) (.cons (.own _) (.cons (.own _) (.cons (.own _) .nil)))) r]
      simp only [PySem.W.kitAny, T.k1, T.k2, T.k3, T4.k3]
    refine ⟨v, rfl, ?_⟩
    cases hS : shpB 60 d with
    | true =>
      refine ⟨B0, (), [.im d], fun r _ => r = .im (.int (wgt d : Nat)), fun _ _ _ => False, trivial, hB, .cons iv .nil, ⟨d, rfl, hd, hW, fun _ => rfl, fun h => ?_⟩, fun r s' u H' hr' ok' g' rr => ?_, fun C' o s' dx H' z => z.elim⟩
      · rw [hS] at h; cases h
      · subst hr'
        cases (show Im (Bad Z0 B0 []) H' u (.int (wgt d : Nat)) from rr)
        exact ⟨_, rfl, hq (.im (.int (wgt d : Nat))) s0 _ H' (q1 hS) trivial g' (Im.int _)⟩
    | false =>
      refine ⟨B0, (), [.im d], fun _ _ => False, fun C' o _ => C' = C ∧ o = none, trivial, hB, .cons iv .nil, ⟨d, rfl, hd, hW, fun h => ?_, fun _ => ⟨rfl, rfl⟩⟩, fun r s' u H' z => z.elim, fun C' o s' dx H' hx ok' g' er => ?_⟩
      · rw [hS] at h; cases h
      · obtain ⟨rfl, rfl⟩ := hx
        cases dx with
        | some _ => exact er.elim
        | none =>
          refine ⟨true, T.te, fun _ a na => ?_, fun z => nomatch z⟩
          refine ⟨.ref a, rfl, .ref C', .ref C', true, rfl, rfl, rfl, .own _, T.kC, _, rfl, iteT ?_⟩
          refine ⟨.ref a, rfl, (by show 4 ≤ sizeLine; decide), fun t nt => ?_⟩
          refine ⟨t, _, false, rfl, rfl, rfl, upd_same, any4, _, rfl, ?_⟩
          refine iteT ⟨(by show 1 ≤ sizeLine; decide), fun r nr => ?_⟩
          have g2 : Gr Z0 H (upd H' t (.tup [.ref A1, .ref A2, .ref A3, .ref A4])) := g'.trans (Gr.of (same_new nt))
          exact ⟨.ref r, rfl, hq (.fr [.str "bad"]) s0 (.ref r) _ (q2 hS) trivial (g2.trans (Gr.of (same_new nr))) (new_frS g2 nr (.cons (.str _) .nil))⟩
end
end Lf
namespace Lf
open PySem PySem.Spec PyProof.Rows L2
/-! ### the grain: a state and great numbers, drawn from -/
def gOk (w l : Addr) (H : Hp) : Prop := w ≠ l ∧ ∃ (xs : List Int) (st : Int), H w = some (.lst [.int st, .ref l]) ∧ H l = some (.lst (xs.map V.int)) ∧ xs.length ≤ 63 ∧ 0 ≤ st ∧ st < 18446744073709551616
def gz (w l : Addr) : Zn where
  S := Unit
  at_ := fun a => a = w ∨ a = l
  ok := fun _ H => gOk w l H
  trk := fun {_ H a} ⟨_, xs, st, h1, h2, _⟩ h => by
    rcases h with rfl | rfl
    · rw [h1]; exact fun z => nomatch z
    · rw [h2]; exact fun z => nomatch z
  nt := fun {_ H a zs} ⟨_, xs, st, h1, h2, _⟩ h => by
    rcases h with rfl | rfl
    · rw [h1]; exact fun z => nomatch z
    · rw [h2]; exact fun z => nomatch z
  nf := fun {_ H a o u} ⟨_, xs, st, h1, h2, _⟩ h => by
    rcases h with rfl | rfl
    · rw [h1]; exact fun z => nomatch z
    · rw [h2]; exact fun z => nomatch z
  st := fun {_ H H'} ⟨n, xs, st, h1, h2, h3⟩ k _ _ _ => ⟨n, xs, st, k _ _ (.inl rfl) h1, k _ _ (.inr rfl) h2, h3⟩
def spGrain (K : PySem.W.Frag) : Sp := fun vs H Q _ => ∃ (a : Addr) (ns : List Int), vs = [.ref a] ∧ SqL K H a (ns.map V.int) ∧ ns.length ≤ 63 ∧
  ∀ H' w l, Same H H' → gOk w l H' → H w = none → H l = none → Q (.ref w) H'
def fNext (w l : Addr) : DF (gz w l) := fun s as Q => ∃ many : Nat, as = [.raw (.ref w), .im (.int (many : Nat))] ∧ 1 ≤ many ∧ many < 1073741824 ∧ ∀ r : Nat, r < many → Q (.im (.int (r : Nat))) s
section
variable {P : Program} {w : World} {K : PySem.W.Frag} {mg : Str → Option Value} {base : Heap}
abbrev sGrain : Stmt := topS (19)
abbrev sNext : Stmt := topS (20)
theorem scGrain : FnScope ["_law_script", "_law_state", "_law_digits", "_law_cell"] ["_law_script"] (defScope sGrain) := ⟨rfl, rfl, rfl, by decide +kernel, rfl, by decide +kernel, by decide +kernel⟩
theorem ok_grain (M : Mk K mg "_law_grain" sGrain ["_law_script"]) (ml : mg "len" = none) (ma : mg "abs" = none) : Df P w K mg base CX0 1 "_law_grain" ["_law_script"] (spGrain K) := by
  obtain ⟨f, fd, F, b, g⟩ := M
  refine Df.of F b g (F.ok scGrain (fun vs H Q E h => ?_) (fun cdv A outer s H vs Q E hr h => ?_))
  · obtain ⟨a, ns, rfl, _⟩ := h
    rfl
  · obtain ⟨a, ns, rfl, hS, hlen, q⟩ := h
    have nd := scGrain.nd
    refine ⟨_, pss_cons (ps_par (i := 1) (j := 2) rfl nd rfl rfl (by decide) rfl rfl (pa_cons (pe_op op_add pe_int (pe_callB call_len_seq (by rfl) ml PySem.boot_len (pa_cons (pv 0) pa_nil))) (pa_cons (pe_lst pa_nil) pa_nil)) (by rfl))
      (pss_cons (ps_for PassesOwn.never rfl (pi_list (pv 0)) (pg_name (i := 3) nd rfl (.inl rfl)) (pss_cons (ps_if (pt_cmpR op_ge (pv 3) (pe_op op_pow pe_int pe_int) (nomark _)) (pss_one (ps_expr (pe_bm PySem.F.plainAttrs_list PySem.F.slot_list_append PySem.F.type_list_append mt_append (pv 2) (pa_cons (pv 3) pa_nil)))) pss_nil)
        (pss_one (ps_set (i := 1) nd rfl (.inl rfl) (pe_op op_mod (pe_op op_add (pe_op op_add (pe_op op_mul (pv 1) pe_int) (pe_op op_mod (pe_callB call_abs (by rfl) ma (by decide +kernel) (pa_cons (pv 3) pa_nil)) pe_int)) pe_int) pe_int)))))
      (pss_one (ps_ret (pe_lst (pa_cons (pv 1) (pa_cons (pv 2) pa_nil)))))), ?_⟩
    refine ⟨.ref a, rfl, a, _, rfl, .inl hS, _, _, rfl, rfl, (by show 0 ≤ sizeLine; decide), fun l nl => ⟨_, _, rfl, ?_⟩⟩
    have S1 := same_new (o := .lst []) nl
    refine ⟨.ref a, rfl, a, rfl, ⟨_, S1.seq hS⟩, for_list (K := K) (a := a) (xs := ns.map V.int) (fun i σ H' => ∃ (st : Int) (c : Option V) (ms : List Int), σ = [some (.ref a), some (.int st), some (.ref l), c] ∧ Same H H' ∧ H' l = some (.lst (ms.map V.int)) ∧ ms.length ≤ i ∧ 0 ≤ st ∧ st < 18446744073709551616)
      ⟨_, none, [], rfl, S1, upd_same, Nat.le_refl _, by omega, by rw [List.length_map]; omega⟩ (fun i σ H' _ ⟨_, _, _, _, z, _⟩ => z.seq hS) ?_ ?_⟩
    · rintro i y σ H' hi ⟨st, c, ms, rfl, sm, hl, hm, h0, h1⟩
      have hin : i < (ns.map V.int).length := by
        rcases Nat.lt_or_ge i (ns.map V.int).length with z | z
        · exact z
        · rw [List.getElem?_eq_none z] at hi
          cases hi
      rw [List.length_map] at hin
      obtain ⟨z, hz, rfl⟩ : ∃ z, ns[i]? = some z ∧ y = V.int z := by
        rw [List.getElem?_map] at hi
        cases e : ns[i]? with
        | none => rw [e] at hi; cases hi
        | some z => rw [e] at hi; exact ⟨z, rfl, (Option.some.inj hi).symm⟩
      have last : ∀ G (ms' : List Int), Same H G → G l = some (.lst (ms'.map V.int)) → ms'.length ≤ i + 1 → tAsg (tOp (rI (fun _ j => 0 < j) fun i j => .int (i % j)) (tOp (rI0 fun i j => .int (i + j)) (tOp (rI0 fun i j => .int (i + j)) (tOp (rI CMul fun i j => .int (i * j)) (tVar 1) (tC (.int 1000003))) (tOp (rI (fun _ j => 0 < j) fun i j => .int (i % j)) (tCB (fun xs H Q => ∃ i, xs = [.int i] ∧ Q (.int (if i < 0 then -i else i)) H) (tCons (tVar 3) tNil)) (tC (.int 999983)))) (tC (.int 1))) (tC (.int 2305843009213693951))) (gName 1) { nx := fun σ G => ∃ (st : Int) (c : Option V) (ms : List Int), σ = [some (.ref a), some (.int st), some (.ref l), c] ∧ Same H G ∧ G l = some (.lst (ms.map V.int)) ∧ ms.length ≤ i + 1 ∧ 0 ≤ st ∧ st < 18446744073709551616, rt := Q } [some (.ref a), some (.int st), some (.ref l), some (.int z)] G := fun G ms' sm' hl' hm' => by
        refine ⟨.int st, rfl, st, _, rfl, rfl, .inl ⟨by omega, by omega⟩, .int z, rfl, z, rfl, _, _, rfl, rfl, (by show (0 : Int) < 999983; decide), _, _, rfl, rfl, _, _, rfl, rfl, _, _, rfl, rfl, (by show (0 : Int) < 2305843009213693951; decide), ?_⟩
        refine ⟨_, _, ms', rfl, sm', hl', hm', Int.emod_nonneg _ (by decide), ?_⟩
        have := Int.emod_lt_of_pos (st * 1000003 + (if z < 0 then -z else z) % 999983 + 1) (show (0 : Int) < 2305843009213693951 by decide)
        omega
      refine ⟨.int z, rfl, 10, 18, rfl, rfl, ⟨by decide, by decide, by decide⟩, _, _, rfl, rfl, _, rfl, ite2 (fun _ => ?_) (fun _ => last _ ms sm hl (by omega))⟩
      refine ⟨.ref l, rfl, .inl ⟨rfl, _, SqL.of hl⟩, .int z, rfl, l, _, _, rfl, rfl, hl, by rw [List.length_map]; exact small1000 (by omega), last _ (ms ++ [z]) (fun b o e => ?_) ?_ ?_⟩
      · rw [upd_ne (ne_of_none e nl)]
        exact sm _ _ e
      · rw [upd_same, List.map_append]
        rfl
      · rw [List.length_append]
        show ms.length + 1 ≤ i + 1
        omega
    · rintro σ H' ⟨st, c, ms, rfl, sm, hl, hm, h0, h1⟩
      rw [List.length_map] at hm
      refine ⟨.int st, rfl, .ref l, rfl, by show 2 ≤ sizeLine; decide, fun w nw => ?_⟩
      have nlw : w ≠ l := fun z => by
        rw [z, hl] at nw
        cases nw
      refine q _ w l (sm.trans (same_new nw)) ⟨nlw, ms, st, upd_same, ?_, by omega, h0, h1⟩ (sm.free nw) nl
      rw [upd_ne (Ne.symm nlw)]
      exact hl
theorem scNext : FnScope ["_law_grain_here", "_law_many", "_law_cell"] ["_law_grain_here", "_law_many"] (defScope sNext) := ⟨rfl, rfl, rfl, by decide +kernel, rfl, by decide +kernel, by decide +kernel⟩
theorem ok_next (M : Mk K mg "_law_next" sNext ["_law_grain_here", "_law_many"]) (wa l : Addr) : Df P w K mg base CX0 1 "_law_next" ["_law_grain_here", "_law_many"] (spD (gz wa l) (fNext wa l)) := by
  obtain ⟨f, fd, F, b, g⟩ := M
  refine Df.of F b g (F.ok scNext (fun vs H Q E h => ?_) (fun cdv A outer s H vs Q E hr h => ?_))
  · obtain ⟨B0, s, as, Qd, _, _, ha, ⟨m, rfl, _⟩, _⟩ := h
    exact ha.length
  · obtain ⟨B0, s0, as, Qd, ok, hB, ha, ⟨many, rfl, m0, m1, qd⟩, hq⟩ := h
    have nd := scNext.nd
    obtain ⟨rfl⟩ : vs = [.ref wa, .int (many : Nat)] := by
      cases ha with
      | cons h1 h2 =>
        cases h2 with
        | cons h3 h4 =>
          cases h4
          cases (show _ = V.ref wa from h1)
          cases (show Im _ H _ _ from h3)
          rfl
    obtain ⟨nwl, xs, st, hw, hl, hx, s0', s1'⟩ := ok
    have fin : ∀ (r : Int) (H' : Hp), 0 ≤ r → r < many → gOk wa l H' → (∀ b o, b ≠ wa → b ≠ l → H b = some o → H' b = some o) → Q (.int r) H' := fun r H' r0 r1 ok' k => by
      have := qd r.toNat (by omega)
      rw [Int.toNat_of_nonneg r0] at this
      exact hq _ s0 (.int r) H' this ok' (fun b o e n => k b o (fun z => n (.inl z)) (fun z => n (.inr z)) e) (Im.int r)
    refine ⟨_, pss_cons (ps_if (pt_cmpR op_lt (pv 1) pe_int (nomark _)) (pss_one (ps_ret pe_int)) pss_nil)
      (pss_cons (ps_if (pt_cmpR (op_neD hr.units) (pe_ix ix_list (pv 0) pe_int (fun _ _ => rfl)) (pe_lst pa_nil) (nomark _))
        (pss_cons (ps_set (i := 2) nd rfl (.inl rfl) (pe_bm0 PySem.F.plainAttrs_list PySem.F.slot_list_pop PySem.F.type_list_pop mt_pop (pe_ix ix_list (pv 0) pe_int (fun _ _ => rfl))))
        (pss_cons (ps_if (pt_cmpR op_ge (pv 2) (pv 1) (nomark _)) (pss_one (ps_expr (pe_bm PySem.F.plainAttrs_list PySem.F.slot_list_append PySem.F.type_list_append mt_append (pe_ix ix_list (pv 0) pe_int (fun _ _ => rfl)) (pa_cons (pe_op op_fdiv (pv 2) (pv 1)) pa_nil)))) pss_nil)
        (pss_one (ps_ret (pe_op op_mod (pv 2) (pv 1)))))) pss_nil)
      (pss_cons (ps_asg (pe_op op_mod (pe_op op_add (pe_op op_mul (pe_ix ix_list (pv 0) pe_int (fun _ _ => rfl)) pe_int) pe_int) pe_int) (pg_sub (pv 0) pe_int set_list))
      (pss_one (ps_ret (pe_op op_mod (pe_op op_fdivW (pe_ix ix_list (pv 0) pe_int (fun _ _ => rfl)) pe_int) (pv 1)))))), ?_⟩
    have mm : (0 : Int) < ((many : Nat) : Int) := by omega
    refine ⟨.int (many : Nat), rfl, _, _, rfl, rfl, _, rfl, ite2 (fun h => ?_) (fun h => ?_)⟩
    · exact fin 0 H (Int.le_refl 0) (by omega) ⟨nwl, xs, st, hw, hl, hx, s0', s1'⟩ (fun _ _ _ _ e => e)
    refine ⟨.ref wa, rfl, wa, _, 1, .ref l, rfl, rfl, SqL.of hw, atI_nat (j := 1) rfl, by show 0 ≤ sizeLine; omega, fun p np => ?_⟩
    have sm := same_new (o := .lst []) np
    have hw2 := sm _ _ hw
    have hl2 := sm _ _ hl
    refine ⟨.list (xs.map .int), .list [], .lst (SqL.of hl2) (dpInts xs), .lst (SqL.of upd_same) .nil, shInts xs, rfl, _, rfl, ?_⟩
    rcases nil_or_snoc xs with rfl | ⟨ys, y, rfl⟩
    · refine iteF ?_
      refine ⟨.ref wa, rfl, wa, _, 0, .int st, rfl, rfl, SqL.of hw2, atI_nat (j := 0) rfl, st, _, rfl, rfl, .inl ⟨by omega, by omega⟩, _, _, rfl, rfl, _, _, rfl, rfl, (by show (0 : Int) < 18446744073709551616; decide), ?_⟩
      refine ⟨.ref wa, rfl, wa, _, 0, 0, rfl, rfl, hw2, rfl, ?_⟩
      have b0 : 0 ≤ (st * 6364136223846793005 + 1442695040888963407) % 18446744073709551616 := Int.emod_nonneg _ (by decide)
      have b1 : (st * 6364136223846793005 + 1442695040888963407) % 18446744073709551616 < 18446744073709551616 := Int.emod_lt_of_pos _ (by decide)
      refine ⟨.ref wa, rfl, wa, _, 0, _, rfl, rfl, SqL.of upd_same, atI_nat (j := 0) rfl, _, _, rfl, rfl, wide_div (by show (0 : Int) < 4294967296; decide) (b := 34) (by decide) (by decide) (by decide), .int (many : Nat), rfl, _, _, rfl, rfl, mm, ?_⟩
      refine fin _ _ (Int.emod_nonneg _ (by omega)) (Int.emod_lt_of_pos _ mm) ⟨nwl, [], _, upd_same, ?_, hx, b0, b1⟩ (fun b o h1 h2 e => ?_)
      · rw [upd_ne (Ne.symm nwl)]
        exact hl2
      · rw [upd_ne h1]
        exact sm _ _ e
    · have hv : PyData.eqv (.list ((ys ++ [y]).map .int)) (.list []) = false := by
        cases ys <;> rfl
      rw [hv]
      have lst2 : (upd (upd H p (.lst [])) l (.lst ((ys ++ [y]).map V.int).dropLast)) l = some (.lst (ys.map V.int)) := by
        rw [upd_same, List.map_append]
        simp
      have hw3 : (upd (upd H p (.lst [])) l (.lst ((ys ++ [y]).map V.int).dropLast)) wa = some (.lst [.int st, .ref l]) := by
        rw [upd_ne nwl]
        exact hw2
      rw [List.length_append] at hx
      refine iteT ⟨.ref wa, rfl, wa, _, 1, .ref l, rfl, rfl, SqL.of hw2, atI_nat (j := 1) rfl, .inl ⟨rfl, _, SqL.of hl2⟩, l, _, .int y, rfl, rfl, hl2, ?_, .int y, rfl, .int (many : Nat), rfl, _, _, rfl, rfl, _, rfl, ite2 (fun hy => ?_) (fun hy => ?_)⟩
      · rw [List.map_append]
        exact get_last (ys.map V.int) (.int y)
      · refine ⟨.ref wa, rfl, wa, _, 1, .ref l, rfl, rfl, SqL.of hw3, atI_nat (j := 1) rfl, .inl ⟨rfl, _, SqL.of lst2⟩, .int y, rfl, .int (many : Nat), rfl, y, _, rfl, rfl, ⟨mm, by omega⟩, l, _, _, rfl, rfl, lst2, ?_, ?_⟩
        · rw [List.length_map]
          exact small1000 (by omega)
        · refine ⟨.int y, rfl, .int (many : Nat), rfl, y, _, rfl, rfl, mm, ?_⟩
          refine fin _ _ (Int.emod_nonneg _ (by omega)) (Int.emod_lt_of_pos _ mm) ⟨nwl, ys ++ [y / (many : Int)], st, ?_, ?_, ?_, s0', s1'⟩ (fun b o h1 h2 e => ?_)
          · rw [upd_ne nwl]
            exact hw3
          · rw [upd_same, List.map_append]
            rfl
          · rw [List.length_append]
            exact hx
          · rw [upd_ne h2, upd_ne h2]
            exact sm _ _ e
      · refine ⟨.int y, rfl, .int (many : Nat), rfl, y, _, rfl, rfl, mm, ?_⟩
        refine fin _ _ (Int.emod_nonneg _ (by omega)) (Int.emod_lt_of_pos _ mm) ⟨nwl, ys, st, hw3, lst2, by omega, s0', s1'⟩ (fun b o h1 h2 e => ?_)
        rw [upd_ne h2]
        exact sm _ _ e
end
end Lf
namespace Lf
open PySem PySem.Spec PyProof.Rows L2
/-! ### odd values, by the grain -/
--@call _law_next Z pass0
def odds : List PyData := [.none, .bool true, .bool false, .int (-1), .int 0, .int 1, .int (10 ^ 12 + 1), .int (10 ^ 39), .str "", .str "0", .tuple [], .list [], .dict [], .tuple [.int 0], .list [.int 0], .tuple [.tuple []], .tuple [.list []], .tuple [.tuple [], .list []]]
def fOdd (w l : Addr) : DF (gz w l) := fun s as Q => as = [.raw (.ref w)] ∧ ∀ (r : Nat) (d : PyData), odds[r]? = some d → Q (.im d) s
section
variable {P : Program} {w : World} {K : PySem.W.Frag} {mg : Str → Option Value} {base : Heap}
abbrev s__law_odd : Stmt := topS (31)
abbrev N__law_odd : List Str := ["_law_grain_here", "_law_some"]
abbrev p__law_odd : List Str := ["_law_grain_here"]
theorem sc__law_odd : FnScope N__law_odd p__law_odd (defScope s__law_odd) := ⟨rfl, rfl, rfl, by decide +kernel, rfl, by decide +kernel, by decide +kernel⟩
theorem ok_lodd (M : Mk K mg "_law_odd" s__law_odd p__law_odd) (wa l : Addr) (d__law_next : Df P w K mg base CX0 1 "_law_next" ["_law_grain_here", "_law_many"] (spD (gz wa l) (fNext wa l))) :
    Df P w K mg base CX0 2 "_law_odd" p__law_odd (spD (gz wa l) (fOdd wa l)) := by
  have nd := sc__law_odd.nd
  refine def_ok (k := 1) M sc__law_odd (by decide) ?_ (fun f cdv A outer s H E hr => have hu := hu65 hr; (ds_cons (ds_set (i := 1) nd rfl (.inl rfl) (de_lst (da_cons de_non (da_cons de_bl (da_cons de_bl (da_cons (de_neg de_int) (da_cons de_int (da_cons de_int (da_cons (de_add (de_pow de_int de_int) de_int) (da_cons (de_pow de_int de_int) (da_cons de_str (da_cons de_str (da_cons (de_tup da_nil) (da_cons (de_lst da_nil) (da_cons de_emp (da_cons (de_tup (da_cons de_int da_nil)) (da_cons (de_lst (da_cons de_int da_nil)) (da_cons (de_tup (da_cons (de_tup da_nil) da_nil)) (da_cons (de_tup (da_cons (de_lst da_nil) da_nil)) da_nil)))))))))))))))))))
      (ds_one (ds_ret (de_ix (de_add (dv 1) (de_lst (da_cons (de_tup (da_cons (de_tup da_nil) (da_cons (de_lst da_nil) da_nil))) da_nil))) (de_call d__law_next pass0 hr (da_cons (dv 0) (da_cons de_int da_nil)))))))) ?_
  · rintro s as Qd ⟨rfl, _⟩; rfl
  · rintro s as Qd ⟨rfl, q⟩
    have z0 : (0 : Nat) ≤ 1000000 := by decide
    have z1 : (1 : Nat) ≤ 1000000 := by decide
    refine ⟨⟨by decide, by decide, by decide⟩, ⟨by decide, by decide, by decide⟩, _, rfl, z0, _, rfl, z0, _, rfl, z1, _, rfl, z1, _, rfl, z0, _, rfl, z1, _, rfl, z0, _, rfl, z1, _, rfl, by show 17 ≤ 1000000; decide, fun a => ?_⟩
    refine ⟨_, rfl, z0, _, rfl, z0, _, rfl, by show 2 ≤ 1000000; decide, _, rfl, z1, by show 17 + 1 ≤ 1000000; decide, 18, rfl, by decide, by decide, fun r hr => ⟨.inl rfl, ?_⟩⟩
    have e : odds[r]? = some (odds.getD r .none) := by
      have : r < odds.length := hr
      rw [List.getD_eq_getElem?_getD, List.getElem?_eq_getElem this]
      rfl
    exact ⟨_, atI_nat (xs := odds) e, q r _ e⟩
end
end Lf
namespace Lf
open PySem PySem.Spec PyProof.Rows L2
theorem up_rank {fs : List Nat} (r : Nat → Nat) (h : ∀ v, v < fs.length → par fs v < fs.length ∧ (par fs v = v ∨ r (par fs v) < r v)) : ∀ (n v : Nat), r v < n → v < fs.length → ∃ k, Rch fs k v
  | 0, _, hn, _ => absurd hn (Nat.not_lt_zero _)
  | n + 1, v, hn, hv => by
    obtain ⟨h1, h2⟩ := h v hv
    by_cases e : par fs v = v
    · exact ⟨0, .root e⟩
    · have h3 := h2.resolve_left e
      obtain ⟨k, hk⟩ := up_rank r h n (par fs v) (by omega) h1
      exact ⟨k + 1, .step e hk⟩
theorem forest_rank {fs : List Nat} (r : Nat → Nat) (h0 : 0 < fs.length) (h1 : fs.length ≤ 24) (h : ∀ v, v < fs.length → par fs v < fs.length ∧ (par fs v = v ∨ r (par fs v) < r v)) : Forest fs :=
  ⟨h0, h1, fun v hv => (h v hv).1, fun v hv => up_rank r h (r v + 1) v (Nat.lt_succ_self _) hv⟩
theorem nD_erase : ∀ (l : List Nat) (i : Nat), (nD l).eraseIdx i = nD (l.eraseIdx i)
  | [], _ => rfl
  | _ :: _, 0 => rfl
  | x :: l, i + 1 => congrArg (PyData.int (x : Nat) :: ·) (nD_erase l i)
theorem eqv_nD_nil (l : List Nat) : PyData.eqv (.list (nD l)) (.list []) = l.isEmpty := by cases l <;> rfl
theorem erase_perm : ∀ {l : List Nat} {i x : Nat}, l[i]? = some x → (x :: l.eraseIdx i).Perm l
  | [], _, _, h => by cases h
  | y :: l, 0, x, h => by cases h; exact .refl _
  | y :: l, i + 1, x, h => (List.Perm.swap y x _).trans ((erase_perm (i := i) h).cons y)
theorem idx_get {l : List Nat} (nd : l.Nodup) {i x : Nat} (h : l[i]? = some x) : l.idxOf x = i := by
  obtain ⟨h1, h2⟩ := List.getElem?_eq_some_iff.mp h
  rw [← h2]
  exact List.Nodup.idxOf_getElem nd i h1
end Lf
namespace Lf
open PySem PySem.Spec PyProof.Rows L2
/-! ### drawn forests, by the grain -/
--@call _law_next Z pass0
def fForest (w l : Addr) : DF (gz w l) := fun s as Q => ∃ most : Nat, as = [.raw (.ref w), .im (.int (most : Nat))] ∧ 1 ≤ most ∧ most ≤ 24 ∧ ∀ fs, Forest fs → fs.length ≤ most → Q (.im (tupN fs)) s
section
variable {P : Program} {w : World} {K : PySem.W.Frag} {mg : Str → Option Value} {base : Heap}
abbrev s__law_forest : Stmt := topS (22)
abbrev N__law_forest : List Str := ["_law_grain_here", "_law_most", "_law_size", "_law_order", "_law_left", "_law_found", "_law_kind", "_law_k", "_law_other"]
abbrev p__law_forest : List Str := ["_law_grain_here", "_law_most"]
theorem sc__law_forest : FnScope N__law_forest p__law_forest (defScope s__law_forest) := ⟨rfl, rfl, rfl, by decide +kernel, rfl, by decide +kernel, by decide +kernel⟩
theorem ok_lforest (M : Mk K mg "_law_forest" s__law_forest p__law_forest) (wa l : Addr) (d__law_next : Df P w K mg base CX0 1 "_law_next" ["_law_grain_here", "_law_many"] (spD (gz wa l) (fNext wa l))) (m_len : mg "len" = none) (m_list : mg "list" = none) (m_range : mg "range" = none) (m_tuple : mg "tuple" = none) :
    Df P w K mg base CX0 2 "_law_forest" p__law_forest (spD (gz wa l) (fForest wa l)) := by
  have nd := sc__law_forest.nd
  refine def_ok (k := 1) M sc__law_forest (by decide) ?_ (fun f cdv A outer s H E hr => have hu := hu65 hr; (ds_cons (ds_par (i := 2) (j := 3) rfl nd rfl rfl (by decide) rfl rfl (de_add de_int (de_call d__law_next pass0 hr (da_cons (dv 0) (da_cons (dv 1) da_nil)))) (de_lst da_nil))
      (ds_cons (ds_par (i := 4) (j := 5) rfl nd rfl rfl (by decide) rfl rfl (de_listR1 rfl (by rfl) m_list (by rfl) m_range (dv 2)) (de_listR1 rfl (by rfl) m_list (by rfl) m_range (dv 2)))
      (ds_cons (ds_while PassesOwn.never (dt_ne hu (dv 4) (de_lst da_nil))
      (ds_one (ds_appPop (i := 3) (j := 4) rfl (by first | exact Or.inl rfl | exact Or.inr (Or.inl rfl) | exact Or.inr (Or.inr rfl)) rfl (by first | exact Or.inl rfl | exact Or.inr (Or.inl rfl) | exact Or.inr (Or.inr rfl)) (da_cons (de_call d__law_next pass0 hr (da_cons (dv 0) (da_cons (de_len (by rfl) m_len (da_cons (dv 4) da_nil)) da_nil))) da_nil))))
      (ds_cons (ds_set (i := 6) nd rfl (.inl rfl) (de_call d__law_next pass0 hr (da_cons (dv 0) (da_cons de_int da_nil))))
      (ds_cons (ds_for PassesOwn.never rfl (di_r2 (by rfl) m_range (da_cons de_int (da_cons (dv 2) da_nil))) (dg_name (i := 7) nd rfl (.inl rfl))
      (ds_cons (ds_set (i := 8) nd rfl (.inl rfl) (de_ix (dv 3) (de_ix (de_lst (da_cons (de_sub (dv 7) de_int) (da_cons de_int (da_cons (de_div (dv 7) de_int) (da_cons (de_call d__law_next pass0 hr (da_cons (dv 0) (da_cons (dv 7) da_nil))) da_nil))))) (dv 6))))
      (ds_one (ds_if (dt_gt (de_call d__law_next pass0 hr (da_cons (dv 0) (da_cons de_int da_nil))) de_int) (ds_one (ds_setIx (i := 5) rfl (by first | exact Or.inl rfl | exact Or.inr (Or.inl rfl) | exact Or.inr (Or.inr rfl)) (de_ix (dv 3) (dv 7)) (dv 8))) ds_nil))))
      (ds_one (ds_ret (de_tuple (by rfl) m_tuple (da_cons (dv 5) da_nil)))))))))) ?_
  · rintro s as Qd ⟨m, rfl, _⟩; rfl
  · rintro s as Qd ⟨most, rfl, hm1, hm2, q⟩
    refine ⟨most, rfl, hm1, by omega, fun r hr => ⟨.inl rfl, _, rfl, by show 0 ≤ 1000000; decide, fun ao => ?_⟩⟩
    generalize hn : r + 1 = n at *
    have e1 : (1 : Int) + ((r : Nat) : Int) = ((n : Nat) : Int) := by omega
    rw [e1]
    refine ⟨by omega, by omega, by omega, by omega, fun al af => ?_⟩
    rw [Int.toNat_natCast, rng_nD]
    refine ⟨fun m s ρ => ∃ od lf : List Nat, m = lf.length ∧ ρ = [.raw (.ref wa), .im (.int (most : Nat)), .im (.int (n : Nat)), .ow ao (nD od), .ow al (nD lf), .ow af (nD (List.range n)), .no, .no, .no] ∧ (od ++ lf).Perm (List.range n), ⟨_, [], List.range n, rfl, rfl, .refl _⟩, ?_⟩
    rintro m s ρ ⟨od, lf, rfl, rfl, pm⟩
    have pl := pm.length_eq
    rw [List.length_append, List.length_range] at pl
    refine ⟨_, rfl, by show 0 ≤ 1000000; decide, sh_nD lf, rfl, ?_⟩
    rw [eqv_nD_nil]
    cases lf with
    | cons y ys =>
      refine ⟨by decide, (nD (y :: ys)).length, rfl, by rw [nD_len, List.length_cons]; omega, by rw [nD_len]; omega, fun i hi => ⟨.inl rfl, by omega, by rw [nD_len] at hi; omega, ?_⟩⟩
      rw [nD_len] at hi
      rw [Int.toNat_natCast]
      refine ⟨_, nD_get hi, by rw [nD_len]; omega, ((y :: ys).eraseIdx i).length, by rw [List.length_eraseIdx, if_pos hi]; omega, od ++ [(y :: ys).getD i 0], (y :: ys).eraseIdx i, rfl, ?_, ?_⟩
      · rw [nD_app, nD_erase]
        rfl
      · rw [List.append_assoc]
        refine List.Perm.trans (List.Perm.append_left od ?_) pm
        refine erase_perm (x := (y :: ys).getD i 0) ?_
        rw [List.getD_eq_getElem?_getD, List.getElem?_eq_getElem hi]
        rfl
    | nil =>
      rw [List.append_nil] at pm
      have lo : od.length = n := by rw [List.length_nil] at pl; omega
      have ndo : od.Nodup := pm.nodup_iff.mpr List.nodup_range
      have mem : ∀ x, x ∈ od ↔ x < n := fun x => by rw [pm.mem_iff, List.mem_range]
      refine ⟨4, rfl, by decide, by decide, fun kind hk => ⟨.inl rfl, ?_⟩⟩
      refine ⟨⟨by omega, by omega⟩, ⟨by omega, by omega⟩, rfl, ?_⟩
      refine ⟨fun k s ρ => ∃ (fs : List Nat) (x7 x8 : Sl), ρ = [.raw (.ref wa), .im (.int (most : Nat)), .im (.int (n : Nat)), .ow ao (nD od), .ow al (nD []), .ow af (nD fs), .im (.int (kind : Nat)), x7, x8] ∧ fs.length = n ∧ ∀ v, v < n → par fs v < n ∧ (par fs v = v ∨ od.idxOf (par fs v) < od.idxOf v), ⟨List.range n, .no, .no, rfl, List.length_range, fun v hv => ?_⟩, ?_, ?_⟩
      · rw [par_range hv]
        exact ⟨hv, .inl rfl⟩
      · rintro i d s ρ hd ⟨fs, x7, x8, rfl, lfs, inv⟩
        obtain ⟨hi, rfl⟩ := rngD_get hd
        generalize hkk : i + 1 = kk at *
        have ekk : (1 : Int) + ((i : Nat) : Int) = ((kk : Nat) : Int) := by omega
        rw [ekk]
        have hkn : kk < od.length := by omega
        refine ⟨⟨by decide, by decide⟩, kk, rfl, by omega, by omega, fun r4 hr4 => ⟨.inl rfl, _, rfl, by show 4 ≤ 1000000; decide, ?_⟩⟩
        obtain ⟨j, hj, hat⟩ : ∃ j : Nat, j < kk ∧ atI [PyData.int (((kk : Nat) : Int) - 1), .int 0, .int (((kk : Nat) : Int) / 2), .int (r4 : Nat)] ((kind : Nat) : Int) = some (.int (j : Nat)) := by
          match kind, hk with
          | 0, _ => exact ⟨kk - 1, by omega, by rw [atI_nat (j := 0) (v := PyData.int (((kk : Nat) : Int) - 1)) rfl, show ((kk : Nat) : Int) - 1 = ((kk - 1 : Nat) : Int) from by omega]⟩
          | 1, _ => exact ⟨0, by omega, atI_nat (j := 1) rfl⟩
          | 2, _ => exact ⟨kk / 2, by omega, by rw [atI_nat (j := 2) (v := PyData.int (((kk : Nat) : Int) / 2)) rfl]; rfl⟩
          | 3, _ => exact ⟨r4, hr4, atI_nat (j := 3) rfl⟩
        have hjl : j < od.length := by omega
        refine ⟨_, hat, _, nD_at hjl, 7, rfl, by decide, by decide, fun r7 h7 => ⟨.inl rfl, ?_⟩⟩
        show if decide ((0 : Int) < ((r7 : Nat) : Int)) = true then _ else _
        by_cases hz : (0 : Int) < ((r7 : Nat) : Int)
        · rw [if_pos (decide_eq_true hz)]
          have ev : od[kk]? = some (od.getD kk 0) := by rw [List.getD_eq_getElem?_getD, List.getElem?_eq_getElem hkn]; rfl
          have ew : od[j]? = some (od.getD j 0) := by rw [List.getD_eq_getElem?_getD, List.getElem?_eq_getElem hjl]; rfl
          have vl := (mem _).mp (List.mem_of_getElem? ev)
          have wl := (mem _).mp (List.mem_of_getElem? ew)
          refine ⟨_, nD_at hkn, _, _, nD_ix (by omega), rfl, fs.set (od.getD kk 0) (od.getD j 0), .im (.int (kk : Nat)), .im (.int (od.getD j 0 : Nat)), ?_, by rw [List.length_set]; exact lfs, fun v hv => ?_⟩
          · rw [nD_set]
            rfl
          · rw [par_set (by omega)]
            by_cases e : v = od.getD kk 0
            · rw [if_pos e]
              refine ⟨wl, .inr ?_⟩
              rw [e, idx_get ndo ev, idx_get ndo ew]
              exact hj
            · rw [if_neg e]
              exact inv v hv
        · rw [if_neg (by rw [decide_eq_false hz]; exact Bool.false_ne_true)]
          exact ⟨fs, _, _, rfl, lfs, inv⟩
      · rintro s ρ ⟨fs, x7, x8, rfl, lfs, inv⟩
        exact q fs (forest_rank (fun v => od.idxOf v) (by omega) (by omega) (fun v hv => by rw [lfs] at hv ⊢; exact inv v hv)) (by omega)
end
end Lf
namespace Lf
open PySem PySem.Spec PyProof.Rows L2
/-! ### weights, counted -/
def incW : List Nat → List Nat → List Nat
  | [], ws => ws
  | u :: us, ws => incW us (ws.set u (ws.getD u 0 + 1))
def wN (fs : List Nat) : Nat → List Nat
  | 0 => List.replicate fs.length 0
  | k + 1 => incW (way fs k) (wN fs k)
def wtL (fs : List Nat) : List Nat := wN fs fs.length
theorem incW_len : ∀ {us ws : List Nat}, (incW us ws).length = ws.length
  | [], _ => rfl
  | u :: us, ws => by
    unfold incW
    rw [incW_len, List.length_set]
theorem wN_len {fs : List Nat} : ∀ k, (wN fs k).length = fs.length
  | 0 => List.length_replicate
  | k + 1 => by
    unfold wN
    rw [incW_len, wN_len k]
theorem incW_snoc : ∀ {us : List Nat} {u : Nat} {ws : List Nat}, incW (us ++ [u]) ws = (incW us ws).set u ((incW us ws).getD u 0 + 1)
  | [], u, ws => rfl
  | x :: us, u, ws => by
    rw [List.cons_append]
    unfold incW
    rw [incW_snoc]
def ldC (fs : List Nat) (v : Nat) : Nat := (wtL fs).getD v 0
def othL (fs : List Nat) (c : Nat) : List Nat := (List.range fs.length).filter fun k => decide (par fs k = par fs c) && decide (k ≠ par fs c)
def ligL (fs : List Nat) (c : Nat) : List Nat := ((othL fs c).filter fun k => decide (ldC fs k < ldC fs c)).map (ldC fs)
def hvC (fs : List Nat) (c : Nat) : Bool := decide (par fs c ≠ c) && decide (1 + (ligL fs c).sum < ldC fs c)
def isB (fs : List Nat) : Bool := (List.range fs.length).all fun c => !hvC fs c
theorem incW_bound {b : Nat} : ∀ {us ws : List Nat}, (∀ x ∈ ws, x ≤ b) → ∀ x ∈ incW us ws, x ≤ b + us.length
  | [], _, h, x, hx => h x hx
  | u :: us, ws, h, x, hx => by
    unfold incW at hx
    have := incW_bound (b := b + 1) (us := us) (fun y hy => by
      rcases List.mem_or_eq_of_mem_set hy with z | z
      · have := h y z; omega
      · rw [z, List.getD_eq_getElem?_getD]
        cases e : ws[u]? with
        | none => show 0 + 1 ≤ b + 1; omega
        | some y => have := h y (List.mem_of_getElem? e); show y + 1 ≤ b + 1; omega) x hx
    rw [List.length_cons]
    omega
theorem wN_bound {fs : List Nat} (F : Forest fs) : ∀ k, k ≤ fs.length → ∀ x ∈ wN fs k, x ≤ 24 * k
  | 0, _, x, hx => by rw [List.eq_of_mem_replicate hx]; exact Nat.zero_le _
  | k + 1, hk, x, hx => by
    have h1 := way_len F (v := k) (by omega)
    have := F.few
    have := incW_bound (wN_bound F k (by omega)) x hx
    omega
end Lf
namespace Lf
open PySem PySem.Spec PyProof.Rows L2
/-! ### the grain laws' weights and heavy children -/
def fWts : DF Z0 := fun s as Q => ∃ fs : List Nat, (as = [.im (tupN fs)] ∨ as = [.im (.list (nD fs))]) ∧ Forest fs ∧ Q (.fr (nD (wtL fs))) s
def fIsB : DF Z0 := fun s as Q => ∃ fs : List Nat, as = [.im (tupN fs)] ∧ Forest fs ∧ Q (.im (.bool (isB fs))) s
section
variable {P : Program} {w : World} {K : PySem.W.Frag} {mg : Str → Option Value} {base : Heap}
abbrev s__law_weights : Stmt := topS (23)
abbrev N__law_weights : List Str := ["_law_forest_here", "_law_found", "_law_vertex", "_law_path", "_law_other"]
abbrev p__law_weights : List Str := ["_law_forest_here"]
theorem sc__law_weights : FnScope N__law_weights p__law_weights (defScope s__law_weights) := ⟨rfl, rfl, rfl, by decide +kernel, rfl, by decide +kernel, by decide +kernel⟩
theorem ok_lweights (M : Mk K mg "_law_weights" s__law_weights p__law_weights) (m_len : mg "len" = none) (m_range : mg "range" = none) : Df P w K mg base CX0 1 "_law_weights" p__law_weights (spD Z0 fWts) := by
  have nd := sc__law_weights.nd
  refine def_ok (k := 0) M sc__law_weights (by decide) ?_ (fun f cdv A outer s H E hr => have hu := hu65 hr; (ds_cons (ds_set (i := 1) nd rfl (.inl rfl) (de_mul (de_lst (da_cons de_int da_nil)) (de_len (by rfl) m_len (da_cons (dv 0) da_nil))))
      (ds_cons (ds_for PassesOwn.never rfl (di_r1 (by rfl) m_range (da_cons (de_len (by rfl) m_len (da_cons (dv 0) da_nil)) da_nil)) (dg_name (i := 2) nd rfl (.inl rfl))
      (ds_cons (ds_set (i := 3) nd rfl (.inl rfl) (de_lst (da_cons (dv 2) da_nil)))
      (ds_cons (ds_while PassesOwn.never (dt_ne hu (de_ix (dv 0) (de_ix (dv 3) (de_neg de_int))) (de_ix (dv 3) (de_neg de_int)))
      (ds_one (ds_mt (i := 3) m2_app PySem.F.slot_list_append PySem.F.type_list_append mt_append rfl (by first | exact Or.inl rfl | exact Or.inr (Or.inl rfl) | exact Or.inr (Or.inr rfl)) (da_cons (de_ix (dv 0) (de_ix (dv 3) (de_neg de_int))) da_nil))))
      (ds_one (ds_frz 3 (ds_for PassesOwn.never rfl (di_seq (dv 3)) (dg_name (i := 4) nd rfl (.inl rfl))
      (ds_one (ds_setIx (i := 1) rfl (by first | exact Or.inl rfl | exact Or.inr (Or.inl rfl) | exact Or.inr (Or.inr rfl)) (dv 4) (de_add (de_ix (dv 1) (dv 4)) de_int)))))))))
      (ds_one (ds_ret (dv 1)))))) ?_
  · rintro s as Qd ⟨fs, rfl | rfl, _⟩ <;> rfl
  · rintro s as Qd ⟨fs, has, hF, q⟩
    have few := hF.few
    obtain ⟨X, rfl, hX⟩ : ∃ X : PyData, as = [.im X] ∧ (X = tupN fs ∨ X = .list (nD fs)) := by
      rcases has with rfl | rfl
      · exact ⟨_, rfl, .inl rfl⟩
      · exact ⟨_, rfl, .inr rfl⟩
    rcases hX with rfl | rfl
    · skip
      refine ⟨_, rfl, by show 1 ≤ 1000000; decide, by rw [nD_len]; omega, by rw [nD_len]; omega, by rw [nD_len, Int.toNat_natCast]; show 1 * _ ≤ _; omega, fun a => ?_⟩
      rw [nD_len, Int.toNat_natCast, flat_rep]
      refine ⟨by rw [nD_len]; omega, by rw [nD_len]; omega, rfl, ?_⟩
      rw [nD_len, Int.toNat_natCast]
      refine ⟨fun k s ρ => ∃ x2 x3 x4 : Sl, ρ = [.im (tupN fs), .ow a (nD (wN fs k)), x2, x3, x4] ∧ ownOf x2 = none ∧ ownOf x3 = none ∧ ownOf x4 = none, ⟨_, _, _, by rw [show nD (wN fs 0) = _ from nD_rep fs.length 0]; rfl, rfl, rfl, rfl⟩, ?_, ?_⟩
      · rintro v d s ρ hd ⟨x2, x3, x4, rfl, o2, o3, o4⟩
        obtain ⟨hv, rfl⟩ := rngD_get hd
        rw [Int.zero_add]
        refine ⟨_, rfl, by show 1 ≤ 1000000; decide, fun ap => ?_⟩
        obtain ⟨k, rk⟩ := hF.rch v hv
        have pf := way_pth hF hv
        have lf := way_len hF hv
        refine ⟨fun m s ρ => ∃ (pre : List Nat) (cur : Nat), ρ = [.im (tupN fs), .ow a (nD (wN fs v)), .im (.int (v : Nat)), .ow ap (nD (pre ++ [cur])), x4] ∧ cur < fs.length ∧ Rch fs m cur ∧ ∀ l, Pth fs cur l → Pth fs v (pre ++ l), ⟨k, [], v, rfl, hv, rk, fun l h => h⟩, ?_⟩
        rintro m s ρ ⟨pre, cur, rfl, hc, rc, ext⟩
        have short : pre.length + 1 + m ≤ fs.length := by
          obtain ⟨l, pl, el⟩ := Pth.of rc
          have e := (ext l pl).inj pf
          have := congrArg List.length e
          rw [List.length_append, el] at this
          omega
        refine ⟨_, nD_last pre cur, _, nD_at hc, _, nD_last pre cur, ?_⟩
        show if (!decide (((par fs cur : Nat) : Int) = ((cur : Nat) : Int))) = true then _ else _
        by_cases hn : par fs cur = cur
        · rw [if_neg (by rw [decide_eq_true (by rw [hn])]; exact Bool.false_ne_true)]
          have e := (ext _ (.root hn)).inj pf
          rw [e]
          refine ⟨rfl, fun j s ρ => ∃ x4 : Sl, ρ = [.im (tupN fs), .ow a (nD (incW ((way fs v).take j) (wN fs v))), .im (.int (v : Nat)), .im (.list (nD (way fs v))), x4] ∧ ownOf x4 = none, ⟨_, rfl, o4⟩, ?_, ?_⟩
          · rintro j d s ρ hd ⟨x4, rfl, o4⟩
            obtain ⟨u, hu, rfl⟩ := nD_some hd
            have ul : u < fs.length := way_lt hF hv u (List.mem_of_getElem? hu)
            have ul2 : u < (incW ((way fs v).take j) (wN fs v)).length := by rw [incW_len, wN_len]; exact ul
            refine ⟨_, nD_at ul2, u, _, nD_ix ul2, rfl, .im (.int (u : Nat)), ?_, rfl⟩
            rw [take_snoc hu, incW_snoc, nD_set]
            rfl
          · rintro s ρ ⟨x4, rfl, o4⟩
            rw [nD_len, List.take_length]
            exact ⟨.im (.int (v : Nat)), .im (.list (nD (way fs v))), _, rfl, rfl, rfl, o4⟩
        · rw [if_pos (by rw [decide_eq_false (by omega)]; rfl)]
          cases rc with
          | root z => exact absurd z hn
          | @step m' _ _ r =>
            refine ⟨_, nD_last pre cur, _, nD_at hc, ⟨_, rfl, by rw [nD_len, List.length_append]; show pre.length + 1 < 1000000; omega, m', Nat.lt_succ_self _, pre ++ [cur], par fs cur, ?_, hF.rng cur hc, r, fun l hl => ?_⟩⟩
            · rw [nD_app (pre ++ [cur])]
              rfl
            · rw [List.append_assoc]
              exact ext _ (.step hn hl)
      · rintro s ρ ⟨x2, x3, x4, rfl, _⟩
        rw [rngD_len]
        exact q
    · skip
      refine ⟨_, rfl, by show 1 ≤ 1000000; decide, by rw [nD_len]; omega, by rw [nD_len]; omega, by rw [nD_len, Int.toNat_natCast]; show 1 * _ ≤ _; omega, fun a => ?_⟩
      rw [nD_len, Int.toNat_natCast, flat_rep]
      refine ⟨by rw [nD_len]; omega, by rw [nD_len]; omega, rfl, ?_⟩
      rw [nD_len, Int.toNat_natCast]
      refine ⟨fun k s ρ => ∃ x2 x3 x4 : Sl, ρ = [.im (.list (nD fs)), .ow a (nD (wN fs k)), x2, x3, x4] ∧ ownOf x2 = none ∧ ownOf x3 = none ∧ ownOf x4 = none, ⟨_, _, _, by rw [show nD (wN fs 0) = _ from nD_rep fs.length 0]; rfl, rfl, rfl, rfl⟩, ?_, ?_⟩
      · rintro v d s ρ hd ⟨x2, x3, x4, rfl, o2, o3, o4⟩
        obtain ⟨hv, rfl⟩ := rngD_get hd
        rw [Int.zero_add]
        refine ⟨_, rfl, by show 1 ≤ 1000000; decide, fun ap => ?_⟩
        obtain ⟨k, rk⟩ := hF.rch v hv
        have pf := way_pth hF hv
        have lf := way_len hF hv
        refine ⟨fun m s ρ => ∃ (pre : List Nat) (cur : Nat), ρ = [.im (.list (nD fs)), .ow a (nD (wN fs v)), .im (.int (v : Nat)), .ow ap (nD (pre ++ [cur])), x4] ∧ cur < fs.length ∧ Rch fs m cur ∧ ∀ l, Pth fs cur l → Pth fs v (pre ++ l), ⟨k, [], v, rfl, hv, rk, fun l h => h⟩, ?_⟩
        rintro m s ρ ⟨pre, cur, rfl, hc, rc, ext⟩
        have short : pre.length + 1 + m ≤ fs.length := by
          obtain ⟨l, pl, el⟩ := Pth.of rc
          have e := (ext l pl).inj pf
          have := congrArg List.length e
          rw [List.length_append, el] at this
          omega
        refine ⟨_, nD_last pre cur, _, nD_at hc, _, nD_last pre cur, ?_⟩
        show if (!decide (((par fs cur : Nat) : Int) = ((cur : Nat) : Int))) = true then _ else _
        by_cases hn : par fs cur = cur
        · rw [if_neg (by rw [decide_eq_true (by rw [hn])]; exact Bool.false_ne_true)]
          have e := (ext _ (.root hn)).inj pf
          rw [e]
          refine ⟨rfl, fun j s ρ => ∃ x4 : Sl, ρ = [.im (.list (nD fs)), .ow a (nD (incW ((way fs v).take j) (wN fs v))), .im (.int (v : Nat)), .im (.list (nD (way fs v))), x4] ∧ ownOf x4 = none, ⟨_, rfl, o4⟩, ?_, ?_⟩
          · rintro j d s ρ hd ⟨x4, rfl, o4⟩
            obtain ⟨u, hu, rfl⟩ := nD_some hd
            have ul : u < fs.length := way_lt hF hv u (List.mem_of_getElem? hu)
            have ul2 : u < (incW ((way fs v).take j) (wN fs v)).length := by rw [incW_len, wN_len]; exact ul
            refine ⟨_, nD_at ul2, u, _, nD_ix ul2, rfl, .im (.int (u : Nat)), ?_, rfl⟩
            rw [take_snoc hu, incW_snoc, nD_set]
            rfl
          · rintro s ρ ⟨x4, rfl, o4⟩
            rw [nD_len, List.take_length]
            exact ⟨.im (.int (v : Nat)), .im (.list (nD (way fs v))), _, rfl, rfl, rfl, o4⟩
        · rw [if_pos (by rw [decide_eq_false (by omega)]; rfl)]
          cases rc with
          | root z => exact absurd z hn
          | @step m' _ _ r =>
            refine ⟨_, nD_last pre cur, _, nD_at hc, ⟨_, rfl, by rw [nD_len, List.length_append]; show pre.length + 1 < 1000000; omega, m', Nat.lt_succ_self _, pre ++ [cur], par fs cur, ?_, hF.rng cur hc, r, fun l hl => ?_⟩⟩
            · rw [nD_app (pre ++ [cur])]
              rfl
            · rw [List.append_assoc]
              exact ext _ (.step hn hl)
      · rintro s ρ ⟨x2, x3, x4, rfl, _⟩
        rw [rngD_len]
        exact q
end
end Lf
namespace Lf
/-! ### weights: plain mathematics -/
theorem rg_filter_succ {k : Nat} (p : Nat → Bool) : (List.range (k + 1)).filter p = if p k = true then (List.range k).filter p ++ [k] else (List.range k).filter p := by
  rw [List.range_succ, List.filter_append]
  by_cases h : p k = true
  · rw [if_pos h, List.filter_cons_of_pos h]
    rfl
  · rw [if_neg h, List.filter_cons_of_neg h]
    simp
section
open Classical
/-- how many of the first k vertices have v on their way -/
noncomputable def cnt (fs : List Nat) (v k : Nat) : Nat := ((List.range k).filter fun u => decide (Bel fs v u)).length
theorem cnt_zero (fs : List Nat) (v : Nat) : cnt fs v 0 = 0 := rfl
theorem cnt_succ (fs : List Nat) (v k : Nat) : cnt fs v (k + 1) = cnt fs v k + (if Bel fs v k then 1 else 0) := by
  unfold cnt
  rw [rg_filter_succ]
  by_cases h : Bel fs v k
  · rw [if_pos (decide_eq_true h), if_pos h, List.length_append]
    rfl
  · rw [if_neg (fun z => h (of_decide_eq_true z)), if_neg h]
    rfl
end
theorem same_len {l m : List Nat} (hl : l.Nodup) (hm : m.Nodup) (h : ∀ u, u ∈ l ↔ u ∈ m) : l.length = m.length := ((List.perm_ext_iff_of_nodup hl hm).mpr h).length_eq
open Classical in
theorem cnt_of {fs : List Nat} {v : Nat} {l : List Nat} (nd : l.Nodup) (h : ∀ u, u ∈ l ↔ u < fs.length ∧ Bel fs v u) : cnt fs v fs.length = l.length := by
  unfold cnt
  refine same_len (List.Pairwise.filter _ List.nodup_range) nd fun u => ?_
  rw [h, List.mem_filter, List.mem_range, decide_eq_true_iff]
/-- the weight of v -/
noncomputable abbrev wt (fs : List Nat) (v : Nat) : Nat := cnt fs v fs.length
/-! sums -/
theorem sum_add {α : Type} (f g : α → Nat) : ∀ l : List α, (l.map fun x => f x + g x).sum = (l.map f).sum + (l.map g).sum
  | [] => rfl
  | x :: l => by
    have := sum_add f g l
    simp only [List.map_cons, List.sum_cons]
    omega
theorem sum_zero {α : Type} {f : α → Nat} : ∀ {l : List α}, (∀ x ∈ l, f x = 0) → (l.map f).sum = 0
  | [], _ => rfl
  | x :: l, h => by
    have := sum_zero (f := f) (l := l) fun y hy => h y (List.mem_cons_of_mem _ hy)
    have := h x List.mem_cons_self
    simp only [List.map_cons, List.sum_cons]
    omega
theorem sum_congr {α : Type} {f g : α → Nat} : ∀ {l : List α}, (∀ x ∈ l, f x = g x) → (l.map f).sum = (l.map g).sum
  | [], _ => rfl
  | x :: l, h => by
    have := sum_congr (f := f) (g := g) (l := l) fun y hy => h y (List.mem_cons_of_mem _ hy)
    have := h x List.mem_cons_self
    simp only [List.map_cons, List.sum_cons]
    omega
theorem sum_le {α : Type} {f g : α → Nat} : ∀ {l : List α}, (∀ x ∈ l, f x ≤ g x) → (l.map f).sum ≤ (l.map g).sum
  | [], _ => Nat.le_refl _
  | x :: l, h => by
    have := sum_le (f := f) (g := g) (l := l) fun y hy => h y (List.mem_cons_of_mem _ hy)
    have := h x List.mem_cons_self
    simp only [List.map_cons, List.sum_cons]
    omega
theorem sum_swap {α β : Type} (f : α → β → Nat) (ds : List β) : ∀ us : List α, (us.map fun u => (ds.map fun d => f u d).sum).sum = (ds.map fun d => (us.map fun u => f u d).sum).sum
  | [] => (sum_zero fun _ _ => rfl).symm
  | u :: us => by
    have := sum_swap f ds us
    simp only [List.map_cons, List.sum_cons]
    rw [sum_add, this]
theorem sum_mem {α : Type} {f : α → Nat} {x : α} : ∀ {l : List α}, x ∈ l → f x ≤ (l.map f).sum
  | y :: l, h => by
    simp only [List.map_cons, List.sum_cons]
    rcases List.mem_cons.mp h with z | z
    · subst z
      omega
    · have := sum_mem (f := f) z
      omega
theorem len_sum {α : Type} (p : α → Bool) : ∀ l : List α, (l.filter p).length = (l.map fun x => if p x = true then 1 else 0).sum
  | [] => rfl
  | x :: l => by
    have := len_sum p l
    simp only [List.map_cons, List.sum_cons]
    by_cases h : p x = true
    · rw [List.filter_cons_of_pos h, List.length_cons, if_pos h]
      omega
    · rw [List.filter_cons_of_neg h, if_neg h]
      omega
theorem filter_sum {α : Type} (p : α → Bool) (f : α → Nat) : ∀ l : List α, ((l.filter p).map f).sum = (l.map fun x => if p x = true then f x else 0).sum
  | [] => rfl
  | x :: l => by
    have := filter_sum p f l
    simp only [List.map_cons, List.sum_cons]
    by_cases h : p x = true
    · rw [List.filter_cons_of_pos h, List.map_cons, List.sum_cons, if_pos h]
      omega
    · rw [List.filter_cons_of_neg h, if_neg h]
      omega
open Classical in
theorem sum_one {l : List Nat} {p : Nat → Prop} {d : Nat} (nd : l.Nodup) (hd : d ∈ l) (pd : p d) (h : ∀ e ∈ l, p e → e = d) : (l.map fun e => if p e then 1 else 0).sum = 1 := by
  induction l with
  | nil => cases hd
  | cons x l ih =>
    simp only [List.map_cons, List.sum_cons]
    obtain ⟨n1, n2⟩ := List.nodup_cons.mp nd
    by_cases z : x = d
    · subst z
      rw [if_pos pd, sum_zero]
      intro e he
      rw [if_neg]
      intro pe
      exact n1 (h e (List.mem_cons_of_mem _ he) pe ▸ he)
    · have hd' : d ∈ l := by
        rcases List.mem_cons.mp hd with y | y
        · exact absurd y.symm z
        · exact y
      rw [if_neg (fun px => z (h x List.mem_cons_self px)), ih n2 hd' fun e he pe => h e (List.mem_cons_of_mem _ he) pe]
/-! the tree of a vertex: the vertex and the trees of its children -/
theorem Bel.trans {fs : List Nat} {a b c : Nat} (h : Bel fs a b) (g : Bel fs b c) : Bel fs a c := by
  induction g with
  | refl => exact h
  | step n _ ih => exact .step n ih
theorem Bel.comp {fs : List Nat} {a b u : Nat} (h : Bel fs a u) (g : Bel fs b u) : Bel fs a b ∨ Bel fs b a := by
  induction h with
  | refl => exact .inr g
  | step n h ih =>
    cases g with
    | refl => exact .inl (.step n h)
    | step _ g => exact ih g
theorem bel_kid {fs : List Nat} {v u : Nat} (h : Bel fs v u) (ne : u ≠ v) (rng : ∀ v, v < fs.length → par fs v < fs.length) (hu : u < fs.length) : ∃ d, d ∈ kids fs v ∧ Bel fs d u := by
  induction h with
  | refl => exact absurd rfl ne
  | @step u n h ih =>
    by_cases z : par fs u = v
    · exact ⟨u, mem_kids.mpr ⟨hu, z, fun e => n e.symm⟩, .refl⟩
    · obtain ⟨d, h1, h2⟩ := ih z (rng _ hu)
      exact ⟨d, h1, .step n h2⟩
theorem kids_nodup (fs : List Nat) (y : Nat) : (kids fs y).Nodup := List.Pairwise.filter _ List.nodup_range
open Classical in
theorem wt_kids {fs : List Nat} (F : Forest fs) {v : Nat} (hv : v < fs.length) : wt fs v = 1 + ((kids fs v).map (wt fs)).sum := by
  have e0 : ∀ d, wt fs d = ((List.range fs.length).map fun u => if Bel fs d u then 1 else 0).sum := fun d => by
    show ((List.range fs.length).filter _).length = _
    rw [len_sum]
    exact sum_congr fun u _ => by by_cases z : Bel fs d u <;> simp [z]
  have step : ∀ u ∈ List.range fs.length, (if Bel fs v u then 1 else 0) = (if u = v then 1 else 0) + ((kids fs v).map fun d => if Bel fs d u then 1 else 0).sum := fun u hu => by
    have hu := List.mem_range.mp hu
    by_cases ne : u = v
    · subst ne
      rw [if_pos .refl, if_pos rfl, sum_zero]
      intro d hd
      obtain ⟨k1, k2, k3⟩ := mem_kids.mp hd
      rw [if_neg]
      intro b
      rw [← k2] at b
      exact Bel.no (F.rch d k1) (fun e => k3 e.symm) b
    · rw [if_neg ne]
      by_cases b : Bel fs v u
      · obtain ⟨d, hd, bd⟩ := bel_kid b ne F.rng hu
        rw [if_pos b, sum_one (p := fun d => Bel fs d u) (kids_nodup fs v) hd bd]
        intro e he be
        obtain ⟨k1, k2, k3⟩ := mem_kids.mp hd
        obtain ⟨j1, j2, j3⟩ := mem_kids.mp he
        rcases be.comp bd with z | z
        · cases z with
          | refl => rfl
          | step _ z =>
            rw [k2] at z
            rw [← j2] at z
            exact absurd z (Bel.no (F.rch e j1) (fun e => j3 e.symm))
        · cases z with
          | refl => rfl
          | step _ z =>
            rw [j2] at z
            rw [← k2] at z
            exact absurd z (Bel.no (F.rch d k1) (fun e => k3 e.symm))
      · rw [if_neg b, sum_zero]
        intro d hd
        obtain ⟨k1, k2, k3⟩ := mem_kids.mp hd
        rw [if_neg]
        intro bd
        exact b (Bel.trans (.step (fun e => k3 e.symm) (by rw [k2]; exact .refl)) bd)
  rw [e0 v, sum_congr step, sum_add, sum_swap]
  have e1 : ((List.range fs.length).map fun u => if u = v then 1 else 0).sum = 1 := (sum_congr fun u _ => by by_cases z : u = v <;> simp [z]).trans (sum_one (p := fun u => u = v) List.nodup_range (List.mem_range.mpr hv) rfl fun e _ h => h)
  rw [e1]
  congr 1
  exact sum_congr fun d _ => (e0 d).symm
theorem wt_pos {fs : List Nat} (F : Forest fs) {v : Nat} (hv : v < fs.length) : 0 < wt fs v := by
  have := wt_kids F hv
  omega
theorem wt_lt {fs : List Nat} (F : Forest fs) {v d : Nat} (hv : v < fs.length) (hd : d ∈ kids fs v) : wt fs d < wt fs v := by
  have := wt_kids F hv
  have := sum_mem (f := wt fs) hd
  omega
/-! ### states on the way: S holds the vertices that are joined -/
noncomputable section
open Classical
def there (fs S : List Nat) : List Nat := (List.range fs.length).map fun v => if v ∈ S then par fs v else v
theorem there_length (fs S : List Nat) : (there fs S).length = fs.length := by unfold there; rw [List.length_map, List.length_range]
theorem par_there {fs S : List Nat} {v : Nat} (h : v < fs.length) : par (there fs S) v = if v ∈ S then par fs v else v := by
  unfold there
  show List.getD _ v 0 = _
  rw [List.getD_eq_getElem?_getD, List.getElem?_map, List.getElem?_range h]
  rfl
theorem there_up {fs S : List Nat} {k v : Nat} (rng : ∀ v, v < fs.length → par fs v < fs.length) (r : Rch fs k v) : v < fs.length → Up (there fs S) v := by
  induction r with
  | @root v h =>
    intro hv
    refine .root ?_
    rw [par_there hv]
    by_cases z : v ∈ S
    · rw [if_pos z, h]
    · rw [if_neg z]
  | @step k v h _ ih =>
    intro hv
    by_cases z : v ∈ S
    · refine .step ?_
      rw [par_there hv, if_pos z]
      exact ih (rng _ hv)
    · exact .root (by rw [par_there hv, if_neg z])
theorem there_forest {fs : List Nat} (F : Forest fs) (S : List Nat) : Forest (there fs S) := by
  have l := there_length fs S
  refine ⟨by rw [l]; exact F.pos, by rw [l]; exact F.few, fun v hv => ?_, fun v hv => ?_⟩
  · rw [l] at hv ⊢
    rw [par_there hv]
    by_cases z : v ∈ S
    · rw [if_pos z]
      exact F.rng v hv
    · rw [if_neg z]
      exact hv
  · rw [l] at hv
    obtain ⟨k, r⟩ := F.rch v hv
    exact there_up F.rng r hv
/-- the weight of p's tree so far -/
def grown (fs S : List Nat) (p : Nat) : Nat := 1 + ((kids fs p).map fun d => if d ∈ S then wt fs d else 0).sum
/-- joined vertices are no roots, and their children are joined -/
structure DC (fs S : List Nat) : Prop where
  low : ∀ v ∈ S, v < fs.length ∧ par fs v ≠ v
  cls : ∀ v ∈ S, ∀ d ∈ kids fs v, d ∈ S
theorem kids_there {fs S : List Nat} (r : Nat) : kids (there fs S) r = (kids fs r).filter fun d => decide (d ∈ S) := by
  unfold kids
  rw [there_length, List.filter_filter]
  refine List.filter_congr fun u hu => ?_
  rw [par_there (List.mem_range.mp hu)]
  by_cases z : u ∈ S
  · simp [z]
  · simp [z]
theorem there_in {fs S : List Nat} (F : Forest fs) (D : DC fs S) : ∀ (n v : Nat), wt fs v ≤ n → v ∈ S → wt (there fs S) v = wt fs v := by
  intro n
  induction n with
  | zero =>
    intro v h hv
    have := wt_pos F (D.low v hv).1
    omega
  | succ n ih =>
    intro v h hv
    have l := (D.low v hv).1
    rw [wt_kids (there_forest F S) (by rw [there_length]; exact l), wt_kids F l, kids_there, filter_sum]
    congr 1
    refine sum_congr fun d hd => ?_
    have ds := D.cls v hv d hd
    rw [if_pos (decide_eq_true ds)]
    exact ih d (by have := wt_lt F l hd; omega) ds
theorem there_out {fs S : List Nat} (F : Forest fs) (D : DC fs S) {r : Nat} (hr : r < fs.length) : wt (there fs S) r = grown fs S r := by
  rw [wt_kids (there_forest F S) (by rw [there_length]; exact hr), kids_there, filter_sum]
  unfold grown
  congr 1
  refine sum_congr fun d _ => ?_
  by_cases z : d ∈ S
  · rw [if_pos (decide_eq_true z), if_pos z]
    exact there_in F D _ d (Nat.le_refl _) z
  · rw [if_neg (fun y => z (of_decide_eq_true y)), if_neg z]
/-- v can be joined -/
structure Can (fs S : List Nat) (v : Nat) : Prop where
  low : v < fs.length
  lo : par fs v ≠ v
  new : v ∉ S
  all : ∀ d ∈ kids fs v, d ∈ S
  fit : wt fs v ≤ grown fs S (par fs v)
/-- the tree of v is whole exactly if all its children are joined -/
theorem grown_all {fs S : List Nat} (F : Forest fs) {v : Nat} (hv : v < fs.length) : grown fs S v = wt fs v ↔ ∀ d ∈ kids fs v, d ∈ S := by
  rw [wt_kids F hv]
  unfold grown
  constructor
  · intro h d hd
    refine Classical.byContradiction fun z => ?_
    have key : ∀ (l : List Nat), d ∈ l → (∀ e ∈ l, e < fs.length) → (l.map fun d => if d ∈ S then wt fs d else 0).sum < (l.map (wt fs)).sum := by
      intro l
      induction l with
      | nil => intro y; cases y
      | cons x l ih =>
        intro y hl
        simp only [List.map_cons, List.sum_cons]
        have le : (if x ∈ S then wt fs x else 0) ≤ wt fs x := by
          by_cases q : x ∈ S
          · rw [if_pos q]; exact Nat.le_refl _
          · rw [if_neg q]; exact Nat.zero_le _
        have le2 : (l.map fun d => if d ∈ S then wt fs d else 0).sum ≤ (l.map (wt fs)).sum := sum_le fun e _ => by
          by_cases q : e ∈ S
          · rw [if_pos q]; exact Nat.le_refl _
          · rw [if_neg q]; exact Nat.zero_le _
        rcases List.mem_cons.mp y with q | q
        · subst q
          rw [if_neg z]
          have := wt_pos F (hl d List.mem_cons_self)
          omega
        · have := ih q fun e he => hl e (List.mem_cons_of_mem _ he)
          omega
    have := key (kids fs v) hd fun e he => (mem_kids.mp he).1
    omega
  · intro h
    congr 1
    exact sum_congr fun d hd => if_pos (h d hd)
theorem grown_le {fs S : List Nat} (F : Forest fs) {v : Nat} (hv : v < fs.length) : grown fs S v ≤ wt fs v := by
  rw [wt_kids F hv]
  unfold grown
  have := sum_le (l := kids fs v) (f := fun d => if d ∈ S then wt fs d else 0) (g := wt fs) fun e _ => by
    by_cases q : e ∈ S
    · rw [if_pos q]; exact Nat.le_refl _
    · rw [if_neg q]; exact Nat.zero_le _
  omega
theorem grown_set {fs S T : List Nat} (h : ∀ v, v ∈ S ↔ v ∈ T) (p : Nat) : grown fs S p = grown fs T p := by
  unfold grown
  congr 1
  exact sum_congr fun d _ => by
    by_cases z : d ∈ S
    · rw [if_pos z, if_pos ((h d).mp z)]
    · rw [if_neg z, if_neg (fun y => z ((h d).mpr y))]
theorem grown_mono {fs S T : List Nat} (h : ∀ v, v ∈ S → v ∈ T) (p : Nat) : grown fs S p ≤ grown fs T p := by
  unfold grown
  have := sum_le (l := kids fs p) (f := fun d => if d ∈ S then wt fs d else 0) (g := fun d => if d ∈ T then wt fs d else 0) fun e _ => by
    by_cases q : e ∈ S
    · rw [if_pos q, if_pos (h e q)]; exact Nat.le_refl _
    · rw [if_neg q]; exact Nat.zero_le _
  omega
/-- after v is joined, its parent weighs so much more -/
theorem grown_snoc {fs S : List Nat} {v : Nat} (hv : v < fs.length) (lo : par fs v ≠ v) (new : v ∉ S) (p : Nat) : grown fs (S ++ [v]) p = grown fs S p + (if p = par fs v then wt fs v else 0) := by
  unfold grown
  have key : ∀ (l : List Nat), l.Nodup → (l.map fun d => if d ∈ S ++ [v] then wt fs d else 0).sum = (l.map fun d => if d ∈ S then wt fs d else 0).sum + (if v ∈ l then wt fs v else 0) := by
    intro l
    induction l with
    | nil => intro _; rfl
    | cons x l ih =>
      intro nd
      obtain ⟨n1, n2⟩ := List.nodup_cons.mp nd
      simp only [List.map_cons, List.sum_cons]
      rw [ih n2]
      by_cases z : x = v
      · subst z
        rw [if_pos (List.mem_append_right _ (List.mem_singleton.mpr rfl)), if_neg new, if_neg n1, if_pos List.mem_cons_self]
        omega
      · have e1 : (x ∈ S ++ [v]) ↔ x ∈ S := by simp [z]
        have e2 : (v ∈ x :: l) ↔ v ∈ l := ⟨fun y => (List.mem_cons.mp y).elim (fun e => absurd e.symm z) id, List.mem_cons_of_mem _⟩
        by_cases q : x ∈ S
        · rw [if_pos (e1.mpr q), if_pos q]
          by_cases q2 : v ∈ l
          · rw [if_pos q2, if_pos (e2.mpr q2)]; omega
          · rw [if_neg q2, if_neg (fun y => q2 (e2.mp y))]; omega
        · rw [if_neg (fun y => q (e1.mp y)), if_neg q]
          by_cases q2 : v ∈ l
          · rw [if_pos q2, if_pos (e2.mpr q2)]; omega
          · rw [if_neg q2, if_neg (fun y => q2 (e2.mp y))]; omega
  rw [key _ (kids_nodup fs p)]
  have e : (v ∈ kids fs p) ↔ p = par fs v := by
    rw [mem_kids]
    exact ⟨fun h => h.2.1.symm, fun h => ⟨hv, h.symm, fun y => lo y.symm⟩⟩
  by_cases q : p = par fs v
  · rw [if_pos q, if_pos (e.mpr q)]; omega
  · rw [if_neg q, if_neg (fun y => q (e.mp y))]; omega
/-- beginnings: each vertex possible at its turn -/
inductive Bg (fs : List Nat) : List Nat → Prop
  | nil : Bg fs []
  | snoc {S : List Nat} {v : Nat} : Bg fs S → Can fs S v → Bg fs (S ++ [v])
theorem Bg.low {fs S : List Nat} (h : Bg fs S) : ∀ v ∈ S, v < fs.length ∧ par fs v ≠ v := by
  induction h with
  | nil => intro v hv; cases hv
  | snoc _ p ih =>
    intro v hv
    rcases List.mem_append.mp hv with z | z
    · exact ih v z
    · rw [List.mem_singleton.mp z]
      exact ⟨p.low, p.lo⟩
theorem Bg.dc {fs S : List Nat} (h : Bg fs S) : DC fs S := by
  refine ⟨h.low, ?_⟩
  induction h with
  | nil => intro v hv; cases hv
  | snoc _ p ih =>
    intro v hv d hd
    rcases List.mem_append.mp hv with z | z
    · exact List.mem_append_left _ (ih v z d hd)
    · rw [List.mem_singleton.mp z] at hd
      exact List.mem_append_left _ (p.all d hd)
theorem Bg.nodup {fs S : List Nat} (h : Bg fs S) : S.Nodup := by
  induction h with
  | nil => exact List.nodup_nil
  | snoc _ p ih =>
    refine List.nodup_append.mpr ⟨ih, List.nodup_cons.mpr ⟨List.not_mem_nil, List.nodup_nil⟩, fun a ha b hb e => ?_⟩
    rw [List.mem_singleton.mp hb] at e
    exact p.new (e ▸ ha)
/-- the vertices that are no roots -/
def lowers (fs : List Nat) : List Nat := (List.range fs.length).filter fun v => !decide (par fs v = v)
theorem mem_lowers {fs : List Nat} {v : Nat} : v ∈ lowers fs ↔ v < fs.length ∧ par fs v ≠ v := by
  unfold lowers
  rw [List.mem_filter, List.mem_range]
  simp
/-- heavy children -/
def Heavy (fs : List Nat) (c : Nat) : Prop := c < fs.length ∧ par fs c ≠ c ∧ 1 + ((kids fs (par fs c)).map fun d => if wt fs d < wt fs c then wt fs d else 0).sum < wt fs c
/-- without heavy children some vertex can always be joined, until all are -/
theorem go_on {fs S : List Nat} (F : Forest fs) (nh : ∀ c, ¬ Heavy fs c) (D : ∀ v ∈ S, v < fs.length ∧ par fs v ≠ v) {u : Nat} (hu : u < fs.length) (lo : par fs u ≠ u) (new : u ∉ S) : ∃ v, Can fs S v := by
  have key : ∀ (n u : Nat), wt fs u ≤ n → u < fs.length → par fs u ≠ u → u ∉ S → ∃ v, Can fs S v := by
    intro n
    induction n with
    | zero =>
      intro u h hu
      have := wt_pos F hu
      omega
    | succ n ih =>
      intro u h hu lo new
      by_cases z : ∃ v, wt fs v < wt fs u ∧ v < fs.length ∧ par fs v ≠ v ∧ v ∉ S
      · obtain ⟨v, h1, h2, h3, h4⟩ := z
        exact ih v (by omega) h2 h3 h4
      · have all : ∀ v, wt fs v < wt fs u → v < fs.length → par fs v ≠ v → v ∈ S := fun v h1 h2 h3 => Classical.byContradiction fun h4 => z ⟨v, h1, h2, h3, h4⟩
        refine ⟨u, hu, lo, new, fun d hd => ?_, ?_⟩
        · obtain ⟨k1, k2, k3⟩ := mem_kids.mp hd
          exact all d (wt_lt F hu hd) k1 fun e => k3 e.symm
        · have hn := nh u
          unfold Heavy at hn
          have hn : wt fs u ≤ 1 + ((kids fs (par fs u)).map fun d => if wt fs d < wt fs u then wt fs d else 0).sum := Nat.le_of_not_lt fun y => hn ⟨hu, lo, y⟩
          refine Nat.le_trans hn ?_
          unfold grown
          refine Nat.add_le_add_left (sum_le fun d hd => ?_) _
          obtain ⟨k1, k2, k3⟩ := mem_kids.mp hd
          by_cases y : wt fs d < wt fs u
          · rw [if_pos y, if_pos (all d y k1 fun e => k3 e.symm)]
            exact Nat.le_refl _
          · rw [if_neg y]
            exact Nat.zero_le _
  exact key _ u (Nat.le_refl _) hu lo new
/-- what is joined is not too heavy -/
theorem Bg.light {fs S : List Nat} (F : Forest fs) (h : Bg fs S) : ∀ c ∈ S, ¬ Heavy fs c := by
  -- the first one of p's children that is at least as heavy as c
  have key : ∀ (c : Nat), Heavy fs c → ∀ e ∈ S, par fs e = par fs c → wt fs e < wt fs c := by
    intro c hc
    induction h with
    | nil => intro e he; cases he
    | @snoc S v b p ih =>
      intro e he pe
      rcases List.mem_append.mp he with z | z
      · exact ih e z pe
      · have z := List.mem_singleton.mp z
        subst z
        refine Nat.lt_of_le_of_lt p.fit (Nat.lt_of_le_of_lt ?_ hc.2.2)
        rw [pe]
        unfold grown
        refine Nat.add_le_add_left (sum_le fun d hd => ?_) _
        obtain ⟨k1, k2, k3⟩ := mem_kids.mp hd
        by_cases y : d ∈ S
        · rw [if_pos y, if_pos (ih d y k2)]
          exact Nat.le_refl _
        · rw [if_neg y]
          exact Nat.zero_le _
  intro c hc hh
  exact absurd (key c hh c hc rfl) (Nat.lt_irrefl _)
end
end Lf
namespace Lf
/-! ### the search through all orders of joins: plain mathematics -/
noncomputable section
open Classical
theorem there_get {fs S : List Nat} : there fs S = fs ↔ ∀ v, v < fs.length → par fs v ≠ v → v ∈ S := by
  constructor
  · intro h v hv lo
    refine Classical.byContradiction fun z => lo ?_
    have := par_there (S := S) hv
    rw [h, if_neg z] at this
    exact this
  · intro h
    refine List.ext_getElem? fun i => ?_
    unfold there
    by_cases z : i < fs.length
    · rw [List.getElem?_map, List.getElem?_range z]
      have e : fs[i]? = some (par fs i) := by
        unfold par
        rw [List.getD_eq_getElem?_getD, List.getElem?_eq_getElem z]
        rfl
      rw [e]
      show some (if i ∈ S then par fs i else i) = _
      by_cases y : par fs i = i
      · rw [y]
        by_cases q : i ∈ S
        · rw [if_pos q]
        · rw [if_neg q]
      · rw [if_pos (h i z y)]
    · rw [List.getElem?_eq_none (by rw [List.length_map, List.length_range]; omega), List.getElem?_eq_none (by omega)]
theorem there_nil (fs : List Nat) : there fs [] = List.range fs.length := by
  unfold there
  simp
theorem there_inj {fs S T : List Nat} (DS : ∀ v ∈ S, v < fs.length ∧ par fs v ≠ v) (DT : ∀ v ∈ T, v < fs.length ∧ par fs v ≠ v) (h : there fs S = there fs T) : ∀ v, v ∈ S ↔ v ∈ T := by
  have one : ∀ {S T : List Nat}, (∀ v ∈ S, v < fs.length ∧ par fs v ≠ v) → there fs S = there fs T → ∀ v, v ∈ S → v ∈ T := by
    intro S T DS h v hv
    obtain ⟨l, lo⟩ := DS v hv
    refine Classical.byContradiction fun z => lo ?_
    have e1 := par_there (S := S) l
    have e2 := par_there (S := T) l
    rw [h, if_pos hv] at e1
    rw [if_neg z] at e2
    exact e1.symm.trans e2
  exact fun v => ⟨one DS h v, one DT h.symm v⟩
theorem there_set {fs S T : List Nat} (h : ∀ v, v ∈ S ↔ v ∈ T) : there fs S = there fs T := by
  unfold there
  refine List.map_congr_left fun v _ => ?_
  by_cases z : v ∈ S
  · rw [if_pos z, if_pos ((h v).mp z)]
  · rw [if_neg z, if_neg (fun y => z ((h v).mpr y))]
theorem there_snoc {fs S : List Nat} {v : Nat} : (there fs S).set v (par fs v) = there fs (S ++ [v]) := by
  unfold there
  refine List.ext_getElem? fun i => ?_
  rw [List.getElem?_set, List.getElem?_map, List.getElem?_map, List.length_map, List.length_range]
  by_cases z : i < fs.length
  · rw [List.getElem?_range z]
    by_cases y : v = i
    · subst y
      rw [if_pos rfl, if_pos z]
      show _ = some (if v ∈ S ++ [v] then par fs v else v)
      rw [if_pos (List.mem_append_right _ (List.mem_singleton.mpr rfl))]
    · rw [if_neg y]
      show some (if i ∈ S then par fs i else i) = some (if i ∈ S ++ [v] then par fs i else i)
      have e1 : (i ∈ S ++ [v]) ↔ i ∈ S := by
        rw [List.mem_append, List.mem_singleton]
        exact ⟨fun q => q.elim id fun q => absurd q.symm y, .inl⟩
      by_cases q : i ∈ S
      · rw [if_pos q, if_pos (e1.mpr q)]
      · rw [if_neg q, if_neg (fun w => q (e1.mp w))]
  · rw [List.getElem?_eq_none (l := List.range fs.length) (by rw [List.length_range]; omega)]
    by_cases y : v = i
    · rw [if_pos y, if_neg (by omega)]
      rfl
    · rw [if_neg y]
      rfl
theorem Can.set {fs S T : List Nat} {v : Nat} (h : ∀ v, v ∈ S ↔ v ∈ T) (p : Can fs S v) : Can fs T v := ⟨p.low, p.lo, fun z => p.new ((h v).mpr z), fun d hd => (h d).mp (p.all d hd), by rw [← grown_set h]; exact p.fit⟩
/-- the whole trees below stay so when others are joined -/
theorem there_in' {fs S T : List Nat} (F : Forest fs) (D : DC fs S) (sub : ∀ v ∈ S, v ∈ T) : ∀ (n v : Nat), wt fs v ≤ n → v ∈ S → wt (there fs T) v = wt fs v := by
  intro n
  induction n with
  | zero =>
    intro v h hv
    have := wt_pos F (D.low v hv).1
    omega
  | succ n ih =>
    intro v h hv
    have l := (D.low v hv).1
    rw [wt_kids (there_forest F T) (by rw [there_length]; exact l), wt_kids F l, kids_there, filter_sum]
    congr 1
    refine sum_congr fun d hd => ?_
    have ds := D.cls v hv d hd
    rw [if_pos (decide_eq_true (sub d ds))]
    exact ih d (by have := wt_lt F l hd; omega) ds
/-- after v is put below its parent, its own tree is as it was -/
theorem there_own {fs S : List Nat} (F : Forest fs) (D : DC fs S) {v : Nat} (hv : v < fs.length) (lo : par fs v ≠ v) : wt (there fs (S ++ [v])) v = grown fs S v := by
  rw [wt_kids (there_forest F _) (by rw [there_length]; exact hv), kids_there, filter_sum]
  unfold grown
  congr 1
  refine sum_congr fun d hd => ?_
  have ne : d ≠ v := fun e => by
    subst e
    exact lo (mem_kids.mp hd).2.1
  have e1 : (d ∈ S ++ [v]) ↔ d ∈ S := by
    rw [List.mem_append, List.mem_singleton]
    exact ⟨fun q => q.elim id fun q => absurd q ne, .inl⟩
  by_cases z : d ∈ S
  · rw [if_pos (decide_eq_true (e1.mpr z)), if_pos z]
    exact there_in' F D (fun v hv => List.mem_append_left _ hv) _ d (Nat.le_refl _) z
  · rw [if_neg (fun y => z (e1.mp (of_decide_eq_true y))), if_neg z]
/-- (a, b) is a join -/
def Jn (fs : List Nat) (a b : Nat) : Prop := a < fs.length ∧ par fs a = a ∧ b < fs.length ∧ par fs b = b ∧ a ≠ b ∧ cnt fs a fs.length ≤ cnt fs b fs.length
/-- what the step's tests say -/
theorem step_pos {fs S : List Nat} (F : Forest fs) (b : Bg fs S) {c : Nat} (hc : c < fs.length) : (Jn (there fs S) c (par fs c) ∧ wt (there fs (S ++ [c])) c = wt fs c) ↔ Can fs S c := by
  have D := b.dc
  have pc := F.rng c hc
  constructor
  · rintro ⟨⟨_, h1, _, h2, h3, h4⟩, h5⟩
    rw [there_own F D hc (fun e => h3 e.symm)] at h5
    have new : c ∉ S := fun z => by
      rw [par_there hc, if_pos z] at h1
      exact h3 h1.symm
    refine ⟨hc, fun e => h3 e.symm, new, (grown_all F hc).mp h5, ?_⟩
    have e1 := there_out F D hc
    have e2 := there_out F D pc
    rw [← h5, ← e1, ← e2]
    exact h4
  · intro p
    have pn : par fs c ∉ S := fun z => p.new (D.cls _ z c (mem_kids.mpr ⟨hc, rfl, fun e => p.lo e.symm⟩))
    refine ⟨⟨by rw [there_length]; exact hc, by rw [par_there hc, if_neg p.new], by rw [there_length]; exact pc, by rw [par_there pc, if_neg pn], fun e => p.lo e.symm, ?_⟩, ?_⟩
    · show wt (there fs S) c ≤ wt (there fs S) (par fs c)
      rw [there_out F D hc, there_out F D pc]
      exact Nat.le_trans (grown_le F hc) p.fit
    · rw [there_own F D hc p.lo]
      exact (grown_all F hc).mpr p.all
/-- all states -/
def allT (fs : List Nat) : List Nat → List (List Nat)
  | [] => [[]]
  | v :: vs => (allT fs vs).flatMap fun r => [v :: r, par fs v :: r]
theorem allT_length (fs : List Nat) : ∀ vs, (allT fs vs).length = 2 ^ vs.length
  | [] => rfl
  | v :: vs => by
    have key : ∀ l : List (List Nat), (l.flatMap fun r => [v :: r, par fs v :: r]).length = 2 * l.length := by
      intro l
      induction l with
      | nil => rfl
      | cons x l ih =>
        rw [List.flatMap_cons, List.length_append, ih]
        show 2 + 2 * l.length = 2 * (l.length + 1)
        omega
    show ((allT fs vs).flatMap _).length = _
    rw [key, allT_length fs vs, List.length_cons, Nat.pow_succ, Nat.mul_comm]
theorem allT_mem (fs S : List Nat) : ∀ vs, (vs.map fun v => if v ∈ S then par fs v else v) ∈ allT fs vs
  | [] => List.mem_singleton.mpr rfl
  | v :: vs => by
    refine List.mem_flatMap.mpr ⟨_, allT_mem fs S vs, ?_⟩
    rw [List.map_cons]
    by_cases z : v ∈ S
    · rw [if_pos z]
      exact List.mem_cons_of_mem _ List.mem_cons_self
    · rw [if_neg z]
      exact List.mem_cons_self
theorem nodup_sub {α : Type} : ∀ {l m : List α}, l.Nodup → (∀ x ∈ l, x ∈ m) → l.length ≤ m.length
  | [], m, _, _ => Nat.zero_le _
  | x :: l, m, nd, h => by
    obtain ⟨n1, n2⟩ := List.nodup_cons.mp nd
    have hx := h x List.mem_cons_self
    have := nodup_sub (l := l) (m := m.erase x) n2 fun y hy => (List.mem_erase_of_ne (fun e : y = x => n1 (e ▸ hy))).mpr (h y (List.mem_cons_of_mem _ hy))
    rw [List.length_erase_of_mem hx] at this
    have := List.length_pos_of_mem hx
    rw [List.length_cons]
    omega
/-- closed at M for the children below k -/
def ClsAt (fs : List Nat) (Ms : List (List Nat)) (M : List Nat) (k : Nat) : Prop := ∀ S v, v < k → M = there fs S → Bg fs S → Can fs S v → there fs (S ++ [v]) ∈ Ms
structure Srch (fs : List Nat) (Ms Ws : List (List Nat)) (ex : List Nat → Prop) : Prop where
  st : List.range fs.length ∈ Ms
  bg : ∀ M ∈ Ms, ∃ S, Bg fs S ∧ M = there fs S
  nd : Ms.Nodup
  sub : ∀ W ∈ Ws, W ∈ Ms
  cls : ∀ M ∈ Ms, M ∉ Ws → ¬ ex M → ClsAt fs Ms M fs.length
  le : Ws.length ≤ Ms.length
theorem Srch.few {fs : List Nat} {Ms Ws : List (List Nat)} {ex : List Nat → Prop} (h : Srch fs Ms Ws ex) : Ms.length ≤ 2 ^ fs.length := by
  have := nodup_sub (m := allT fs (List.range fs.length)) h.nd fun M hM => by
    obtain ⟨S, _, rfl⟩ := h.bg M hM
    exact allT_mem fs S _
  rw [allT_length, List.length_range] at this
  exact this
theorem Srch.start (fs : List Nat) : Srch fs [List.range fs.length] [List.range fs.length] fun _ => False :=
  ⟨List.mem_singleton.mpr rfl, fun M hM => ⟨[], .nil, by rw [List.mem_singleton.mp hM, there_nil]⟩, List.nodup_cons.mpr ⟨List.not_mem_nil, List.nodup_nil⟩, fun W h => h, fun M h1 h2 => absurd h1 h2, Nat.le_refl _⟩
theorem Srch.pop {fs : List Nat} {Ms Ws : List (List Nat)} {M : List Nat} (h : Srch fs Ms (Ws ++ [M]) fun _ => False) : Srch fs Ms Ws fun N => N = M :=
  ⟨h.st, h.bg, h.nd, fun W hW => h.sub W (List.mem_append_left _ hW), fun N h1 h2 h3 => h.cls N h1 (fun z => (List.mem_append.mp z).elim h2 fun y => h3 (List.mem_singleton.mp y)) id, by have := h.le; rw [List.length_append] at this; omega⟩
theorem Srch.back {fs : List Nat} {Ms Ws : List (List Nat)} {M : List Nat} (h : Srch fs Ms Ws fun N => N = M) (c : ClsAt fs Ms M fs.length) : Srch fs Ms Ws fun _ => False :=
  ⟨h.st, h.bg, h.nd, h.sub, fun N h1 h2 _ => by
    by_cases z : N = M
    · subst z
      exact c
    · exact h.cls N h1 h2 z, h.le⟩
theorem ClsAt.more {fs : List Nat} {Ms Ns : List (List Nat)} {M : List Nat} {k : Nat} (h : ClsAt fs Ms M k) (s : ∀ x ∈ Ms, x ∈ Ns) : ClsAt fs Ns M k := fun S v hv e b p => s _ (h S v hv e b p)
theorem Srch.add {fs : List Nat} {Ms Ws : List (List Nat)} {M S : List Nat} {v : Nat} (h : Srch fs Ms Ws fun N => N = M) (b : Bg fs S) (p : Can fs S v) (new : there fs (S ++ [v]) ∉ Ms) : Srch fs (Ms ++ [there fs (S ++ [v])]) (Ws ++ [there fs (S ++ [v])]) fun N => N = M := by
  refine ⟨List.mem_append_left _ h.st, fun N hN => ?_, ?_, fun W hW => ?_, fun N h1 h2 h3 => ?_, by have := h.le; rw [List.length_append, List.length_append]; exact Nat.add_le_add_right this _⟩
  · rcases List.mem_append.mp hN with z | z
    · exact h.bg N z
    · exact ⟨_, b.snoc p, List.mem_singleton.mp z⟩
  · refine List.nodup_append.mpr ⟨h.nd, List.nodup_cons.mpr ⟨List.not_mem_nil, List.nodup_nil⟩, fun x hx y hy e => ?_⟩
    rw [List.mem_singleton.mp hy] at e
    exact new (e ▸ hx)
  · rcases List.mem_append.mp hW with z | z
    · exact List.mem_append_left _ (h.sub W z)
    · exact List.mem_append_right _ z
  · rcases List.mem_append.mp h1 with z | z
    · exact (h.cls N z (fun y => h2 (List.mem_append_left _ y)) h3).more fun x hx => List.mem_append_left _ hx
    · exact absurd (List.mem_append_right _ z) h2
/-- at M = there fs S: all that is due for v -/
theorem ClsAt.next {fs : List Nat} {Ms : List (List Nat)} {S : List Nat} {k : Nat} (b : Bg fs S) (h : ClsAt fs Ms (there fs S) k) (new : Can fs S k → there fs (S ++ [k]) ∈ Ms) : ClsAt fs Ms (there fs S) (k + 1) := by
  intro T v hv e bT p
  by_cases z : v < k
  · exact h T v z e bT p
  · have z : v = k := by omega
    subst z
    have same := there_inj b.low bT.low e
    have := new (p.set fun x => (same x).symm)
    rw [there_set (T := S ++ [v]) fun x => by rw [List.mem_append, List.mem_append, same x]]
    exact this
theorem Srch.done {fs : List Nat} (F : Forest fs) {Ms : List (List Nat)} (h : Srch fs Ms [] fun _ => False) : fs ∈ Ms ↔ ∀ c, ¬ Heavy fs c := by
  constructor
  · intro hm c hc
    obtain ⟨S, b, e⟩ := h.bg fs hm
    exact b.light F c (there_get.mp e.symm c hc.1 hc.2.1) hc
  · intro nh
    have key : ∀ (n : Nat) (S : List Nat), Bg fs S → there fs S ∈ Ms → fs.length - S.length ≤ n → fs ∈ Ms := by
      intro n
      induction n with
      | zero =>
        intro S b hS le
        by_cases z : ∃ u, u < fs.length ∧ par fs u ≠ u ∧ u ∉ S
        · obtain ⟨u, h1, h2, h3⟩ := z
          have : (u :: S).length ≤ fs.length := nodup_le (List.nodup_cons.mpr ⟨h3, b.nodup⟩) fun x hx => by
            rcases List.mem_cons.mp hx with y | y
            · omega
            · exact (b.low x y).1
          rw [List.length_cons] at this
          omega
        · rw [there_get.mpr fun v h1 h2 => Classical.byContradiction fun h3 => z ⟨v, h1, h2, h3⟩] at hS
          exact hS
      | succ n ih =>
        intro S b hS le
        by_cases z : ∃ u, u < fs.length ∧ par fs u ≠ u ∧ u ∉ S
        · obtain ⟨u, h1, h2, h3⟩ := z
          obtain ⟨v, p⟩ := go_on F nh b.low h1 h2 h3
          refine ih (S ++ [v]) (b.snoc p) (h.cls _ hS List.not_mem_nil id S v p.low rfl b p) ?_
          rw [List.length_append]
          show fs.length - (S.length + 1) ≤ n
          omega
        · rw [there_get.mpr fun v h1 h2 => Classical.byContradiction fun h3 => z ⟨v, h1, h2, h3⟩] at hS
          exact hS
    exact key _ [] .nil (by rw [there_nil]; exact h.st) (Nat.le_refl _)
end
end Lf
namespace Lf
/-! ### histories: plain mathematics -/
noncomputable section
open Classical
theorem lowers_nodup (fs : List Nat) : (lowers fs).Nodup := List.Pairwise.filter _ List.nodup_range
theorem tops_lowers (fs : List Nat) : (tops fs).length + (lowers fs).length = fs.length := by
  have key : ∀ (l : List Nat) (p : Nat → Bool), (l.filter p).length + (l.filter fun v => !p v).length = l.length := by
    intro l p
    induction l with
    | nil => rfl
    | cons x l ih =>
      by_cases h : p x = true
      · rw [List.filter_cons_of_pos h, List.filter_cons_of_neg (by simp [h])]
        simp only [List.length_cons]
        omega
      · rw [List.filter_cons_of_neg h, List.filter_cons_of_pos (by simp [h])]
        simp only [List.length_cons]
        omega
  have := key (List.range fs.length) fun v => decide (par fs v = v)
  rw [List.length_range] at this
  exact this
/-- a whole history -/
def Hs (fs S : List Nat) : Prop := Bg fs S ∧ S.length = (lowers fs).length
theorem Bg.le {fs S : List Nat} (b : Bg fs S) : S.length ≤ (lowers fs).length := nodup_sub b.nodup fun v hv => mem_lowers.mpr (b.low v hv)
theorem Hs.all {fs S : List Nat} (h : Hs fs S) : ∀ v, v < fs.length → par fs v ≠ v → v ∈ S := by
  intro v hv lo
  refine Classical.byContradiction fun z => ?_
  have := nodup_sub (l := v :: S) (m := lowers fs) (List.nodup_cons.mpr ⟨z, h.1.nodup⟩) fun x hx => by
    rcases List.mem_cons.mp hx with y | y
    · rw [y]
      exact mem_lowers.mpr ⟨hv, lo⟩
    · exact mem_lowers.mpr (h.1.low x y)
  rw [List.length_cons, h.2] at this
  omega
theorem Hs.of {fs S : List Nat} (b : Bg fs S) (h : ∀ v, v < fs.length → par fs v ≠ v → v ∈ S) : Hs fs S := by
  refine ⟨b, Nat.le_antisymm b.le (nodup_sub (lowers_nodup fs) fun v hv => ?_)⟩
  obtain ⟨h1, h2⟩ := mem_lowers.mp hv
  exact h v h1 h2
theorem Hs.there {fs S : List Nat} (h : Hs fs S) : there fs S = fs := there_get.mpr h.all
theorem Bg.there {fs S : List Nat} (b : Bg fs S) (h : there fs S = fs) : Hs fs S := Hs.of b (there_get.mp h)
theorem Hs.light {fs S : List Nat} (F : Forest fs) (h : Hs fs S) : ∀ c, ¬ Heavy fs c := fun c hc => h.1.light F c (h.all c hc.1 hc.2.1) hc
/-- every beginning of a forest without heavy children can be finished -/
theorem Bg.ends {fs : List Nat} (F : Forest fs) (nh : ∀ c, ¬ Heavy fs c) : ∀ (n : Nat) (S : List Nat), Bg fs S → (lowers fs).length - S.length ≤ n → ∃ T, Hs fs (S ++ T) := by
  intro n
  induction n with
  | zero =>
    intro S b le
    have := b.le
    exact ⟨[], by rw [List.append_nil]; exact ⟨b, by omega⟩⟩
  | succ n ih =>
    intro S b le
    by_cases z : ∃ u, u < fs.length ∧ par fs u ≠ u ∧ u ∉ S
    · obtain ⟨u, h1, h2, h3⟩ := z
      obtain ⟨v, p⟩ := go_on F nh b.low h1 h2 h3
      obtain ⟨T, h⟩ := ih (S ++ [v]) (b.snoc p) (by rw [List.length_append]; show _ - (S.length + 1) ≤ n; omega)
      exact ⟨v :: T, by rw [List.append_assoc] at h; exact h⟩
    · exact ⟨[], by rw [List.append_nil]; exact Hs.of b fun v h1 h2 => Classical.byContradiction fun h3 => z ⟨v, h1, h2, h3⟩⟩
/-- what is possible stays possible -/
theorem Can.stay {fs S : List Nat} {v u : Nat} (p : Can fs S v) (ne : v ≠ u) : Can fs (S ++ [u]) v :=
  ⟨p.low, p.lo, fun z => (List.mem_append.mp z).elim p.new fun y => ne (List.mem_singleton.mp y), fun d hd => List.mem_append_left _ (p.all d hd), Nat.le_trans p.fit (grown_mono (fun x hx => List.mem_append_left _ hx) _)⟩
theorem Bg.last {fs S : List Nat} {v : Nat} (h : Bg fs (S ++ [v])) : Bg fs S ∧ Can fs S v := by
  generalize e : S ++ [v] = T at h
  cases h with
  | nil => cases S <;> cases e
  | @snoc S' v' b p =>
    obtain ⟨e1, e2⟩ := List.append_inj' e rfl
    cases e2
    subst e1
    exact ⟨b, p⟩
theorem Bg.pre {fs : List Nat} : ∀ {T S : List Nat}, Bg fs (S ++ T) → Bg fs S := by
  intro T
  induction T with
  | nil =>
    intro S h
    rw [List.append_nil] at h
    exact h
  | cons v T ih =>
    intro S h
    have : Bg fs ((S ++ [v]) ++ T) := by rw [List.append_assoc]; exact h
    exact (ih this).last.1
theorem Bg.take {fs S : List Nat} (h : Bg fs S) (k : Nat) : Bg fs (S.take k) := by
  rw [← List.take_append_drop k S] at h
  exact h.pre
theorem Bg.at {fs S : List Nat} (h : Bg fs S) {k v : Nat} (e : S[k]? = some v) : Can fs (S.take k) v := by
  have := h.take (k + 1)
  rw [List.take_add_one, e] at this
  exact this.last.2
/-! a join keeps a forest without heavy children -/
theorem par_join {fs : List Nat} {a b v : Nat} (ha : a < fs.length) : par (fs.set a b) v = if v = a then b else par fs v := par_set ha
theorem kids_join {fs : List Nat} {a b : Nat} (ha : a < fs.length) (pa : par fs a = a) (ne : a ≠ b) {x u : Nat} : u ∈ kids (fs.set a b) x ↔ u ∈ kids fs x ∨ (u = a ∧ x = b) := by
  rw [mem_kids, mem_kids, List.length_set, par_join ha]
  by_cases z : u = a
  · subst z
    rw [if_pos rfl]
    constructor
    · rintro ⟨_, h, _⟩
      exact .inr ⟨rfl, h.symm⟩
    · rintro (⟨_, h1, h2⟩ | ⟨_, h⟩)
      · exact absurd pa.symm h2
      · exact ⟨ha, h.symm, ne⟩
  · rw [if_neg z]
    constructor
    · exact fun h => .inl h
    · rintro (h | ⟨h, _⟩)
      · exact h
      · exact absurd h z
theorem sum_perm {l m : List Nat} (hl : l.Nodup) (hm : m.Nodup) (h : ∀ u, u ∈ l ↔ u ∈ m) (f : Nat → Nat) : (l.map f).sum = (m.map f).sum := by
  have := ((List.perm_ext_iff_of_nodup hl hm).mpr h).map f
  exact this.sum_nat
theorem join_forest {fs : List Nat} (F : Forest fs) {a b : Nat} (ha : a < fs.length) (pa : par fs a = a) (hb : b < fs.length) (pb : par fs b = b) (ne : a ≠ b) : Forest (fs.set a b) := F.moved ha hb fun z => by
  cases z with
  | refl => exact ne rfl
  | step h _ => exact h pb
theorem wt_join {fs : List Nat} (F : Forest fs) {a b : Nat} (ha : a < fs.length) (pa : par fs a = a) (hb : b < fs.length) (pb : par fs b = b) (ne : a ≠ b) : ∀ (n v : Nat), wt fs v ≤ n → v < fs.length → v ≠ b → wt (fs.set a b) v = wt fs v := by
  intro n
  have F' := join_forest F ha pa hb pb ne
  induction n with
  | zero =>
    intro v h hv
    have := wt_pos F hv
    omega
  | succ n ih =>
    intro v h hv nb
    rw [wt_kids F' (by rw [List.length_set]; exact hv), wt_kids F hv]
    congr 1
    rw [sum_perm (kids_nodup _ v) (kids_nodup fs v) (fun u => ?_) (wt (fs.set a b))]
    · refine sum_congr fun d hd => ?_
      obtain ⟨k1, k2, k3⟩ := mem_kids.mp hd
      refine ih d (by have := wt_lt F hv hd; omega) k1 fun e => ?_
      subst e
      exact k3 pb.symm
    · rw [kids_join ha pa ne]
      exact ⟨fun z => z.elim id fun y => absurd y.2 nb, .inl⟩
theorem join_light {fs : List Nat} (F : Forest fs) {a b : Nat} (ha : a < fs.length) (pa : par fs a = a) (hb : b < fs.length) (pb : par fs b = b) (ne : a ≠ b) (le : wt fs a ≤ wt fs b) (nh : ∀ c, ¬ Heavy fs c) : ∀ c, ¬ Heavy (fs.set a b) c := by
  have F' := join_forest F ha pa hb pb ne
  have same : ∀ v, v < fs.length → v ≠ b → wt (fs.set a b) v = wt fs v := fun v => wt_join F ha pa hb pb ne _ v (Nat.le_refl _)
  rintro c ⟨hc, lo, hv⟩
  rw [List.length_set] at hc
  rw [par_join ha] at lo hv
  have kb : ∀ {d x : Nat}, d ∈ kids fs x → d < fs.length ∧ d ≠ b := fun hd => by
    obtain ⟨k1, k2, k3⟩ := mem_kids.mp hd
    refine ⟨k1, fun e => ?_⟩
    subst e
    exact k3 pb.symm
  -- sums over old children only grow
  have grow : ∀ (x w : Nat), ((kids fs x).map fun d => if wt fs d < w then wt fs d else 0).sum ≤ ((kids (fs.set a b) x).map fun d => if wt (fs.set a b) d < w then wt (fs.set a b) d else 0).sum := by
    intro x w
    have e1 : ((kids fs x).map fun d => if wt fs d < w then wt fs d else 0).sum = ((kids fs x).map fun d => if wt (fs.set a b) d < w then wt (fs.set a b) d else 0).sum := sum_congr fun d hd => by
      obtain ⟨k1, k2⟩ := kb hd
      rw [same d k1 k2]
    rw [e1]
    by_cases z : x = b
    · subst z
      have e2 := sum_perm (m := a :: kids fs x) (kids_nodup (fs.set a x) x) (List.nodup_cons.mpr ⟨fun y => (mem_kids.mp y).2.2 pa.symm, kids_nodup fs x⟩) (fun u => by
        rw [kids_join ha pa ne, List.mem_cons]
        exact ⟨fun y => y.elim .inr fun q => .inl q.1, fun y => y.elim (fun q => .inr ⟨q, rfl⟩) .inl⟩) (fun d => if wt (fs.set a x) d < w then wt (fs.set a x) d else 0)
      rw [e2, List.map_cons, List.sum_cons]
      exact Nat.le_add_left _ _
    · rw [sum_perm (kids_nodup (fs.set a b) x) (kids_nodup fs x) fun u => by
        rw [kids_join ha pa ne]
        exact ⟨fun y => y.elim id fun q => absurd q.2 z, .inl⟩]
      exact Nat.le_refl _
  by_cases ca : c = a
  · subst ca
    rw [if_pos rfl] at lo hv
    rw [same c hc ne] at hv
    have g := grow b (wt fs c)
    -- the lightest child of b that is at least as heavy
    have key : ∀ (n d : Nat), wt fs d ≤ n → d ∈ kids fs b → wt fs c ≤ wt fs d → wt fs c ≤ 1 + ((kids fs b).map fun d => if wt fs d < wt fs c then wt fs d else 0).sum := by
      intro n
      induction n with
      | zero =>
        intro d h hd
        have := wt_pos F (kb hd).1
        omega
      | succ n ih =>
        intro d h hd hle
        by_cases y : ∃ e, e ∈ kids fs b ∧ wt fs c ≤ wt fs e ∧ wt fs e < wt fs d
        · obtain ⟨e, e1, e2, e3⟩ := y
          exact ih e (by omega) e1 e2
        · obtain ⟨k1, k2, k3⟩ := mem_kids.mp hd
          have hn := nh d
          unfold Heavy at hn
          have hn : wt fs d ≤ 1 + ((kids fs (par fs d)).map fun e => if wt fs e < wt fs d then wt fs e else 0).sum := Nat.le_of_not_lt fun q => hn ⟨k1, fun e => k3 e.symm, q⟩
          rw [k2] at hn
          refine Nat.le_trans hle (Nat.le_trans hn (Nat.add_le_add_left (sum_le fun e he => ?_) _))
          by_cases q : wt fs e < wt fs d
          · rw [if_pos q, if_pos (Nat.lt_of_not_le fun r => y ⟨e, he, r, q⟩)]
            exact Nat.le_refl _
          · rw [if_neg q]
            exact Nat.zero_le _
    have fin : wt fs c ≤ 1 + ((kids fs b).map fun d => if wt fs d < wt fs c then wt fs d else 0).sum := by
      by_cases y : ∃ d, d ∈ kids fs b ∧ wt fs c ≤ wt fs d
      · obtain ⟨d, h1, h2⟩ := y
        exact key _ d (Nat.le_refl _) h1 h2
      · refine Nat.le_trans le ?_
        rw [wt_kids F hb]
        refine Nat.add_le_add_left (sum_le fun d hd => ?_) _
        rw [if_pos (Nat.lt_of_not_le fun q => y ⟨d, hd, q⟩)]
        exact Nat.le_refl _
    omega
  · rw [if_neg ca] at lo hv
    have cb : c ≠ b := fun e => by
      subst e
      exact lo pb
    rw [same c hc cb] at hv
    have g := grow (par fs c) (wt fs c)
    exact nh c ⟨hc, lo, by omega⟩
theorem range_light (n : Nat) : ∀ c, ¬ Heavy (List.range n) c := fun c h => by
  have hc := h.1
  rw [List.length_range] at hc
  exact h.2.1 (par_range hc)
end
end Lf
namespace Lf
open PySem PySem.Spec PyProof.Rows L2
/-! ### comprehensions that draw; renamed forests -/
theorem lcR_drawA {Z : Zn} {ρ : List Sl} {R : Nat → PyData → Prop} {g : DG Z} {tt : DT Z} {te : DX Z} {Q : List PyData → Z.S → Prop} {n : Nat} (hs : ∀ k, k < n → ∀ (s : Z.S) (C : PyData → Z.S → Prop) (E : Z.S → Prop), (∀ x s2, R k x → C x s2) → g (.int (k : Nat)) ρ fun ρ' => tt s ρ' fun b s1 => if b = true then te s1 ρ' fun r s2 => ∃ x, r.st = some x ∧ C x s2 else E s1) (hn : n ≤ 1000000)
    (q : ∀ l s, l.length = n → (∀ k x, l[k]? = some x → R k x) → Q l s) : ∀ (m i : Nat) (acc : List PyData) (s : Z.S), i + m = n → acc.length = i → (∀ k x, acc[k]? = some x → R k x) → lcR g tt te ρ ((List.range' i m).map fun k => .int ((k : Nat) : Int)) s acc Q
  | 0, i, acc, s, e, el, h => q acc s (by omega) h
  | m + 1, i, acc, s, e, el, h => by
    rw [List.range'_succ, List.map_cons]
    unfold lcR
    have := hs i (by omega) s (fun x s2 => acc.length < 1000000 ∧ lcR g tt te ρ ((List.range' (i + 1) m).map fun k => .int ((k : Nat) : Int)) s2 (acc ++ [x]) Q) (fun s1 => lcR g tt te ρ ((List.range' (i + 1) m).map fun k => .int ((k : Nat) : Int)) s1 acc Q) (fun x s2 hx => ⟨by omega, lcR_drawA hs hn q m (i + 1) (acc ++ [x]) s2 (by omega) (by rw [List.length_append]; show acc.length + 1 = _; omega) (fun k y hy => by
      rcases Nat.lt_or_ge k acc.length with z | z
      · rw [List.getElem?_append_left z] at hy
        exact h k y hy
      · rw [List.getElem?_append_right z] at hy
        rcases Nat.eq_zero_or_pos (k - acc.length) with y0 | y0
        · rw [y0] at hy
          cases hy
          have : k = i := by omega
          rw [this]
          exact hx
        · rw [List.getElem?_eq_none (by show 1 ≤ _; omega)] at hy
          cases hy)⟩)
    exact this
theorem lcR_draw {Z : Zn} {ρ : List Sl} {R : Nat → PyData → Prop} {g : DG Z} {tt : DT Z} {te : DX Z} {Q : List PyData → Z.S → Prop} {n : Nat} {s : Z.S} (hs : ∀ k, k < n → ∀ (s : Z.S) (C : PyData → Z.S → Prop) (E : Z.S → Prop), (∀ x s2, R k x → C x s2) → g (.int (k : Nat)) ρ fun ρ' => tt s ρ' fun b s1 => if b = true then te s1 ρ' fun r s2 => ∃ x, r.st = some x ∧ C x s2 else E s1) (hn : n ≤ 1000000)
    (q : ∀ l s, l.length = n → (∀ k x, l[k]? = some x → R k x) → Q l s) : lcR g tt te ρ (rngD 0 n) s [] Q := by
  have := lcR_drawA hs hn q n 0 [] s (Nat.zero_add _) rfl (fun k x h => by cases h)
  rw [rng_nD]
  unfold nD
  rw [List.range_eq_range']
  exact this
theorem noLs_nD : ∀ l : List Nat, noLs (nD l) = true
  | [] => rfl
  | x :: l => by
    show (true && noLs (nD l)) = true
    rw [noLs_nD l]
    rfl
theorem clean_tupN (l : List Nat) : cleanR (.im (tupN l)) = true := noLs_nD l
theorem maxI (a b : Nat) : (if ((b : Nat) : Int) > ((a : Nat) : Int) then ((b : Nat) : Int) else ((a : Nat) : Int)) = ((max a b : Nat) : Int) := by
  by_cases h : a < b
  · rw [if_pos (by omega), Nat.max_eq_right (Nat.le_of_lt h)]
  · rw [if_neg (by omega), Nat.max_eq_left (by omega)]
/-- a list of drawn numbers -/
theorem nats_of {R : Nat → Nat → Prop} : ∀ {n : Nat} {l : List PyData}, l.length = n → (∀ k x, l[k]? = some x → ∃ y : Nat, x = .int (y : Nat) ∧ R k y) → ∃ ys : List Nat, l = nD ys ∧ ys.length = n ∧ ∀ k, k < n → R k (ys.getD k 0) := by
  intro n l hl h
  subst hl
  have hk : ∀ k : Nat, ∃ y : Nat, k < l.length → l[k]? = some (.int (y : Nat)) ∧ R k y := fun k => by
    rcases Nat.lt_or_ge k l.length with z | z
    · obtain ⟨y, e, r⟩ := h k _ (List.getElem?_eq_getElem z)
      exact ⟨y, fun _ => ⟨by rw [List.getElem?_eq_getElem z, e], r⟩⟩
    · exact ⟨0, fun y => absurd y (by omega)⟩
  refine ⟨(List.range l.length).map fun k => (hk k).choose, ?_, by rw [List.length_map, List.length_range], fun k hkl => ?_⟩
  · refine List.ext_getElem? fun i => ?_
    unfold nD
    rw [List.getElem?_map, List.getElem?_map]
    rcases Nat.lt_or_ge i l.length with z | z
    · rw [((hk i).choose_spec z).1, List.getElem?_range z]
      rfl
    · rw [List.getElem?_eq_none z, List.getElem?_eq_none (by rw [List.length_range]; exact z)]
      rfl
  · rw [List.getD_eq_getElem?_getD, List.getElem?_map, List.getElem?_range hkl]
    exact ((hk k).choose_spec hkl).2
theorem way_step {fs : List Nat} (F : Forest fs) {v : Nat} (hv : v < fs.length) (hn : par fs v ≠ v) : way fs v = v :: way fs (par fs v) := (way_pth F hv).inj (.step hn (way_pth F (F.rng v hv)))
theorem way_root {fs : List Nat} (F : Forest fs) {v : Nat} (hv : v < fs.length) (hn : par fs v = v) : way fs v = [v] := (way_pth F hv).inj (.root hn)
theorem asc_forest {ps : List Nat} (h0 : 0 < ps.length) (h1 : ps.length ≤ 24) (h : ∀ k, k < ps.length → ps.getD k 0 ≤ k) : Forest ps :=
  forest_rank (fun v => v) h0 h1 fun v hv => by
    have := h v hv
    unfold par
    refine ⟨by omega, ?_⟩
    omega
theorem ren_forest {ps od fs : List Nat} (F : Forest ps) (po : od.Perm (List.range ps.length)) (hl : fs.length = ps.length) (h : ∀ k, k < ps.length → par fs (od.getD k 0) = od.getD (par ps k) 0) : Forest fs := by
  have lo : od.length = ps.length := by rw [po.length_eq, List.length_range]
  have mem : ∀ v, v < ps.length → v ∈ od := fun v hv => po.mem_iff.mpr (List.mem_range.mpr hv)
  have nd : od.Nodup := po.nodup_iff.mpr List.nodup_range
  have get : ∀ v, v < ps.length → od.getD (od.idxOf v) 0 = v := fun v hv => by
    have hi := List.idxOf_lt_length_iff.mpr (mem v hv)
    rw [List.getD_eq_getElem?_getD, List.getElem?_eq_getElem hi]
    exact List.getElem_idxOf hi
  have ix : ∀ k, k < ps.length → od.idxOf (od.getD k 0) = k := fun k hk => by
    rw [List.getD_eq_getElem?_getD, List.getElem?_eq_getElem (by omega)]
    exact nd.idxOf_getElem k (by omega)
  have low : ∀ k, k < ps.length → od.getD k 0 < ps.length := fun k hk => by
    rw [List.getD_eq_getElem?_getD, List.getElem?_eq_getElem (by omega)]
    exact List.mem_range.mp (po.mem_iff.mp (List.getElem_mem (by omega)))
  refine forest_rank (fun v => (way ps (od.idxOf v)).length) (by rw [hl]; exact F.pos) (by rw [hl]; exact F.few) fun v hv => ?_
  rw [hl] at hv ⊢
  have hk : od.idxOf v < ps.length := by
    have := List.idxOf_lt_length_iff.mpr (mem v hv)
    omega
  have e := h _ hk
  rw [get v hv] at e
  have hp := F.rng _ hk
  rw [e]
  refine ⟨low _ hp, ?_⟩
  by_cases z : par ps (od.idxOf v) = od.idxOf v
  · rw [z, get v hv]
    exact .inl rfl
  · refine .inr ?_
    rw [ix _ hp, way_step F hk z, List.length_cons]
    omega
end Lf
namespace Lf
open PySem PySem.Spec PyProof.Rows L2
/-! ### depths and heights as mathematics -/
def dpt (fs : List Nat) (v : Nat) : Nat := (way fs v).length - 1
def dpts (fs : List Nat) : List Nat := (List.range fs.length).map (dpt fs)
/-- one way is walked up: the heights so far -/
def hiW : Nat → List Nat → List Nat → List Nat
  | _, [], hs => hs
  | c, u :: us, hs => hiW (c + 1) us (hs.set u (max (hs.getD u 0) c))
def hiN (fs : List Nat) : Nat → List Nat
  | 0 => List.replicate fs.length 0
  | k + 1 => hiW 0 (way fs k) (hiN fs k)
def his (fs : List Nat) : List Nat := hiN fs fs.length
theorem hiW_len : ∀ {us : List Nat} {c : Nat} {hs : List Nat}, (hiW c us hs).length = hs.length
  | [], _, _ => rfl
  | u :: us, c, hs => by
    unfold hiW
    rw [hiW_len, List.length_set]
theorem hiN_len {fs : List Nat} : ∀ k, (hiN fs k).length = fs.length
  | 0 => List.length_replicate
  | k + 1 => by
    unfold hiN
    rw [hiW_len, hiN_len k]
theorem hiW_snoc : ∀ {us : List Nat} {c u : Nat} {hs : List Nat}, hiW c (us ++ [u]) hs = (hiW c us hs).set u (max ((hiW c us hs).getD u 0) (c + us.length))
  | [], c, u, hs => rfl
  | x :: us, c, u, hs => by
    rw [List.cons_append]
    unfold hiW
    rw [hiW_snoc, List.length_cons, show c + 1 + us.length = c + (us.length + 1) from by omega]
/-! what the heights are -/
theorem getD_set {l : List Nat} {i j x : Nat} (h : i < l.length) : (l.set i x).getD j 0 = if i = j then x else l.getD j 0 := by
  rw [List.getD_eq_getElem?_getD, List.getD_eq_getElem?_getD]
  by_cases e : i = j
  · subst e
    rw [if_pos rfl, List.getElem?_set_self h]
    rfl
  · rw [if_neg e, List.getElem?_set_ne e]
theorem getD_set_le {l : List Nat} {i j x : Nat} (h : l.getD i 0 ≤ x) : l.getD j 0 ≤ (l.set i x).getD j 0 := by
  rcases Nat.lt_or_ge i l.length with z | z
  · rw [getD_set z]
    split
    · next e => rw [← e]; exact h
    · exact Nat.le_refl _
  · rw [List.set_eq_of_length_le z]
    exact Nat.le_refl _
theorem hiW_mono : ∀ {us : List Nat} {c u : Nat} {hs : List Nat}, hs.getD u 0 ≤ (hiW c us hs).getD u 0
  | [], _, _, _ => Nat.le_refl _
  | x :: us, c, u, hs => by
    unfold hiW
    exact Nat.le_trans (getD_set_le (Nat.le_max_left _ _)) hiW_mono
theorem hiW_ge : ∀ {us : List Nat} {c j u : Nat} {hs : List Nat}, us[j]? = some u → u < hs.length → c + j ≤ (hiW c us hs).getD u 0
  | [], _, _, _, _, h, _ => by cases h
  | x :: us, c, 0, u, hs, h, hu => by
    cases h
    unfold hiW
    refine Nat.le_trans ?_ hiW_mono
    rw [getD_set hu, if_pos rfl]
    exact Nat.le_max_right _ _
  | x :: us, c, j + 1, u, hs, h, hu => by
    unfold hiW
    have := hiW_ge (c := c + 1) (hs := hs.set x (max (hs.getD x 0) c)) (show us[j]? = some u from h) (by rw [List.length_set]; exact hu)
    omega
theorem hiW_at : ∀ {us : List Nat} {c u : Nat} {hs : List Nat}, (hiW c us hs).getD u 0 = hs.getD u 0 ∨ ∃ j, us[j]? = some u ∧ (hiW c us hs).getD u 0 = c + j
  | [], _, _, _ => .inl rfl
  | x :: us, c, u, hs => by
    unfold hiW
    rcases hiW_at (us := us) (c := c + 1) (u := u) (hs := hs.set x (max (hs.getD x 0) c)) with e | ⟨j, hj, e⟩
    · rcases Nat.lt_or_ge x hs.length with z | z
      · rw [getD_set z] at e
        by_cases y : x = u
        · rw [if_pos y] at e
          subst y
          rcases Nat.le_total (hs.getD x 0) c with w | w
          · exact .inr ⟨0, rfl, e.trans (Nat.max_eq_right w)⟩
          · exact .inl (e.trans (Nat.max_eq_left w))
        · rw [if_neg y] at e
          exact .inl e
      · rw [List.set_eq_of_length_le z] at e ⊢
        exact .inl e
    · exact .inr ⟨j + 1, hj, by omega⟩
theorem hiN_ge {fs : List Nat} (F : Forest fs) : ∀ {k v j u : Nat}, k ≤ fs.length → v < k → (way fs v)[j]? = some u → j ≤ (hiN fs k).getD u 0
  | k + 1, v, j, u, hk, hv, h => by
    have hu : u < fs.length := way_lt F (show v < fs.length by omega) u (List.mem_of_getElem? h)
    unfold hiN
    rcases Nat.lt_or_ge v k with z | z
    · exact Nat.le_trans (hiN_ge F (by omega) z h) hiW_mono
    · have : v = k := by omega
      subst this
      have := hiW_ge (c := 0) (hs := hiN fs v) h (by rw [hiN_len]; exact hu)
      omega
theorem hiN_at {fs : List Nat} : ∀ {k u : Nat}, (hiN fs k).getD u 0 = 0 ∨ ∃ v, v < k ∧ (way fs v)[(hiN fs k).getD u 0]? = some u
  | 0, u => .inl (by
    show (List.replicate fs.length 0).getD u 0 = 0
    rw [List.getD_eq_getElem?_getD, List.getElem?_replicate]
    split <;> rfl)
  | k + 1, u => by
    unfold hiN
    rcases hiW_at (us := way fs k) (c := 0) (u := u) (hs := hiN fs k) with e | ⟨j, hj, e⟩
    · rw [e]
      rcases hiN_at (fs := fs) (k := k) (u := u) with z | ⟨v, hv, z⟩
      · exact .inl z
      · exact .inr ⟨v, by omega, z⟩
    · rw [e, Nat.zero_add]
      exact .inr ⟨k, Nat.lt_succ_self _, hj⟩
theorem Pth.next {fs : List Nat} {v : Nat} {l : List Nat} (p : Pth fs v l) : ∀ {j c : Nat}, l[j]? = some c → (par fs c = c ∧ j + 1 = l.length) ∨ (par fs c ≠ c ∧ l[j + 1]? = some (par fs c)) := by
  induction p with
  | @root v h =>
    intro j c e
    cases j with
    | zero => cases e; exact .inl ⟨h, rfl⟩
    | succ j => cases e
  | @step v l h p ih =>
    intro j c e
    cases j with
    | zero =>
      cases e
      refine .inr ⟨h, ?_⟩
      show l[0]? = some (par fs v)
      cases p <;> rfl
    | succ j =>
      rcases ih (show l[j]? = some c from e) with ⟨a, b⟩ | ⟨a, b⟩
      · exact .inl ⟨a, by rw [List.length_cons]; omega⟩
      · exact .inr ⟨a, b⟩
def hgt (fs : List Nat) (u : Nat) : Nat := (his fs).getD u 0
theorem hgt_kid {fs : List Nat} (F : Forest fs) {c : Nat} (hc : c < fs.length) (hn : par fs c ≠ c) : hgt fs c + 1 ≤ hgt fs (par fs c) := by
  rcases hiN_at (fs := fs) (k := fs.length) (u := c) with z | ⟨v, hv, z⟩
  · have e : (way fs c)[0]? = some c := by rw [way_step F hc hn]; rfl
    rcases (way_pth F hc).next e with ⟨a, _⟩ | ⟨_, b⟩
    · exact absurd a hn
    · have := hiN_ge F (Nat.le_refl _) hc b
      unfold hgt his
      rw [z]
      exact this
  · rcases (way_pth F hv).next z with ⟨a, _⟩ | ⟨_, b⟩
    · exact absurd a hn
    · exact hiN_ge F (Nat.le_refl _) hv b
theorem hgt_at {fs : List Nat} (F : Forest fs) {u : Nat} (h : 0 < hgt fs u) : ∃ c, c < fs.length ∧ par fs c = u ∧ c ≠ u ∧ hgt fs c + 1 = hgt fs u := by
  rcases hiN_at (fs := fs) (k := fs.length) (u := u) with z | ⟨v, hv, z⟩
  · exact absurd z (by unfold hgt his at h; omega)
  · have z : (way fs v)[hgt fs u]? = some u := z
    obtain ⟨x, hx⟩ : ∃ x, hgt fs u = x + 1 := ⟨hgt fs u - 1, by omega⟩
    rw [hx] at z
    have hl := (List.getElem?_eq_some_iff.mp z).1
    have e : (way fs v)[x]? = some ((way fs v)[x]'(by omega)) := List.getElem?_eq_getElem (by omega)
    generalize (way fs v)[x]'(by omega) = c at e
    have hc : c < fs.length := way_lt F hv c (List.mem_of_getElem? e)
    rcases (way_pth F hv).next e with ⟨_, b⟩ | ⟨a, b⟩
    · omega
    · rw [z] at b
      cases b
      have h1 := hgt_kid F hc a
      have h2 : x ≤ hgt fs c := hiN_ge F (Nat.le_refl _) hv e
      exact ⟨c, hc, rfl, fun y => a y.symm, by omega⟩
theorem hgt_lt {fs : List Nat} (F : Forest fs) (u : Nat) : hgt fs u < fs.length := by
  rcases hiN_at (fs := fs) (k := fs.length) (u := u) with z | ⟨v, hv, z⟩
  · have := F.pos
    unfold hgt his
    omega
  · have h1 := (List.getElem?_eq_some_iff.mp z).1
    have h2 := (way_len F hv).2
    exact Nat.lt_of_lt_of_le h1 h2
/-! heights by rounds over all vertices -/
def tS (fs : List Nat) (hs : List Nat) (c : Nat) : List Nat := if par fs c = c then hs else hs.set (par fs c) (max (hs.getD (par fs c) 0) (hs.getD c 0 + 1))
def tR (fs : List Nat) (hs : List Nat) : Nat → List Nat
  | 0 => hs
  | c + 1 => tS fs (tR fs hs c) c
def tN (fs : List Nat) : Nat → List Nat
  | 0 => List.replicate fs.length 0
  | k + 1 => tR fs (tN fs k) fs.length
theorem tS_len {fs hs : List Nat} {c : Nat} : (tS fs hs c).length = hs.length := by
  unfold tS
  split
  · rfl
  · rw [List.length_set]
theorem tR_len {fs hs : List Nat} : ∀ c, (tR fs hs c).length = hs.length
  | 0 => rfl
  | c + 1 => by
    unfold tR
    rw [tS_len, tR_len c]
theorem tN_len {fs : List Nat} : ∀ k, (tN fs k).length = fs.length
  | 0 => List.length_replicate
  | k + 1 => by
    unfold tN
    rw [tR_len, tN_len k]
theorem tS_mono {fs hs : List Nat} {c u : Nat} : hs.getD u 0 ≤ (tS fs hs c).getD u 0 := by
  unfold tS
  split
  · exact Nat.le_refl _
  · exact getD_set_le (Nat.le_max_left _ _)
theorem tR_mono {fs hs : List Nat} {u : Nat} : ∀ {c d : Nat}, c ≤ d → (tR fs hs c).getD u 0 ≤ (tR fs hs d).getD u 0
  | c, 0, h => by
    have : c = 0 := by omega
    subst this
    exact Nat.le_refl _
  | c, d + 1, h => by
    rcases Nat.lt_or_ge d c with z | z
    · have : c = d + 1 := by omega
      subst this
      exact Nat.le_refl _
    · exact Nat.le_trans (tR_mono z) tS_mono
theorem tS_le {fs hs : List Nat} (F : Forest fs) (hl : hs.length = fs.length) {c : Nat} (hc : c < fs.length) (h : ∀ u, hs.getD u 0 ≤ hgt fs u) (u : Nat) : (tS fs hs c).getD u 0 ≤ hgt fs u := by
  unfold tS
  split
  · exact h u
  · next hn =>
    rw [getD_set (by rw [hl]; exact F.rng c hc)]
    split
    · next e =>
      have h1 := hgt_kid F hc hn
      have h2 := h c
      have h3 := h (par fs c)
      rw [← e]
      exact Nat.max_le.mpr ⟨h3, by omega⟩
    · exact h u
theorem tR_le {fs hs : List Nat} (F : Forest fs) (hl : hs.length = fs.length) (h : ∀ u, hs.getD u 0 ≤ hgt fs u) : ∀ c, c ≤ fs.length → ∀ u, (tR fs hs c).getD u 0 ≤ hgt fs u
  | 0, _ => h
  | c + 1, hc => fun u => tS_le F (by rw [tR_len]; exact hl) (by omega) (tR_le F hl h c (by omega)) u
theorem tN_le {fs : List Nat} (F : Forest fs) : ∀ k u, (tN fs k).getD u 0 ≤ hgt fs u
  | 0, u => by
    show (List.replicate fs.length 0).getD u 0 ≤ _
    rw [List.getD_eq_getElem?_getD, List.getElem?_replicate]
    split <;> exact Nat.zero_le _
  | k + 1, u => tR_le F (tN_len k) (tN_le F k) _ (Nat.le_refl _) u
theorem tN_ge {fs : List Nat} (F : Forest fs) : ∀ k u, hgt fs u ≤ k → hgt fs u ≤ (tN fs k).getD u 0
  | 0, u, h => by omega
  | k + 1, u, h => by
    rcases Nat.eq_zero_or_pos (hgt fs u) with z | z
    · omega
    · obtain ⟨c, hc, rfl, ne, e⟩ := hgt_at F z
      have h1 := tN_ge F k c (by omega)
      have h2 : (tN fs k).getD c 0 ≤ (tR fs (tN fs k) c).getD c 0 := tR_mono (Nat.zero_le _)
      refine Nat.le_trans ?_ (tR_mono (show c + 1 ≤ fs.length by omega))
      unfold tR tS
      rw [if_neg (fun y => ne y.symm), getD_set (by rw [tR_len, tN_len]; exact F.rng c hc), if_pos rfl]
      have := Nat.le_max_right ((tR fs (tN fs k) c).getD (par fs c) 0) ((tR fs (tN fs k) c).getD c 0 + 1)
      omega
theorem tall_his {fs : List Nat} (F : Forest fs) : tN fs fs.length = his fs := by
  refine List.ext_getElem? fun i => ?_
  rcases Nat.lt_or_ge i fs.length with z | z
  · have h1 := tN_le F fs.length i
    have h2 := tN_ge F fs.length i (Nat.le_of_lt (hgt_lt F i))
    have e : (tN fs fs.length).getD i 0 = (his fs).getD i 0 := Nat.le_antisymm h1 h2
    rw [List.getD_eq_getElem?_getD, List.getD_eq_getElem?_getD, List.getElem?_eq_getElem (by rw [tN_len]; exact z), List.getElem?_eq_getElem (by unfold his; rw [hiN_len]; exact z)] at e
    rw [List.getElem?_eq_getElem (by rw [tN_len]; exact z), List.getElem?_eq_getElem (by unfold his; rw [hiN_len]; exact z)]
    exact congrArg some e
  · rw [List.getElem?_eq_none (by rw [tN_len]; exact z), List.getElem?_eq_none (by unfold his; rw [hiN_len]; exact z)]
end Lf
namespace Lf
open PySem PySem.Spec PyProof.Rows L2
/-! ### forests built by joins of weight -/
def gtdL : Nat → Nat → Nat → Nat → Nat
  | 0, _, t, _ => t
  | f + 1, n, t, d => if d < n then gtdL f n (t + (n / (2 * d) * d + (n % (2 * d) - d))) (2 * d) else t
def gtd (n : Nat) : Nat := gtdL 40 n 0 1
theorem gtd_sup : ∀ x < 25, ∀ y < 25, x ≤ y → x + y ≤ 24 → gtd x + gtd y + x ≤ gtd (x + y) := by decide +kernel
theorem gtd_sup0 {x y : Nat} (h : x + y ≤ 24) : gtd x + gtd y ≤ gtd (x + y) := by
  rcases Nat.le_total x y with z | z
  · have := gtd_sup x (by omega) y (by omega) z h
    omega
  · have := gtd_sup y (by omega) x (by omega) z (by omega)
    rw [Nat.add_comm x y]
    omega
theorem gtd_sum : ∀ l : List Nat, l.sum ≤ 24 → (l.map gtd).sum ≤ gtd l.sum
  | [], _ => Nat.zero_le _
  | x :: l, h => by
    rw [List.sum_cons] at h
    have h1 := gtd_sum l (by omega)
    have h2 := gtd_sup0 (x := x) (y := l.sum) h
    rw [List.map_cons, List.sum_cons, List.sum_cons]
    omega
/-- how many vertices have u on their way -/
def wS (fs : List Nat) (u : Nat) : Nat := ((List.range fs.length).map fun v => if u ∈ way fs v then 1 else 0).sum
theorem incW_get : ∀ {us ws : List Nat} {u : Nat}, us.Nodup → (∀ x ∈ us, x < ws.length) → (incW us ws).getD u 0 = ws.getD u 0 + if u ∈ us then 1 else 0
  | [], ws, u, _, _ => rfl
  | x :: us, ws, u, nd, h => by
    obtain ⟨n1, n2⟩ := List.nodup_cons.mp nd
    unfold incW
    rw [incW_get n2 (fun y hy => by rw [List.length_set]; exact h y (List.mem_cons_of_mem _ hy)), getD_set (h x List.mem_cons_self)]
    by_cases e : x = u
    · subst e
      rw [if_pos rfl, if_neg n1, if_pos List.mem_cons_self]
    · rw [if_neg e]
      by_cases m : u ∈ us
      · rw [if_pos m, if_pos (List.mem_cons_of_mem _ m)]
      · rw [if_neg m, if_neg (fun z => (List.mem_cons.mp z).elim (fun y => e y.symm) m)]
theorem way_nodup {fs : List Nat} (F : Forest fs) {v : Nat} (hv : v < fs.length) : (way fs v).Nodup := (way_pth F hv).nodup F.rch F.rng hv
theorem wN_get {fs : List Nat} (F : Forest fs) (u : Nat) : ∀ k, k ≤ fs.length → (wN fs k).getD u 0 = ((List.range k).map fun v => if u ∈ way fs v then 1 else 0).sum
  | 0, _ => by
    show (List.replicate fs.length 0).getD u 0 = 0
    rw [List.getD_eq_getElem?_getD, List.getElem?_replicate]
    split <;> rfl
  | k + 1, hk => by
    unfold wN
    rw [incW_get (way_nodup F (by omega)) (fun x hx => by rw [wN_len]; exact way_lt F (by omega) x hx), wN_get F u k (by omega), List.range_succ, List.map_append, List.sum_append]
    rfl
theorem ldC_wS {fs : List Nat} (F : Forest fs) (u : Nat) : ldC fs u = wS fs u := wN_get F u _ (Nat.le_refl _)
theorem sum_ind {a c : Nat} : ∀ {l : List Nat}, l.Nodup → a ∈ l → (l.map fun x => if x = a then c else 0).sum = c
  | [], _, h => absurd h List.not_mem_nil
  | x :: l, nd, h => by
    obtain ⟨n1, n2⟩ := List.nodup_cons.mp nd
    rw [List.map_cons, List.sum_cons]
    by_cases e : x = a
    · subst e
      rw [if_pos rfl, sum_zero (fun y hy => if_neg fun z => n1 (by rw [← z]; exact hy)), Nat.add_zero]
    · rw [if_neg e, sum_ind n2 ((List.mem_cons.mp h).elim (fun z => absurd z.symm e) id), Nat.zero_add]
theorem sum_two {f f' : Nat → Nat} {l : List Nat} {a b : Nat} (nd : l.Nodup) (ha : a ∈ l) (hb : b ∈ l) (ne : a ≠ b) (h : ∀ x ∈ l, x ≠ a → x ≠ b → f' x = f x) : (l.map f').sum + (f a + f b) = (l.map f).sum + (f' a + f' b) := by
  have e1 := sum_add f' (fun x => (if x = a then f a else 0) + (if x = b then f b else 0)) l
  have e2 := sum_add f (fun x => (if x = a then f' a else 0) + (if x = b then f' b else 0)) l
  rw [sum_add (fun x => if x = a then f a else 0) (fun x => if x = b then f b else 0), sum_ind nd ha, sum_ind nd hb] at e1
  rw [sum_add (fun x => if x = a then f' a else 0) (fun x => if x = b then f' b else 0), sum_ind nd ha, sum_ind nd hb] at e2
  rw [← e1, ← e2]
  refine sum_congr fun x hx => ?_
  by_cases e : x = a
  · subst e
    rw [if_pos rfl, if_pos rfl, if_neg ne, if_neg ne]
    omega
  · by_cases e2 : x = b
    · subst e2
      rw [if_neg e, if_neg e, if_pos rfl, if_pos rfl]
      omega
    · rw [if_neg e, if_neg e, if_neg e2, if_neg e2, h x hx e e2]
/-! a join -/
theorem pth_join {fs : List Nat} {a b : Nat} (ha : a < fs.length) (pa : par fs a = a) (pb : par fs b = b) (ne : a ≠ b) {v : Nat} {l : List Nat} (p : Pth fs v l) : Pth (fs.set a b) v (l ++ if a ∈ l then [b] else []) := by
  have rb : Pth (fs.set a b) b [b] := .root (by rw [par_set ha, if_neg (Ne.symm ne)]; exact pb)
  induction p with
  | @root v h =>
    by_cases e : v = a
    · subst e
      rw [if_pos List.mem_cons_self]
      refine .step (by rw [par_set ha, if_pos rfl]; exact Ne.symm ne) ?_
      rw [par_set ha, if_pos rfl]
      exact rb
    · rw [if_neg (fun z => e (List.mem_singleton.mp z).symm), List.append_nil]
      exact .root (by rw [par_set ha, if_neg e]; exact h)
  | @step v l h p ih =>
    have e : v ≠ a := fun z => h (by rw [z]; exact pa)
    have ev : par (fs.set a b) v = par fs v := by rw [par_set ha, if_neg e]
    have em : (a ∈ v :: l) ↔ a ∈ l := ⟨fun z => (List.mem_cons.mp z).elim (fun y => absurd y.symm e) id, List.mem_cons_of_mem _⟩
    rw [List.cons_append]
    refine .step (by rw [ev]; exact h) ?_
    rw [ev]
    by_cases m : a ∈ l
    · rw [if_pos (em.mpr m)]
      rw [if_pos m] at ih
      exact ih
    · rw [if_neg (fun z => m (em.mp z))]
      rw [if_neg m] at ih
      exact ih
theorem way_join {fs : List Nat} (F : Forest fs) {a b : Nat} (ha : a < fs.length) (pa : par fs a = a) (hb : b < fs.length) (pb : par fs b = b) (ne : a ≠ b) {v : Nat} (hv : v < fs.length) : way (fs.set a b) v = way fs v ++ if a ∈ way fs v then [b] else [] :=
  (way_pth (join_forest F ha pa hb pb ne) (by rw [List.length_set]; exact hv)).inj (pth_join ha pa pb ne (way_pth F hv))
theorem root_one {fs : List Nat} (F : Forest fs) {a b v : Nat} (hv : v < fs.length) (pa : par fs a = a) (pb : par fs b = b) (ma : a ∈ way fs v) (mb : b ∈ way fs v) : a = b := by
  obtain ⟨i, hi⟩ := List.getElem?_of_mem ma
  obtain ⟨j, hj⟩ := List.getElem?_of_mem mb
  rcases (way_pth F hv).next hi with ⟨_, e1⟩ | ⟨z, _⟩
  · rcases (way_pth F hv).next hj with ⟨_, e2⟩ | ⟨z, _⟩
    · have : i = j := by omega
      rw [this, hj] at hi
      exact (Option.some.inj hi).symm
    · exact absurd pb z
  · exact absurd pa z
theorem root_in {fs : List Nat} (F : Forest fs) {v : Nat} (hv : v < fs.length) : ∃ r, r ∈ way fs v ∧ par fs r = r ∧ r < fs.length := by
  have pos := (way_len F hv).1
  have e : (way fs v)[(way fs v).length - 1]? = some ((way fs v)[(way fs v).length - 1]'(by omega)) := List.getElem?_eq_getElem (by omega)
  refine ⟨_, List.mem_of_getElem? e, ?_, way_lt F hv _ (List.mem_of_getElem? e)⟩
  rcases (way_pth F hv).next e with ⟨z, _⟩ | ⟨_, z⟩
  · exact z
  · have := (List.getElem?_eq_some_iff.mp z).1
    omega
theorem way_root_self {fs : List Nat} (F : Forest fs) {v : Nat} (hv : v < fs.length) : v ∈ way fs v := by
  by_cases h : par fs v = v
  · rw [way_root F hv h]; exact List.mem_cons_self
  · rw [way_step F hv h]; exact List.mem_cons_self
section
variable {fs : List Nat} (F : Forest fs) {a b : Nat} (ha : a < fs.length) (pa : par fs a = a) (hb : b < fs.length) (pb : par fs b = b) (ne : a ≠ b)
include F ha pa hb pb ne
theorem wS_b : wS (fs.set a b) b = wS fs a + wS fs b := by
  unfold wS
  rw [List.length_set, ← sum_add]
  refine sum_congr fun v hv => ?_
  have hv := List.mem_range.mp hv
  rw [way_join F ha pa hb pb ne hv]
  by_cases m : a ∈ way fs v
  · have nb : b ∉ way fs v := fun z => ne (root_one F hv pa pb m z)
    rw [if_pos m, if_pos (List.mem_append.mpr (.inr List.mem_cons_self)), if_pos m, if_neg nb]
  · rw [if_neg m, List.append_nil, if_neg m, Nat.zero_add]
theorem wS_o {u : Nat} (hu : u ≠ b) : wS (fs.set a b) u = wS fs u := by
  unfold wS
  rw [List.length_set]
  refine sum_congr fun v hv => ?_
  have hv := List.mem_range.mp hv
  rw [way_join F ha pa hb pb ne hv]
  by_cases m : a ∈ way fs v
  · rw [if_pos m]
    by_cases y : u ∈ way fs v
    · rw [if_pos (List.mem_append.mpr (.inl y)), if_pos y]
    · rw [if_neg (fun z => (List.mem_append.mp z).elim y fun x => hu (List.mem_singleton.mp x)), if_neg y]
  · rw [if_neg m, List.append_nil]
theorem dpt_join {v : Nat} (hv : v < fs.length) : dpt (fs.set a b) v = dpt fs v + if a ∈ way fs v then 1 else 0 := by
  have := (way_len F hv).1
  unfold dpt
  rw [way_join F ha pa hb pb ne hv, List.length_append]
  split
  · show (way fs v).length + 1 - 1 = _
    omega
  · show (way fs v).length + 0 - 1 = _
    omega
theorem dpts_join : (dpts (fs.set a b)).sum = (dpts fs).sum + wS fs a := by
  unfold dpts wS
  rw [List.length_set, ← sum_add]
  exact sum_congr fun v hv => dpt_join F ha pa hb pb ne (List.mem_range.mp hv)
end
/-- the forests that joins of weight reach -/
inductive Blt : List Nat → Prop
  | start {n : Nat} : 1 ≤ n → n ≤ 24 → Blt (List.range n)
  | join {fs : List Nat} {a b : Nat} : Blt fs → a < fs.length → par fs a = a → b < fs.length → par fs b = b → a ≠ b → ldC fs a ≤ ldC fs b → Blt (fs.set a b)
theorem Blt.forest {fs : List Nat} (h : Blt fs) : Forest fs := by
  induction h with
  | start h1 h2 => exact Forest.range h1 h2
  | join _ ha pa hb pb ne _ F => exact join_forest F ha pa hb pb ne
def mL (fs : List Nat) : List Nat := (List.range fs.length).map fun r => if par fs r = r then wS fs r else 0
theorem way_rng {n v : Nat} (h1 : 1 ≤ n) (h2 : n ≤ 24) (hv : v < n) : way (List.range n) v = [v] := way_root (Forest.range h1 h2) (by rw [List.length_range]; exact hv) (par_range hv)
theorem Blt.all {fs : List Nat} (h : Blt fs) : (mL fs).sum = fs.length ∧ (dpts fs).sum ≤ ((mL fs).map gtd).sum ∧ ∀ v, v < fs.length → ∀ r, r ∈ way fs v → par fs r = r → 2 ^ dpt fs v ≤ wS fs r := by
  induction h with
  | @start n h1 h2 =>
    have F := Forest.range h1 h2
    have w1 : ∀ r, r < n → wS (List.range n) r = 1 := fun r hr => by
      unfold wS
      rw [List.length_range]
      refine (sum_congr (g := fun v => if v = r then 1 else 0) fun v hv => ?_).trans (sum_ind (a := r) (c := 1) List.nodup_range (List.mem_range.mpr hr))
      rw [way_rng h1 h2 (List.mem_range.mp hv)]
      by_cases e : v = r
      · rw [if_pos (by rw [e]; exact List.mem_cons_self), if_pos e]
      · rw [if_neg (fun z => e (List.mem_singleton.mp z).symm), if_neg e]
    have d0 : ∀ v, v < n → dpt (List.range n) v = 0 := fun v hv => by unfold dpt; rw [way_rng h1 h2 hv]; rfl
    refine ⟨?_, ?_, fun v hv r hr _ => ?_⟩
    · unfold mL
      rw [List.length_range]
      have e : (List.range n).map (fun r => if par (List.range n) r = r then wS (List.range n) r else 0) = List.replicate n 1 := by
        rw [List.eq_replicate_iff]
        refine ⟨by rw [List.length_map, List.length_range], fun x hx => ?_⟩
        obtain ⟨r, hr, rfl⟩ := List.mem_map.mp hx
        have hr := List.mem_range.mp hr
        rw [if_pos (par_range hr), w1 r hr]
      rw [e, List.sum_replicate_nat, Nat.mul_one]
    · have : (dpts (List.range n)).sum = 0 := by
        unfold dpts
        rw [List.length_range]
        exact sum_zero fun v hv => d0 v (List.mem_range.mp hv)
      omega
    · rw [List.length_range] at hv
      rw [way_rng h1 h2 hv] at hr
      cases List.mem_singleton.mp hr
      rw [d0 v hv, w1 v hv]
      exact Nat.le_refl _
  | @join fs a b hB ha pa hb pb ne le ih =>
    have F := hB.forest
    obtain ⟨i1, i2, i3⟩ := ih
    rw [ldC_wS F, ldC_wS F] at le
    have pj : ∀ r, par (fs.set a b) r = if r = a then b else par fs r := fun r => par_set ha
    have eb := wS_b F ha pa hb pb ne
    have two : ∀ g : Nat → Nat, g 0 = 0 → ((mL (fs.set a b)).map g).sum + (g (wS fs a) + g (wS fs b)) = ((mL fs).map g).sum + g (wS fs a + wS fs b) := fun g g0 => by
      unfold mL
      rw [List.length_set, List.map_map, List.map_map]
      have := sum_two (f := g ∘ fun r => if par fs r = r then wS fs r else 0) (f' := g ∘ fun r => if par (fs.set a b) r = r then wS (fs.set a b) r else 0) List.nodup_range (List.mem_range.mpr ha) (List.mem_range.mpr hb) ne (fun x _ xa xb => by
        show g (if par (fs.set a b) x = x then wS (fs.set a b) x else 0) = g (if par fs x = x then wS fs x else 0)
        rw [pj, if_neg xa, wS_o F ha pa hb pb ne xb])
      have e1 : (g ∘ fun r => if par fs r = r then wS fs r else 0) a = g (wS fs a) := by show g (if _ then _ else _) = _; rw [if_pos pa]
      have e2 : (g ∘ fun r => if par fs r = r then wS fs r else 0) b = g (wS fs b) := by show g (if _ then _ else _) = _; rw [if_pos pb]
      have e3 : (g ∘ fun r => if par (fs.set a b) r = r then wS (fs.set a b) r else 0) a = 0 := by show g (if _ then _ else _) = _; rw [pj, if_pos rfl, if_neg (Ne.symm ne), g0]
      have e4 : (g ∘ fun r => if par (fs.set a b) r = r then wS (fs.set a b) r else 0) b = g (wS fs a + wS fs b) := by show g (if _ then _ else _) = _; rw [pj, if_neg (Ne.symm ne), if_pos pb, eb]
      rw [e1, e2, e3, e4] at this
      omega
    have s1 := two id rfl
    rw [List.map_id, List.map_id] at s1
    have s1 : (mL (fs.set a b)).sum + (wS fs a + wS fs b) = (mL fs).sum + (wS fs a + wS fs b) := s1
    have few := F.few
    have ab : wS fs a + wS fs b ≤ 24 := by
      have h1 := sum_two (f := fun r => if par fs r = r then wS fs r else 0) (f' := fun r => if r = a then 0 else if r = b then 0 else if par fs r = r then wS fs r else 0) List.nodup_range (List.mem_range.mpr ha) (List.mem_range.mpr hb) ne (fun x _ xa xb => by rw [if_neg xa, if_neg xb])
      have e0 : ((List.range fs.length).map fun r => if par fs r = r then wS fs r else 0).sum = fs.length := i1
      rw [e0] at h1
      simp only [if_pos pa, if_pos pb, if_neg (Ne.symm ne), ↓reduceIte] at h1
      omega
    refine ⟨by rw [List.length_set]; omega, ?_, fun v hv r hr rr => ?_⟩
    · have s2 := two gtd rfl
      have s3 := gtd_sup (wS fs a) (by omega) (wS fs b) (by omega) le ab
      rw [dpts_join F ha pa hb pb ne]
      omega
    · rw [List.length_set] at hv
      rw [way_join F ha pa hb pb ne hv] at hr
      rw [dpt_join F ha pa hb pb ne hv]
      by_cases m : a ∈ way fs v
      · rw [if_pos m] at hr ⊢
        have h1 := i3 v hv a m pa
        have er : r = b := by
          rcases List.mem_append.mp hr with z | z
          · have rp : par fs r = r := by
              rw [pj] at rr
              by_cases y : r = a
              · rw [y]; exact pa
              · rw [if_neg y] at rr; exact rr
            have := root_one F hv rp pa z m
            rw [this, pj, if_pos rfl] at rr
            exact absurd rr (Ne.symm ne)
          · exact List.mem_singleton.mp z
        rw [er, eb, Nat.pow_succ]
        omega
      · rw [if_neg m, List.append_nil] at hr
        rw [if_neg m, Nat.add_zero]
        have ra : r ≠ a := fun z => m (by rw [← z]; exact hr)
        have rp : par fs r = r := by rw [pj, if_neg ra] at rr; exact rr
        have h1 := i3 v hv r hr rp
        by_cases y : r = b
        · rw [y, eb]
          rw [y] at h1
          omega
        · rw [wS_o F ha pa hb pb ne y]
          exact h1
theorem wS_le (fs : List Nat) (u : Nat) : wS fs u ≤ fs.length := by
  have h : wS fs u ≤ ((List.range fs.length).map fun _ => 1).sum := sum_le fun v _ => by split <;> decide
  rw [List.map_const', List.length_range, List.sum_replicate_nat, Nat.mul_one] at h
  exact h
theorem Blt.total {fs : List Nat} (h : Blt fs) : (dpts fs).sum ≤ gtd fs.length := by
  obtain ⟨h1, h2, _⟩ := h.all
  have := gtd_sum (mL fs) (by rw [h1]; exact h.forest.few)
  rw [h1] at this
  omega
theorem Blt.deep {fs : List Nat} (h : Blt fs) {v : Nat} (hv : v < fs.length) : dpt fs v ≤ fs.length.log2 := by
  obtain ⟨_, _, h3⟩ := h.all
  obtain ⟨r, m, p, _⟩ := root_in h.forest hv
  have h4 := h3 v hv r m p
  have h5 := wS_le fs r
  exact (Nat.le_log2 (by have := h.forest.pos; omega)).mpr (by omega)
end Lf
namespace Lf
open PySem PySem.Spec PyProof.Rows L2
/-! ### built forests, by the grain -/
--@call _law_next Z pass0
def fLBuilt (w l : Addr) : DF (gz w l) := fun s as Q => ∃ most : Nat, as = [.raw (.ref w), .im (.int (most : Nat))] ∧ 1 ≤ most ∧ most ≤ 24 ∧ ∀ fs, Blt fs → fs.length ≤ most → Q (.im (tupN fs)) s
section
variable {P : Program} {w : World} {K : PySem.W.Frag} {mg : Str → Option Value} {base : Heap}
abbrev s__law_built : Stmt := topS (24)
abbrev N__law_built : List Str := ["_law_grain_here", "_law_most", "_law_size", "_law_found", "_law_turn", "_law_one", "_law_other", "_law_loads", "_law_low", "_law_high"]
abbrev p__law_built : List Str := ["_law_grain_here", "_law_most"]
theorem sc__law_built : FnScope N__law_built p__law_built (defScope s__law_built) := ⟨rfl, rfl, rfl, by decide +kernel, rfl, by decide +kernel, by decide +kernel⟩
theorem ok_gbuilt (M : Mk K mg "_law_built" s__law_built p__law_built) (wa l : Addr) (d__law_next : Df P w K mg base CX0 1 "_law_next" ["_law_grain_here", "_law_many"] (spD (gz wa l) (fNext wa l))) (d__law_weights : Df P w K mg base CX0 1 "_law_weights" p__law_weights (spD Z0 fWts)) (m_int : mg "int" = none) (m_list : mg "list" = none) (m_range : mg "range" = none) (m_tuple : mg "tuple" = none) :
    Df P w K mg base CX0 2 "_law_built" p__law_built (spD (gz wa l) (fLBuilt wa l)) := by
  have nd := sc__law_built.nd
  refine def_ok (k := 1) M sc__law_built (by decide) ?_ (fun f cdv A outer s H E hr => have hu := hu65 hr; (ds_cons (ds_set (i := 2) nd rfl (.inl rfl) (de_add de_int (de_call d__law_next pass0 hr (da_cons (dv 0) (da_cons (dv 1) da_nil)))))
      (ds_cons (ds_set (i := 3) nd rfl (.inl rfl) (de_listR1 rfl (by rfl) m_list (by rfl) m_range (dv 2)))
      (ds_cons (ds_for PassesOwn.never rfl (di_r1 (by rfl) m_range (da_cons (de_call d__law_next pass0 hr (da_cons (dv 0) (da_cons (de_mul de_int (dv 2)) da_nil))) da_nil)) (dg_name (i := 4) nd rfl (.inl rfl))
      (ds_cons (ds_par (i := 5) (j := 6) rfl nd rfl rfl (by decide) rfl rfl (de_call d__law_next pass0 hr (da_cons (dv 0) (da_cons (dv 2) da_nil))) (de_call d__law_next pass0 hr (da_cons (dv 0) (da_cons (dv 2) da_nil))))
      (ds_cons (ds_while PassesOwn.never (dt_ne hu (de_ix (dv 3) (dv 5)) (dv 5))
      (ds_one (ds_set (i := 5) nd rfl (.inl rfl) (de_ix (dv 3) (dv 5)))))
      (ds_cons (ds_while PassesOwn.never (dt_ne hu (de_ix (dv 3) (dv 6)) (dv 6))
      (ds_one (ds_set (i := 6) nd rfl (.inl rfl) (de_ix (dv 3) (dv 6)))))
      (ds_cons (ds_set (i := 7) nd rfl (.inl rfl) (de_callP d__law_weights pass0 hr (da_cons (dv 3) da_nil)))
      (ds_one (ds_if (dt_ne hu (dv 5) (dv 6)) (ds_cons (ds_asg (de_ix (de_lst (da_cons (de_tup (da_cons (dv 6) (da_cons (dv 5) da_nil))) (da_cons (de_tup (da_cons (dv 5) (da_cons (dv 6) da_nil))) da_nil))) (de_intC (by rfl) m_int (da_cons (de_le (de_ix (dv 7) (dv 5)) (de_ix (dv 7) (dv 6))) da_nil))) (dg_tup rfl nd (.cons (i := 8) rfl (.inl rfl) (.inl rfl) rfl (.cons (i := 9) rfl (.inl rfl) (.inl rfl) rfl .nil))))
      (ds_one (ds_setIx (i := 3) rfl (by first | exact Or.inl rfl | exact Or.inr (Or.inl rfl) | exact Or.inr (Or.inr rfl)) (dv 8) (dv 9)))) ds_nil)))))))
      (ds_one (ds_ret (de_tuple (by rfl) m_tuple (da_cons (dv 3) da_nil)))))))) ?_
  · rintro s as Qd ⟨m, rfl, _⟩; rfl
  · rintro s as Qd ⟨most, rfl, hm1, hm2, q⟩
    refine ⟨most, rfl, hm1, by omega, fun r hr => ⟨.inl rfl, ?_⟩⟩
    generalize hn : r + 1 = n at *
    have e1 : (1 : Int) + ((r : Nat) : Int) = ((n : Nat) : Int) := by omega
    refine ⟨by omega, by omega, fun af => ?_⟩
    rw [e1, Int.toNat_natCast, rng_nD]
    have l2 : (2 : Int).natAbs.log2 + ((n : Nat) : Int).natAbs.log2 < 1000000 := by
      rw [Int.natAbs_natCast]
      have h1 : (2 : Int).natAbs.log2 = 1 := by decide +kernel
      have h2 : n.log2 < 5 := (Nat.log2_lt (by omega)).mpr (by omega)
      omega
    have e2 : (2 : Int) * ((n : Nat) : Int) = ((2 * n : Nat) : Int) := by omega
    refine ⟨l2, 2 * n, by rw [← e2]; rfl, by omega, by omega, fun t ht => ⟨.inl rfl, by omega, by omega, rfl, ?_⟩⟩
    rw [Int.toNat_natCast]
    refine ⟨fun k s ρ => ∃ (fs : List Nat) (x4 x5 x6 x7 x8 x9 : Sl), ρ = [.raw (.ref wa), .im (.int (most : Nat)), .im (.int (n : Nat)), .ow af (nD fs), x4, x5, x6, x7, x8, x9] ∧ Blt fs ∧ fs.length = n, ⟨List.range n, .no, .no, .no, .no, .no, .no, rfl, .start (by omega) (by omega), List.length_range⟩, ?_, ?_⟩
    · rintro k d s ρ hd ⟨fs, x4, x5, x6, x7, x8, x9, rfl, hB, ln⟩
      obtain ⟨hk, rfl⟩ := rngD_get hd
      have hF := hB.forest
      have wl : (wtL fs).length = n := (wN_len _).trans ln
      refine ⟨n, rfl, by omega, by omega, fun r1 h1 => ⟨.inl rfl, n, rfl, by omega, by omega, fun r2 h2 => ⟨.inl rfl, ?_⟩⟩⟩
      obtain ⟨k1, rk1⟩ := hF.rch r1 (by omega)
      obtain ⟨k2, rk2⟩ := hF.rch r2 (by omega)
      refine ⟨fun m s ρ => ∃ cur : Nat, ρ = [.raw (.ref wa), .im (.int (most : Nat)), .im (.int (n : Nat)), .ow af (nD fs), .im (.int (0 + (k : Nat))), .im (.int (cur : Nat)), .im (.int (r2 : Nat)), x7, x8, x9] ∧ cur < n ∧ Rch fs m cur, ⟨k1, r1, rfl, h1, rk1⟩, ?_⟩
      rintro m s ρ ⟨one, rfl, hc, rc⟩
      refine ⟨_, nD_at (by omega), ?_⟩
      show if (!decide (((par fs one : Nat) : Int) = ((one : Nat) : Int))) = true then _ else _
      by_cases hn : par fs one = one
      · rw [if_neg (by rw [decide_eq_true (by rw [hn])]; exact Bool.false_ne_true)]
        refine ⟨fun m s ρ => ∃ cur : Nat, ρ = [.raw (.ref wa), .im (.int (most : Nat)), .im (.int (n : Nat)), .ow af (nD fs), .im (.int (0 + (k : Nat))), .im (.int (one : Nat)), .im (.int (cur : Nat)), x7, x8, x9] ∧ cur < n ∧ Rch fs m cur, ⟨k2, r2, rfl, h2, rk2⟩, ?_⟩
        rintro m s ρ ⟨oth, rfl, hc2, rc2⟩
        refine ⟨_, nD_at (by omega), ?_⟩
        show if (!decide (((par fs oth : Nat) : Int) = ((oth : Nat) : Int))) = true then _ else _
        by_cases hn2 : par fs oth = oth
        · rw [if_neg (by rw [decide_eq_true (by rw [hn2])]; exact Bool.false_ne_true)]
          refine ⟨fs, .inr rfl, hF, .inr (noLs_nD _), fun al => ?_⟩
          show if (!decide (((one : Nat) : Int) = ((oth : Nat) : Int))) = true then _ else _
          by_cases eq : one = oth
          · rw [if_neg (by rw [decide_eq_true (by rw [eq])]; exact Bool.false_ne_true)]
            exact ⟨fs, .im (.int (0 + (k : Nat))), .im (.int (one : Nat)), .im (.int (oth : Nat)), .ow al (nD (wtL fs)), x8, x9, rfl, hB, ln⟩
          · rw [if_pos (by rw [decide_eq_false (by omega)]; rfl)]
            obtain ⟨c, p, hcp, hc, hp, rc, rp, ne, le⟩ : ∃ c p : Nat, atI [PyData.tuple [.int (oth : Nat), .int (one : Nat)], .tuple [.int (one : Nat), .int (oth : Nat)]] (if decide (((ldC fs one : Nat) : Int) ≤ ((ldC fs oth : Nat) : Int)) = true then 1 else 0) = some (.tuple [.int (c : Nat), .int (p : Nat)]) ∧ c < n ∧ p < n ∧ par fs c = c ∧ par fs p = p ∧ c ≠ p ∧ ldC fs c ≤ ldC fs p := by
              by_cases z : ((ldC fs one : Nat) : Int) ≤ ((ldC fs oth : Nat) : Int)
              · rw [if_pos (decide_eq_true z)]
                exact ⟨one, oth, rfl, hc, hc2, hn, hn2, eq, by omega⟩
              · rw [if_neg (by rw [decide_eq_false z]; exact Bool.false_ne_true)]
                exact ⟨oth, one, rfl, hc2, hc, hn2, hn, fun y => eq y.symm, by omega⟩
            refine ⟨_, rfl, by show 2 ≤ 1000000; decide, _, rfl, by show 2 ≤ 1000000; decide, _, rfl, by show 2 ≤ 1000000; decide, _, nD_at (by omega), _, nD_at (by omega), _, hcp, c, _, nD_ix (by omega), rfl, ?_⟩
            refine ⟨fs.set c p, .im (.int (0 + (k : Nat))), .im (.int (one : Nat)), .im (.int (oth : Nat)), .ow al (nD (wtL fs)), .im (.int (c : Nat)), .im (.int (p : Nat)), ?_, .join hB (by omega) rc (by omega) rp ne le, by rw [List.length_set]; exact ln⟩
            rw [nD_set]
            rfl
        · rw [if_pos (by rw [decide_eq_false (by omega)]; rfl)]
          cases rc2 with
          | root z => exact absurd z hn2
          | @step m' _ _ r => exact ⟨_, nD_at (by omega), m', Nat.lt_succ_self _, par fs oth, rfl, by have := hF.rng oth (by omega); omega, r⟩
      · rw [if_pos (by rw [decide_eq_false (by omega)]; rfl)]
        cases rc with
        | root z => exact absurd z hn
        | @step m' _ _ r => exact ⟨_, nD_at (by omega), m', Nat.lt_succ_self _, par fs one, rfl, by have := hF.rng one (by omega); omega, r⟩
    · rintro s ρ ⟨fs, x4, x5, x6, x7, x8, x9, rfl, hB, ln⟩
      exact q fs hB (by omega)
end
end Lf
namespace PySem.SeqAt
open PySem PyProof.Rows PySem.Spec
/-! ### a dict == an int -/
theorem dict_declines_int (l : Addr) (es : Array DictEntry) (n : Nat) (dd : Option Addr) (sl : Array (Option Value)) (b : Int) (u : Tok) :
    Meets (Builtin.«dict.__eq__» ⟨[.ref l, .int b u], []⟩) (fun _ R s => s.heap.get? l = some { cls := .type "dict", dict := dd, data := .dict es n, slots := sl } ∧ R (.ok (.ret .notImplemented)) s) :=
  .of_wp fun prog w A R s h => by obtain ⟨hp, g, d, tk, os⟩ := s; obtain ⟨hl, h⟩ := h; have f1 := F.sub_int_dict; wp_walk using wpAny_loadPart' hl, wpAny_load hl; exact ⟨_, rfl, h⟩
theorem int_declines_dict (b : Int) (u : Tok) (l : Addr) (c : Value) (es : Array DictEntry) (n : Nat) (dd : Option Addr) (sl : Array (Option Value)) :
    Meets (Builtin.«int.__eq__» ⟨[.int b u, .ref l], []⟩) (fun _ R s => s.heap.get? l = some { cls := c, dict := dd, data := .dict es n, slots := sl } ∧ R (.ok (.ret .notImplemented)) s) :=
  .of_wp fun prog w A R s h => by obtain ⟨hp, g, d, tk, os⟩ := s; obtain ⟨hl, h⟩ := h; wp_walk using wpAny_loadPart' hl, wpAny_load hl; exact ⟨_, rfl, h⟩
theorem rc_dict_int {A : Around} {s : Shared} {l : Addr} {o : Obj} {es : Array DictEntry} {n : Nat} (b : Int) (u : Tok) (ho : s.heap.get? l = some o) (he : o.ExactDict) (hd : o.data = .dict es n) (hu : A.units < cLine) : RcAt A s (.ref l) (.int b u) false := fun prog w E Q h => by
  obtain ⟨cls, dd, data, sl⟩ := o
  obtain ⟨h1, h2, h3⟩ := he
  simp only at h1 hd
  subst h1 hd
  exact rc_eq_decline_or (k := false) ⟨_, ho, rfl⟩ (typeIs_int s b u) (by decide) F.sub_int_dict F.slot_dict_eq F.slot_int_eq_refl
    (fun _ hq => call_meets F.slot_dict_eq ⟨_, ho, rfl⟩ F.entry_dict_eq (F.args_dict_eq_2 _ _) (dict_declines_int l es n dd sl b u) ⟨ho, hq⟩)
    (fun _ hq => call_meets F.slot_int_eq_refl (typeIs_int s b u) F.entry_int_eq (F.args_int_eq_2 _ _) (int_declines_dict b u l (.type "dict") es n dd sl) ⟨ho, hq⟩)
    (fun _ hq => wpAny_of_eq (rfl : isSame (.ref l) (.int b u) = pure false) hq) (.inr hu) h
end PySem.SeqAt
namespace Lf
open PySem PySem.Spec PyProof.Rows L2
section
variable {Z : Zn} {X : Cx} {a b : Expr} {da db : DX Z} {pos p : Pos} {K : PySem.W.Frag}
def rDI : R2 := fun x y H Q => ∃ (d : Addr) (kvs : List (Key × V)) (i : Int), x = .ref d ∧ y = .int i ∧ H d = some (.dK kvs) ∧ Q (.bl false) H
theorem op_DI (hu : X.A.units < cLine) : OpR X (compareOp .Eq) rDI := by
  intro pins s σ H x y v u Q I rx ry h
  obtain ⟨d, kvs, i, rfl, rfl, hd, q⟩ := h
  cases (show v = Value.ref d from rx)
  obtain ⟨t, rfl⟩ := ry
  obtain ⟨_, _, vs, _, o, es, ep, ho, hx, hda, _⟩ := I.hok d _ hd
  exact SeqAt.rc_dict_int i t ho hx hda hu _ _ _ _ ⟨.bl false, H, I, rfl, q⟩
inductive opEqK (x y : Rv) (Q : Rv → Prop) : Prop
  | dct {es : List (PyData × PyData)} {i : Int} : x.D = some (.dict es) → y.D = some (.int i) → Q (.im (.bool false)) → opEqK x y Q
  | els : opEq x y Q → opEqK x y Q
theorem o2_eqK : Op2 K (fun x y H Q => (rEq x y H Q ∨ rEqD K x y H Q) ∨ rDI x y H Q) opEqK := by
  intro Z B0 ρ s H0 σ Ha Hb H v u x y Qd Q R rx ry q k
  cases q with
  | @dct es i e1 e2 q =>
    cases rx.rd e1 with
    | dct h1 _ _ => exact .inr ⟨_, _, i, rfl, ry.vI e2, h1, k _ _ _ q (Same.refl H) (Im.bl _)⟩
  | els q => exact .inl (o2_eq Z B0 ρ s H0 σ Ha Hb H v u x y Qd Q R rx ry q k)
theorem de_eqK (hu : X.A.units + 65 < cLine) (ha : DE Z X a da) (hb : DE Z X b db) : DE Z X (.Compare a [.Eq] [b] pos) (dBin opEqK da db) :=
  PE.of (pe_cmpR ((op_eq.or (op_eqD (by omega))).or (op_DI (by omega))) ha hb (nomark _)) fun σ H Q h => lift_bin (K := X.K) o2_eqK h
/-! ### t == () of a tuple of any items -/
def dEqE (da : DX Z) : DX Z := fun s ρ Q => da s ρ fun x s1 => match x.D with
  | some (.tuple l) => Q (.im (.bool l.isEmpty)) s1
  | _ => False
theorem dt_eqE {kk} {p' : Pos} (hu : X.A.units + 65 < cLine) (ha : DE Z X a da) : DTs Z X (.Compare a [.Eq] [.Tuple [] kk p'] pos) (dTst (dEqE da)) := by
  refine PT.of (pt_cmpR (op_eqE (by omega)) ha (pe_tup pa_nil) (nomark _)) fun σ H Q h => ?_
  obtain ⟨B0, H0, ρ, s, Qd, R, hd, hq⟩ := lift_tst h
  refine ⟨B0, H0, ρ, s, _, R, hd, fun x s1 v H1 qx R1 g1 r1 => ?_⟩
  split at qx
  · rename_i l e1
    refine ⟨by show 0 ≤ sizeLine; decide, fun p hp => ?_⟩
    have sm := same_new (o := .tup []) hp
    obtain ⟨a, xs, rfl, h1, h2⟩ := r1.tup (K := X.K) e1
    refine ⟨a, p, xs, rfl, rfl, same_seqT sm h1, upd_same, ?_⟩
    have e : xs.isEmpty = l.isEmpty := by cases h2 <;> rfl
    rw [e]
    exact hq _ s1 _ _ qx (R1.same sm) (g1.trans (Gr.of sm)) (Im.bl _)
  · exact qx.elim
end
end Lf
namespace Lf
open PySem PySem.Spec PyProof.Rows L2
section
variable {Z : Zn} {X : Cx} {a : Expr} {da : DX Z} {pos : Pos}
/-! ### t != () of a tuple of any items -/
theorem op_neET (hu : X.A.units < cLine) : OpR X (compareOp .NotEq) (fun x y H Q => ∃ (a b : Addr) (xs : List V), x = .ref a ∧ y = .ref b ∧ SqT X.K H a xs ∧ H b = some (.tup []) ∧ Q (.bl (!xs.isEmpty)) H) := by
  intro pins s σ H x y v u Q I rx ry h
  obtain ⟨a, b, xs, rfl, rfl, ha, hb, q⟩ := h
  cases (show v = Value.ref a from rx)
  cases (show u = Value.ref b from ry)
  obtain ⟨its, rv, ⟨o, ho, hc, n, hd⟩, _⟩ := I.tuple ha
  obtain ⟨jts, rw', ⟨o2, ho2, hc2, n2, hd2⟩, _⟩ := I.tuple (SqT.of hb)
  cases rw'
  have e : ((List.range (min its.toArray.size ([] : List Value).toArray.size)).all (fun _ => true) && its.toArray.size == ([] : List Value).toArray.size) = xs.isEmpty := by
    have same := rv.length
    cases xs with
    | nil =>
      cases rv
      rfl
    | cons x xs =>
      cases rv with
      | cons _ _ => rfl
  refine SeqAt.RcNeAt.tuples (e := fun _ => true) ⟨o, ho, hc, n, hd⟩ ⟨o2, ho2, hc2, n2, hd2⟩ hu (fun j _ h2 => absurd h2 (Nat.not_lt_zero j)) _ _ _ _ ?_
  rw [e]
  exact ⟨.bl _, H, I, rfl, q⟩
def dNeE (da : DX Z) : DX Z := fun s ρ Q => da s ρ fun x s1 => match x.D with
  | some (.tuple l) => Q (.im (.bool (!l.isEmpty))) s1
  | _ => False
theorem dt_neET {kk} {p' : Pos} (hu : X.A.units + 65 < cLine) (ha : DE Z X a da) : DTs Z X (.Compare a [.NotEq] [.Tuple [] kk p'] pos) (dTst (dNeE da)) := by
  refine PT.of (pt_cmpR (op_neET (by omega)) ha (pe_tup pa_nil) (nomark _)) fun σ H Q h => ?_
  obtain ⟨B0, H0, ρ, s, Qd, R, hd, hq⟩ := lift_tst h
  refine ⟨B0, H0, ρ, s, _, R, hd, fun x s1 v H1 qx R1 g1 r1 => ?_⟩
  split at qx
  · rename_i l e1
    refine ⟨by show 0 ≤ sizeLine; decide, fun p hp => ?_⟩
    have sm := same_new (o := .tup []) hp
    obtain ⟨a, xs, rfl, h1, h2⟩ := r1.tup (K := X.K) e1
    refine ⟨a, p, xs, rfl, rfl, same_seqT sm h1, upd_same, ?_⟩
    have e : xs.isEmpty = l.isEmpty := by cases h2 <;> rfl
    rw [e]
    exact hq _ s1 _ _ qx (R1.same sm) (g1.trans (Gr.of sm)) (Im.bl _)
  · exact qx.elim
end
end Lf
namespace Lf
open PySem PySem.Spec PyProof.Rows L2
/-! ### values that repr shows and that == reads: items, tuples of them, any value -/
structure ItQ (d : PyData) : Prop where
  sw : Sw 4 400 d
  eq : (∃ es, d = .dict es) ∨ SeqAt.shaped d = true
structure Tq (n : Nat) (ds : List PyData) : Prop where
  len : ds.length ≤ n
  it : ∀ d ∈ ds, ItQ d
structure Vq (n : Nat) (d : PyData) : Prop where
  sw : Sw 5 100000 d
  tu : ∀ ds, d = .tuple ds → Tq n ds
theorem Tq.nil {n : Nat} : Tq n [] := ⟨Nat.zero_le _, fun _ h => absurd h List.not_mem_nil⟩
theorem Tq.one {d : PyData} (h : ItQ d) : Tq 1 [d] := ⟨Nat.le_refl _, fun x hx => by rw [List.mem_singleton.mp hx]; exact h⟩
theorem Tq.mono {n m : Nat} {ds : List PyData} (h : Tq n ds) (le : n ≤ m) : Tq m ds := ⟨Nat.le_trans h.len le, h.it⟩
theorem Tq.app {n m : Nat} {ds es : List PyData} (h : Tq n ds) (k : Tq m es) : Tq (n + m) (ds ++ es) := ⟨by rw [List.length_append]; have := h.len; have := k.len; omega, fun d hd => (List.mem_append.mp hd).elim (h.it d) (k.it d)⟩
theorem Tq.rev {n : Nat} {ds : List PyData} (h : Tq n ds) : Tq n ds.reverse := ⟨by rw [List.length_reverse]; exact h.len, fun d hd => h.it d (List.mem_reverse.mp hd)⟩
theorem Tq.cut {n : Nat} {ds : List PyData} (h : Tq n ds) (lo hi : Option Int) : Tq n (cutD ds lo hi) := by
  unfold cutD
  refine ⟨?_, fun d hd => h.it d (List.mem_of_mem_drop (List.mem_of_mem_take hd))⟩
  rw [List.length_take, List.length_drop]
  have := h.len
  omega
theorem ItQ.int {i : Int} (h : i.natAbs < 10 ^ 12) : ItQ (.int i) := ⟨(Sw.int h).mono (by decide) (by decide), .inr rfl⟩
theorem ItQ.nat {x : Nat} (h : x < 10 ^ 12) : ItQ (.int (x : Nat)) := ItQ.int (by rw [Int.natAbs_natCast]; exact h)
theorem ItQ.bool (b : Bool) : ItQ (.bool b) := ⟨(Sw.bool b).mono (by decide) (by decide), .inr (by cases b <;> rfl)⟩
theorem Tq.ts {n : Nat} {ds : List PyData} (h : Tq n ds) : Ts n ds := ⟨h.len, fun d hd => (h.it d hd).sw⟩
theorem Tq.tup {n : Nat} {ds : List PyData} (h : Tq n ds) (hn : n ≤ 240) : Vq n (.tuple ds) := ⟨(Sw.tup h.ts.it h.len).mono (Nat.le_refl _) (by have : 402 * n ≤ 402 * 240 := Nat.mul_le_mul_left _ hn; omega), fun es e => by cases e; exact h⟩
theorem Tq.lst {n : Nat} {ds : List PyData} (h : Tq n ds) (hn : n ≤ 240) : Vq n (.list ds) := ⟨(Sw.lst h.ts.it h.len).mono (Nat.le_refl _) (by have : 402 * n ≤ 402 * 240 := Nat.mul_le_mul_left _ hn; omega), fun es e => by cases e⟩
theorem Vq.mono {n m : Nat} {d : PyData} (h : Vq n d) (le : n ≤ m) : Vq m d := ⟨h.sw, fun ds e => (h.tu ds e).mono le⟩
theorem Tq.nD {n : Nat} {l : List Nat} (h : ∀ x ∈ l, x < 10 ^ 12) (hl : l.length ≤ n) : Tq n (nD l) := ⟨by rw [nD_len]; exact hl, fun d hd => by
  obtain ⟨x, hx, rfl⟩ := List.mem_map.mp hd
  exact ItQ.nat (h x hx)⟩
theorem eqK_ok {d : PyData} {Q : Rv → Prop} (h : ItQ d) (q : ∀ b, Q (.im (.bool b))) : opEqK (.im d) (.im (.int 1)) Q := by
  rcases h.eq with ⟨es, rfl⟩ | hs
  · exact .dct rfl rfl (q _)
  · cases d with
    | int i => exact .els (q _)
    | dict es => exact .dct rfl rfl (q _)
    | _ => exact .els ⟨hs, by decide +kernel, q _⟩
theorem at_mem {l : List PyData} {r : Nat} (h : r < l.length) : ∃ d ∈ l, atI l ((r : Nat) : Int) = some d := ⟨l[r], List.getElem_mem h, atI_nat (List.getElem?_eq_getElem h)⟩
end Lf
namespace Lf
open PySem PySem.Spec PyProof.Rows L2
/-! ### k54: shapes of forests, bent values -/
--@call _law_next Z pass0
--@call _law_odd Z pass0
--@call _law_bent Z pass0
--@sub (dt_neET hu (dv 1)) => (dt_neET hu (dv 1))
--@sub (de_call (hj := hj1) d__law_next => (de_call (hj := hj1) d__law_next
--@sub (de_call (hj := hj3) d__law_odd => (de_call (hj := hj3) d__law_odd
--@sub (de_call (hj := hj2) d__law_bent => (de_call (hj := hj2) d__law_bent
--@sub (de_callP (hj := hj1) d__law_key => (de_callP (hj := hj1) d__law_key
--@sub (de_callP (hj := hj2) d__law_shape => (de_callP (hj := hj2) d__law_shape
--@sub (de_sortedG hu (by rfl) => (de_sortedG hu (by rfl)
def fBnS (w l : Addr) (n : Nat) : DF (gz w l) := fun s as Q => ∃ d : PyData, as = [.raw (.ref w), .im d] ∧ okl d = true ∧ dph d ≤ n ∧ wgt d ≤ 300 ∧ ∀ e : PyData, okl e = true → dph e ≤ dph d + 1 → wgt e ≤ 2 * wgt d + 3 → Q (.im e) s
def fShF (n : Nat) : DF Z0 := fun s as Q => ∃ (fs : List Nat) (v : Nat), as = [.im (tupN fs), .im (.int (v : Nat))] ∧ Forest fs ∧ v < fs.length ∧ wt fs v ≤ n ∧ ∀ d : PyData, nst d = true → wgt d = wt fs v → Q (.im d) s
theorem odds_S : ∀ d ∈ odds, okl d = true ∧ dph d ≤ 2 ∧ wgt d ≤ 3 := fun d hd => by
  have h : odds.all (fun d => okl d && (decide (dph d ≤ 2) && decide (wgt d ≤ 3))) = true := by decide +kernel
  have h := List.all_eq_true.mp h d hd
  rw [Bool.and_eq_true, Bool.and_eq_true, decide_eq_true_iff, decide_eq_true_iff] at h
  exact h
theorem okls_app {a b : List PyData} : okls (a ++ b) = (okls a && okls b) := by rw [okls_all, okls_all, okls_all, List.all_append]
theorem dphs_app (a b : List PyData) : dphs (a ++ b) = max (dphs a) (dphs b) := by
  induction a with
  | nil => exact (Nat.zero_max _).symm
  | cons x a ih =>
    show max (dph x) (dphs (a ++ b)) = max (max (dph x) (dphs a)) (dphs b)
    rw [ih]
    omega
theorem cutS (l : List PyData) (lo hi : Option Int) : ∃ a b, l = a ++ (cutD l lo hi ++ b) := by
  unfold cutD
  refine ⟨l.take (HT.sIx l.length 0 lo), (l.drop (HT.sIx l.length 0 lo)).drop (HT.sIx l.length l.length hi - HT.sIx l.length 0 lo), ?_⟩
  rw [List.take_append_drop, List.take_append_drop]
theorem cutT {l : List PyData} {k : Nat} (h : k ≤ l.length) : cutD l none (some ((k : Nat) : Int)) = l.take k := by
  unfold cutD
  rw [HT.sIx_none, HT.sIx_nat, Nat.min_eq_left h, List.drop_zero, Nat.sub_zero]
theorem cutF {l : List PyData} {k : Nat} (h : k ≤ l.length) : cutD l (some ((k : Nat) : Int)) none = l.drop k := by
  unfold cutD
  rw [HT.sIx_none, HT.sIx_nat, Nat.min_eq_left h]
  exact List.take_of_length_le (by rw [List.length_drop]; omega)
theorem cut_lenS (l : List PyData) (lo hi : Option Int) : (cutD l lo hi).length ≤ l.length := by
  unfold cutD
  rw [List.length_take, List.length_drop]
  omega
structure SubS (l m : List PyData) : Prop where
  ok : okls l = true → okls m = true
  dp : dphs m ≤ dphs l
  wg : wgts m ≤ wgts l
theorem SubS.mid {l a m b : List PyData} (e : l = a ++ (m ++ b)) : SubS l m := by
  subst e
  refine ⟨fun h => ?_, ?_, ?_⟩
  · rw [okls_app, okls_app, Bool.and_eq_true, Bool.and_eq_true] at h
    exact h.2.1
  · rw [dphs_app, dphs_app]
    omega
  · rw [wgts_app, wgts_app]
    omega
theorem nstl_okl : ∀ n, (∀ d : PyData, wgt d ≤ n → nst d = true → okl d = true) := by
  intro n
  induction n with
  | zero => intro d h; have := wgt_pos d; omega
  | succ n ih =>
    intro d h hN
    obtain ⟨ds, rfl, hs⟩ := nst_tup hN
    have h : 1 + wgts ds ≤ n + 1 := h
    exact okls_iff.mpr fun x hx => ih x (by have := wgts_mem hx; omega) (nsts_iff.mp hs x hx)
theorem nst_okl {d : PyData} (h : nst d = true) : okl d = true := nstl_okl (wgt d) d (Nat.le_refl _) h
theorem wt_leS {fs : List Nat} (v : Nat) : wt fs v ≤ fs.length := by
  unfold wt cnt
  exact Nat.le_trans (List.length_filter_le _ _) (Nat.le_of_eq List.length_range)
theorem kids_few (fs : List Nat) (v : Nat) : (kids fs v).length ≤ fs.length := by
  unfold kids
  exact Nat.le_trans (List.length_filter_le _ _) (Nat.le_of_eq List.length_range)
theorem lcR_shp {Z : Zn} {ρ : List Sl} {fs : List Nat} {g : DG Z} {tt : DT Z} {te : DX Z} {s : Z.S} {Q : List PyData → Z.S → Prop} : ∀ {l : List Nat} {acc : List PyData}, (∀ k ∈ l, ∀ C : Option PyData → Z.S → Prop, (∀ d, nst d = true → wgt d = wt fs k → C (some d) s) → g (.int (k : Nat)) ρ fun ρ' => tt s ρ' fun b s1 => if b = true then te s1 ρ' fun r s2 => ∃ x, r.st = some x ∧ C (some x) s2 else C none s1) → acc.length + l.length ≤ 1000000 →
    (∀ ds : List PyData, nsts ds = true → wgts ds = (l.map (wt fs)).sum → ds.length = l.length → Q (acc ++ ds) s) → lcR g tt te ρ (nD l) s acc Q
  | [], acc, _, _, q => by
    have := q [] rfl rfl rfl
    rw [List.append_nil] at this
    exact this
  | k :: l, acc, h, hl, q => by
    rw [List.length_cons] at hl
    refine h k List.mem_cons_self (fun o s1 => match o with
      | some x => acc.length < 1000000 ∧ lcR g tt te ρ (nD l) s1 (acc ++ [x]) Q
      | none => lcR g tt te ρ (nD l) s1 acc Q) ?_
    intro x hx wx
    refine ⟨by omega, lcR_shp (fun k' hk' => h k' (List.mem_cons_of_mem _ hk')) (by rw [List.length_append]; show acc.length + 1 + _ ≤ _; omega) fun ds h1 h2 h3 => ?_⟩
    rw [List.append_assoc]
    refine q (x :: ds) ?_ ?_ (by rw [List.length_cons, List.length_cons, h3])
    · show (nst x && nsts ds) = true
      rw [hx, h1]
      rfl
    · show wgt x + wgts ds = _
      rw [wx, h2]
      rfl
def sndD : PyData → PyData
  | .tuple [_, d] => d
  | d => d
theorem pairs_ok {ds : List PyData} (h : ∀ d ∈ ds, nst d = true ∧ wgt d ≤ 23 ∧ dph d ≤ 23) : SrtOk (ds.map fun d => PyData.tuple [pkey d, d]) where
  lay := layAll_iff.mpr fun p hp => by
    obtain ⟨d, hd, rfl⟩ := List.mem_map.mp hp
    obtain ⟨l1, l2⟩ := lay_nst d (h d hd).1
    show ((pkey d).canLay0 && (d.canLay0 && true)) = true
    rw [l1, l2]
    rfl
  like := fun p hp p' hp' => by
    obtain ⟨d, hd, rfl⟩ := List.mem_map.mp hp
    obtain ⟨e, he, rfl⟩ := List.mem_map.mp hp'
    show (PySem.W.alike (pkey d) (pkey e) && (PySem.W.alike d e && true)) = true
    rw [alike_key d e (h d hd).1 (h e he).1, alike_nst d e (h d hd).1 (h e he).1]
    rfl
  kind := .inl (.inl fun p hp => by
    obtain ⟨d, hd, rfl⟩ := List.mem_map.mp hp
    exact ⟨_, _, rfl⟩)
  deep := fun p hp => by
    obtain ⟨d, hd, rfl⟩ := List.mem_map.mp hp
    obtain ⟨h1, h2, h3⟩ := h d hd
    obtain ⟨d1, d2⟩ := dep_nst d h1
    show max (pkey d).depth (max d.depth 0) + 1 ≤ 50
    omega
section
variable {P : Program} {w : World} {K : PySem.W.Frag} {mg : Str → Option Value} {base : Heap}
abbrev s__law_bent : Stmt := topS (32)
abbrev N__law_bent : List Str := ["_law_grain_here", "_law_value", "_law_at", "_law_kind"]
abbrev p__law_bent : List Str := ["_law_grain_here", "_law_value"]
theorem sc__law_bent : FnScope N__law_bent p__law_bent (defScope s__law_bent) := ⟨rfl, rfl, rfl, by decide +kernel, rfl, by decide +kernel, by decide +kernel⟩
theorem ok_bentS (M : Mk K mg "_law_bent" s__law_bent p__law_bent) (wa l : Addr) (d__law_next : Df P w K mg base CX0 1 "_law_next" ["_law_grain_here", "_law_many"] (spD (gz wa l) (fNext wa l))) (d__law_odd : Df P w K mg base CX0 2 "_law_odd" ["_law_grain_here"] (spD (gz wa l) (fOdd wa l))) (m_isinstance : mg "isinstance" = none) (m_len : mg "len" = none) (m_list : mg "list" = none) (m_tuple : mg "tuple" = none) : ∀ N, Df P w K mg base CX0 (N + 2) "_law_bent" p__law_bent (spD (gz wa l) (fBnS wa l N))
  | 0 => by
    obtain ⟨f, fd, F, b, g⟩ := M
    have no : ∀ vs H Q E, spD (gz wa l) (fBnS wa l 0) vs H Q E → False := fun vs H Q E ⟨_, _, _, _, _, _, _, ⟨d, _, _, hd, _⟩, _⟩ => by have := dph_pos d; omega
    exact Df.of F b g (F.ok sc__law_bent (fun vs H Q E h => (no vs H Q E h).elim) (fun cdv A outer s H vs Q E hr h => (no vs H Q E h).elim))
  | n + 1 => by
    have d__law_bent := ok_bentS M wa l d__law_next d__law_odd m_isinstance m_len m_list m_tuple n
    have nd := sc__law_bent.nd
    have hj2 : n + 2 ≤ n + 2 := Nat.le_refl _
    have hj1 : 1 ≤ n + 2 := by omega
    have hj3 : 2 ≤ n + 2 := by omega
    refine def_ok (k := n + 2) M sc__law_bent (by decide) ?_ (fun f cdv A outer s H E hr => have hu := hu65 hr; (ds_cons (ds_if (PW.pt (dw_and (dt_val (de_isi (by rfl) m_isinstance (da_cons (dv 1) (da_cons (de_raw (pe_bltn (v := .ty "tuple") (by rfl) m_tuple (by decide +kernel) rfl)) da_nil)))) (dw_and (dt_neET hu (dv 1)) (dw_and1 (dt_gt (de_call (hj := hj1) d__law_next pass0 hr (da_cons (dv 0) (da_cons de_int da_nil))) de_int))))) (ds_cons (ds_set (i := 2) nd rfl (.inl rfl) (de_call (hj := hj1) d__law_next pass0 hr (da_cons (dv 0) (da_cons (de_len (by rfl) m_len (da_cons (dv 1) da_nil)) da_nil))))
      (ds_one (ds_ret (de_add (de_add (de_sl (dv 1) do_none (do_some (dv 2))) (de_tup (da_cons (de_call (hj := hj2) d__law_bent pass0 hr (da_cons (dv 0) (da_cons (de_ix (dv 1) (dv 2)) da_nil))) da_nil))) (de_sl (dv 1) (do_some (de_add (dv 2) de_int)) do_none))))) ds_nil)
      (ds_cons (ds_set (i := 3) nd rfl (.inl rfl) (de_call (hj := hj1) d__law_next pass0 hr (da_cons (dv 0) (da_cons de_int da_nil))))
      (ds_cons (ds_if (PW.pt (dw_and (dt_val (de_isi (by rfl) m_isinstance (da_cons (dv 1) (da_cons (de_raw (pe_bltn (v := .ty "tuple") (by rfl) m_tuple (by decide +kernel) rfl)) da_nil)))) (dw_and1 (dt_lt (dv 3) de_int)))) (ds_one (ds_ret (de_ix (de_lst (da_cons (de_sl (dv 1) (do_some de_int) do_none) (da_cons (de_add (de_sl (dv 1) do_none (do_some de_int)) (dv 1)) (da_cons (de_list (by rfl) m_list (da_cons (dv 1) da_nil)) (da_cons (de_rev (dv 1)) (da_cons (de_add (dv 1) (de_tup (da_cons (de_tup da_nil) da_nil))) da_nil)))))) (dv 3)))) ds_nil)
      (ds_one (ds_ret (de_call (hj := hj3) d__law_odd pass0 hr (da_cons (dv 0) da_nil)))))))) ?_
    · rintro s as Qd ⟨d, rfl, _⟩; rfl
    · rintro s as Qd ⟨d, rfl, ho, hd, hW, q⟩
      have odd : ∀ e ∈ odds, Qd (.im e) s := fun e he => by
        obtain ⟨h1, h2, h3⟩ := odds_S e he
        exact q e h1 (by have := dph_pos d; omega) (by omega)
      cases d with
      | tuple ds =>
        have ld := wgts_len ds
        have hW : 1 + wgts ds ≤ 300 := hW
        have hd : 1 + dphs ds ≤ n + 1 := hd
        have ho : okls ds = true := ho
        refine ⟨.inr (.inr (.inr (.inl rfl))), ?_⟩
        show if (!ds.isEmpty) = true then _ else _
        have sub : ∀ lo hi, SubS ds (cutD ds lo hi) := fun lo hi => by
          obtain ⟨a, b, e⟩ := cutS ds lo hi
          exact .mid e
        have cb : ∀ lo hi, (cutD ds lo hi).length ≤ ds.length := fun lo hi => cut_lenS ds lo hi
        have q : ∀ e : PyData, okl e = true → dph e ≤ 1 + dphs ds + 1 → wgt e ≤ 2 * (1 + wgts ds) + 3 → Qd (.im e) s := q
        apply viaP (M := fun _ : Nat => True)
        case main =>
          intro fin
          obtain ⟨u⟩ : Nonempty Nat := ⟨0⟩
          cases hE : ds.isEmpty with
          | true =>
            rw [if_neg (by decide)]
            exact fin u trivial
          | false =>
            have pos : 0 < ds.length := List.length_pos_iff.mpr fun e => by rw [e] at hE; cases hE
            rw [if_pos (by decide)]
            refine ⟨3, rfl, by decide, by decide, fun r hr => ⟨.inl rfl, ?_⟩⟩
            show if decide ((0 : Int) < ((r : Nat) : Int)) = true then _ else _
            by_cases z : ¬ 0 < r
            · rw [if_neg (by rw [decide_eq_false (by omega)]; decide)]
              exact fin u trivial
            · rw [if_pos (decide_eq_true (by omega))]
              refine ⟨ds.length, rfl, pos, by omega, fun at1 hat1 => ⟨.inl rfl, ?_⟩⟩
              have b1 := cb none (some ((at1 : Nat) : Int))
              have b5 := cb (some (((at1 : Nat) : Int) + 1)) none
              have eD : ds = ds.take at1 ++ ([ds[at1]] ++ ds.drop (at1 + 1)) := by
                rw [List.singleton_append, ← List.drop_eq_getElem_cons hat1, List.take_append_drop]
              have wD : wgts ds = wgts (ds.take at1) + (wgt ds[at1] + 0 + wgts (ds.drop (at1 + 1))) := by
                have := congrArg wgts eD
                rw [wgts_app, wgts_app] at this
                exact this
              have dD : dphs ds = max (dphs (ds.take at1)) (max (max (dph ds[at1]) 0) (dphs (ds.drop (at1 + 1)))) := by
                have := congrArg dphs eD
                rw [dphs_app, dphs_app] at this
                exact this
              have oD : okls (ds.take at1) = true ∧ okl ds[at1] = true ∧ okls (ds.drop (at1 + 1)) = true := by
                have := ho
                rw [eD, okls_app, okls_app, Bool.and_eq_true, Bool.and_eq_true] at this
                exact ⟨this.1, (Bool.and_eq_true_iff.mp (show (okl ds[at1] && okls []) = true from this.2.1)).1, this.2.2⟩
              refine ⟨_, atI_nat (List.getElem?_eq_getElem hat1), _, rfl, oD.2.1, by omega, by omega, fun y y1 y2 y3 => ⟨.inl rfl, _, rfl, by show 1 ≤ 1000000; decide, by show _ + 1 ≤ _; omega, by rw [List.length_append]; show _ + 1 + _ ≤ _; omega, ?_⟩⟩
              have e1 : cutD ds none (some ((at1 : Nat) : Int)) = ds.take at1 := cutT (by omega)
              have e2 : cutD ds (some (((at1 : Nat) : Int) + 1)) none = ds.drop (at1 + 1) := cutF (k := at1 + 1) (by omega)
              rw [e1, e2]
              refine q _ ?_ ?_ ?_
              · show okls (ds.take at1 ++ [y] ++ ds.drop (at1 + 1)) = true
                rw [okls_app, okls_app, oD.1, oD.2.2, show okls [y] = (okl y && true) from rfl, y1]
                rfl
              · show 1 + dphs (ds.take at1 ++ [y] ++ ds.drop (at1 + 1)) ≤ _
                rw [dphs_app, dphs_app, show dphs [y] = max (dph y) 0 from rfl]
                omega
              · show 1 + wgts (ds.take at1 ++ [y] ++ ds.drop (at1 + 1)) ≤ _
                rw [wgts_app, wgts_app, show wgts [y] = wgt y + 0 from rfl]
                omega
        case fin =>
        intro _ _
        refine ⟨6, rfl, by decide, by decide, fun r hr => ⟨.inl rfl, .inr (.inr (.inr (.inl rfl))), ?_⟩⟩
        show if decide (((r : Nat) : Int) < 5) = true then _ else _
        by_cases z : ¬ r < 5
        · rw [if_neg (by rw [decide_eq_false (by omega)]; decide)]
          exact ⟨rfl, fun r2 e h2 => ⟨.inl rfl, odd e (List.mem_of_getElem? h2)⟩⟩
        · rw [if_pos (decide_eq_true (by omega))]
          have b4 := cb none (some 1)
          refine ⟨by omega, _, rfl, by show 0 ≤ 1000000; decide, _, rfl, by show 1 ≤ 1000000; decide, by show _ + 1 ≤ _; omega, _, rfl, by show 5 ≤ 1000000; decide, ?_⟩
          obtain ⟨x, hxm, hat⟩ := at_mem (l := [.tuple (cutD ds (some 1) none), .tuple (cutD ds none (some 1) ++ ds), .list ds, .tuple ds.reverse, .tuple (ds ++ [.tuple []])]) (r := r) (by show r < 5; omega)
          refine ⟨x, hat, ?_⟩
          simp only [List.mem_cons, List.not_mem_nil, or_false] at hxm
          have s1 := sub (some 1) none
          have s2 := sub none (some 1)
          have rv : SubS ds ds.reverse := ⟨fun h => okls_iff.mpr fun d hd => okls_iff.mp h d (List.mem_reverse.mp hd), dphs_le fun d hd => dphs_mem (List.mem_reverse.mp hd), Nat.le_of_eq (wgts_perm (List.reverse_perm ds))⟩
          rcases hxm with rfl | rfl | rfl | rfl | rfl
          · exact q _ (s1.ok ho) (by have := s1.dp; show 1 + _ ≤ _; omega) (by have := s1.wg; show 1 + _ ≤ _; omega)
          · refine q _ ?_ ?_ ?_
            · show okls (cutD ds none (some 1) ++ ds) = true
              rw [okls_app, s2.ok ho, ho]
              rfl
            · show 1 + dphs (cutD ds none (some 1) ++ ds) ≤ _
              rw [dphs_app]
              have := s2.dp
              omega
            · show 1 + wgts (cutD ds none (some 1) ++ ds) ≤ _
              rw [wgts_app]
              have := s2.wg
              omega
          · exact q _ ho (by show 1 + _ ≤ _; omega) (by show 1 + _ ≤ _; omega)
          · exact q _ (rv.ok ho) (by have := rv.dp; show 1 + _ ≤ _; omega) (by have := rv.wg; show 1 + _ ≤ _; omega)
          · refine q _ ?_ ?_ ?_
            · show okls (ds ++ [.tuple []]) = true
              rw [okls_app, ho]
              rfl
            · show 1 + dphs (ds ++ [.tuple []]) ≤ _
              rw [dphs_app, show dphs [PyData.tuple []] = 1 from rfl]
              omega
            · show 1 + wgts (ds ++ [.tuple []]) ≤ _
              rw [wgts_app, show wgts [PyData.tuple []] = 1 from rfl]
              omega
      | _ =>
        refine ⟨.inr (.inr (.inr (.inl rfl))), 6, rfl, by decide, by decide, fun r hr => ⟨.inl rfl, .inr (.inr (.inr (.inl rfl))), rfl, fun r2 e h2 => ⟨.inl rfl, odd e (List.mem_of_getElem? h2)⟩⟩⟩
abbrev s__law_shape : Stmt := topS (26)
abbrev N__law_shape : List Str := ["_law_forest_here", "_law_vertex", "_law_children", "_law_items", "_law_k", "_law_child", "_law_key_here", "_law_item"]
abbrev p__law_shape : List Str := ["_law_forest_here", "_law_vertex"]
theorem sc__law_shape : FnScope N__law_shape p__law_shape (defScope s__law_shape) := ⟨rfl, rfl, rfl, by decide +kernel, rfl, by decide +kernel, by decide +kernel⟩
theorem ok_shapeF (M : Mk K mg "_law_shape" s__law_shape p__law_shape) (d__law_key : Df P w K mg base CX0 27 "_law_key" p__law_key (spD Z0 (fPlc 26))) (m_len : mg "len" = none) (m_range : mg "range" = none) (m_sorted : mg "sorted" = none) (m_tuple : mg "tuple" = none) : ∀ N, Df P w K mg base CX0 (N + 28) "_law_shape" p__law_shape (spD Z0 (fShF N))
  | 0 => by
    obtain ⟨f, fd, F, b, g⟩ := M
    have no : ∀ vs H Q E, spD Z0 (fShF 0) vs H Q E → False := fun vs H Q E ⟨_, _, _, _, _, _, _, ⟨fs, v, _, hF, hv, hd, _⟩, _⟩ => by have := wt_pos hF hv; omega
    exact Df.of F b g (F.ok sc__law_shape (fun vs H Q E h => (no vs H Q E h).elim) (fun cdv A outer s H vs Q E hr h => (no vs H Q E h).elim))
  | n + 1 => by
    have d__law_shape := ok_shapeF M d__law_key m_len m_range m_sorted m_tuple n
    have nd := sc__law_shape.nd
    have hj2 : n + 28 ≤ n + 28 := Nat.le_refl _
    have hj1 : 27 ≤ n + 28 := by omega
    refine def_ok (k := n + 28) M sc__law_shape (by decide) ?_ (fun f cdv A outer s H E hr => have hu := hu65 hr; (ds_cons (ds_setLc (i := 2) (ow := [("_law_k", 4)]) (gok_name (i := 4) (by decide)) rfl nd rfl rfl (sw_true rfl rfl rfl rfl) (di_r1 (by rfl) m_range (da_cons (de_len (by rfl) m_len (da_cons (dv 0) da_nil)) da_nil)) (blkOk_by (own := [("_law_k", 4)]) (N := N__law_shape) (sc := defScope s__law_shape) (by decide +kernel)) (fun _ _ _ _ _ => pg_name (i := 4) nd rfl (Or.inl rfl)) (fun _ _ _ _ _ => (dp_one (PW.pt (dw_and (dt_eq hu (de_ix (dv 0) (dv 4)) (dv 1)) (dw_and1 (dt_ne hu (dv 4) (dv 1))))))) (fun _ _ _ _ _ => (dv 4)))
      (ds_cons (ds_setLc (i := 3) (ow := [("_law_child", 5)]) (gok_name (i := 5) (by decide)) rfl nd rfl rfl (sw_true rfl rfl rfl rfl) (di_seq (dv 2)) (blkOk_by (own := [("_law_child", 5)]) (N := N__law_shape) (sc := defScope s__law_shape) (by decide +kernel)) (fun _ _ _ _ _ => pg_name (i := 5) nd rfl (Or.inl rfl)) (fun _ _ _ _ _ => dp_nil) (fun _ _ _ _ _ => (de_callP (hj := hj2) d__law_shape pass0 hr (da_cons (dv 0) (da_cons (dv 5) da_nil)))))
      (ds_one (ds_ret (de_tuple (by rfl) m_tuple (da_cons (de_lc (ow := [("_law_key_here", 6), ("_law_item", 7)]) (gok_tup (is := [6, 7]) (n := 2) rfl (by decide)) rfl nd (di_seq (de_sortedG hu (by rfl) m_sorted (da_cons (de_lc (ow := [("_law_item", 7)]) (gok_name (i := 7) (by decide)) rfl nd (di_seq (dv 3)) (blkOk_by (own := [("_law_item", 7)]) (N := N__law_shape) (sc := defScope s__law_shape) (by decide +kernel)) (fun _ _ _ _ _ => pg_name (i := 7) nd rfl (Or.inl rfl)) (fun _ _ _ _ _ => dp_nil) (fun _ _ _ _ _ => (de_tup (da_cons (de_callP (hj := hj1) d__law_key pass0 hr (da_cons (dv 7) da_nil)) (da_cons (dv 7) da_nil))))) da_nil))) (blkOk_by (own := [("_law_key_here", 6), ("_law_item", 7)]) (N := N__law_shape) (sc := defScope s__law_shape) (by decide +kernel)) (fun _ _ _ _ _ => pg_tup rfl (pgs_cons (pg_name (i := 6) nd rfl (Or.inl rfl)) (pgs_cons (pg_name (i := 7) nd rfl (Or.inl rfl)) pgs_nil))) (fun _ _ _ _ _ => dp_nil) (fun _ _ _ _ _ => (dv 7))) da_nil))))))) ?_
    · rintro s as Qd ⟨fs, v, rfl, _⟩; rfl
    · rintro s as Qd ⟨fs, v, rfl, hF, hv, hw, q⟩
      have few := hF.few
      refine ⟨rfl, by rw [nD_len]; omega, by rw [nD_len]; omega, ?_⟩
      rw [nD_len, Int.toNat_natCast]
      refine lcR_rng (f := fun k => if (decide (par fs k = v) && !decide (k = v)) = true then some (.int (k : Nat)) else none) (fun k hk C hC => ?_) (by omega) ?_
      · refine ⟨_, nD_at hk, ?_⟩
        show if decide (((par fs k : Nat) : Int) = ((v : Nat) : Int)) = true then _ else _
        by_cases z1 : par fs k = v
        · rw [if_pos (decide_eq_true (by omega))]
          rw [decide_eq_true z1, Bool.true_and] at hC
          show if (!decide (((k : Nat) : Int) = ((v : Nat) : Int))) = true then _ else _
          by_cases z2 : k = v
          · rw [if_neg (by rw [decide_eq_true (by omega)]; decide)]
            rw [if_neg (by rw [decide_eq_true z2]; decide)] at hC
            exact hC
          · rw [if_pos (by rw [decide_eq_false (by omega)]; rfl)]
            rw [if_pos (by rw [decide_eq_false z2]; rfl)] at hC
            exact ⟨_, rfl, hC⟩
        · rw [if_neg (by rw [decide_eq_false (by omega)]; decide)]
          rw [decide_eq_false z1, Bool.false_and] at hC
          exact hC
      rw [fm_if]
      have eK : ((List.range fs.length).filter fun k => decide (par fs k = v) && !decide (k = v)) = kids fs v := by
        unfold kids
        refine List.filter_congr fun u hu => ?_
        by_cases z1 : par fs u = v
        · subst z1
          rw [decide_eq_true rfl, Bool.true_and, Bool.true_and, ← decide_not]
        · rw [decide_eq_false z1, Bool.false_and, Bool.false_and]
      rw [eK]
      show ∀ a2, _
      intro a2
      refine ⟨rfl, ?_⟩
      have kw := wt_kids hF hv
      have wb := wt_leS (fs := fs) v
      show lcR _ _ _ _ (nD (kids fs v)) _ [] _
      refine lcR_shp (fs := fs) (fun k hk C hC => ?_) (by have := kids_few fs v; show 0 + _ ≤ _; omega) fun ds hN hW hL => ?_
      · have lt := wt_lt hF hv hk
        exact ⟨fs, k, rfl, hF, (mem_kids.mp hk).1, by omega, fun d h1 h2 => ⟨.inl rfl, _, rfl, hC d h1 h2⟩⟩
      rw [List.nil_append]
      show ∀ a3, _
      intro a3
      have lenD := kids_few fs v
      have hi : ∀ d ∈ ds, nst d = true ∧ wgt d ≤ 23 ∧ dph d ≤ 23 := fun d hd => by
        have h1 := wgts_mem hd
        have h2 := dph_wgt d
        exact ⟨nsts_iff.mp hN d hd, by omega, by omega⟩
      refine ⟨rfl, rfl, ?_⟩
      refine lcR_fun (f := fun d => some (.tuple [pkey d, d])) (fun d hm C hC => ?_) (by show 0 + _ ≤ _; omega) ?_
      · obtain ⟨h1, h2, h3⟩ := hi d hm
        exact ⟨d, rfl, h1, by omega, by omega, .inl rfl, _, rfl, by show 2 ≤ 1000000; decide, _, rfl, hC⟩
      rw [List.nil_append, fm_some]
      refine ⟨pairs_ok hi, ?_⟩
      have mem : ∀ p ∈ srtD (ds.map fun d => PyData.tuple [pkey d, d]), ∃ d ∈ ds, p = .tuple [pkey d, d] := fun p hp => by
        obtain ⟨d, hd, e⟩ := List.mem_map.mp ((srtA_perm _).mem_iff.mp hp)
        exact ⟨d, hd, e.symm⟩
      have len := (srtA_perm (ds.map fun d => PyData.tuple [pkey d, d])).length_eq
      rw [List.length_map] at len
      refine lcR_fun (f := fun p => some (sndD p)) (fun p hp C hC => ?_) (by show 0 + _ ≤ _; omega) ?_
      · obtain ⟨d, _, rfl⟩ := mem p hp
        exact ⟨_, rfl, hC⟩
      rw [List.nil_append, fm_some]
      have pm : ((srtD (ds.map fun d => PyData.tuple [pkey d, d])).map sndD).Perm ds := by
        have := (srtA_perm (ds.map fun d => PyData.tuple [pkey d, d])).map sndD
        rw [List.map_map] at this
        refine this.trans (.of_eq ?_)
        exact (List.map_congr_left fun d _ => rfl).trans (List.map_id ds)
      refine q _ ?_ ?_
      · exact nsts_iff.mpr fun d hd => (hi d (pm.mem_iff.mp hd)).1
      · show 1 + wgts _ = _
        rw [wgts_perm pm, hW, kw]
end
end Lf
namespace Lf
open PySem PySem.Spec PyProof.Rows L2
/-! ### a law over the grain -/
abbrev sLaw : Stmt := topS (35)
def spLaw (K : PySem.W.Frag) : Sp := fun vs H Q _ => ∃ (a : Addr) (ns : List Int), vs = [.ref a] ∧ SqL K H a (ns.map V.int) ∧ ns.length ≤ 63 ∧ ∀ H', Q (.bl true) H'
theorem PSs.ex {X : Cx} {sts : List Stmt} {t : Addr → Addr → TS} (h : ∀ w l, PSs X sts (t w l)) : PSs X sts (fun D σ H => ∃ w l, t w l D σ H) := ⟨fun pins s σ H D I ⟨w, l, q⟩ => (h w l).run pins s σ H D I q⟩
theorem zone_in {H : Hp} {Q : VK} {b wa la : Addr} {m : Nat} {t : (w l : Addr) → DSt (gz w l)} (ok : gOk wa la H) (q : ∀ G, Q (.bl true) G) (hd : t wa la (ends fun r _ => r = .im (.bool true)) () ([.raw (.ref b), .raw (.ref wa)] ++ List.replicate m .no)) :
    ∃ w l, liftS (gz w l) (t w l) { nx := fun _ H' => Q .non H', rt := Q } ([some (.ref b), some (.ref wa)] ++ List.replicate m none) H := by
  refine ⟨wa, la, fun _ => False, H, [.raw (.ref b), .raw (.ref wa)] ++ List.replicate m .no, (), ends fun r _ => r = .im (.bool true), ?_, hd, (fun s' ρ' σ' H' z _ _ => by cases (show (Rv.im .none) = .im (.bool true) from z)), (fun _ _ _ _ z _ _ => (show False from z).elim), (fun _ _ _ _ z _ _ => (show False from z).elim), fun r s' v H' z _ _ rr => ?_⟩
  · have eo : own ([.raw (.ref b), .raw (.ref wa)] ++ List.replicate m .no) = [] := ArgRs.own (B := fun _ => False) (H := H) (.cons (v := .ref b) (x := .raw (.ref b)) rfl (.cons (v := .ref wa) (x := .raw (.ref wa)) rfl .nil))
    refine ⟨ok, by simp, fun i x e => ?_, by rw [eo]; exact List.nodup_nil, (fun a ha => by rw [eo] at ha; exact absurd ha List.not_mem_nil), fun a z => z.elim, fun b o e _ => e⟩
    match i with
    | 0 => cases e; exact ⟨_, rfl, rfl⟩
    | 1 => cases e; exact ⟨_, rfl, rfl⟩
    | i + 2 =>
      have e2 : (List.replicate m Sl.no)[i]? = some x := e
      have hi : i < m := by
        have := (List.getElem?_eq_some_iff.mp e2).1
        rw [List.length_replicate] at this
        exact this
      have hx : x = .no := by
        rw [List.getElem?_replicate, if_pos hi] at e2
        exact (Option.some.inj e2).symm
      subst hx
      refine ⟨none, ?_, trivial⟩
      show (List.replicate m (none : Option V))[i]? = some none
      rw [List.getElem?_replicate, if_pos hi]
  · cases (show r = .im (.bool true) from z)
    cases (show Im _ H' v _ from rr)
    exact q H'
end Lf
namespace Lf
open PySem PySem.Spec PyProof.Rows L2
/-! ### k54: the law -/
--@call _law_forest Z pass0
--@call _law_built Z pass0
--@call _law_next Z pass0
--@call _law_bent Z pass0
--@call _law_odd Z pass0
--@call _law_right GP
--@emptylist
--@sub de_mulK => de_mulK
--@sub (de_mulA (dv 5) de_int) => (de_mulA (dv 5) de_int)
def fRgtS : DF Z0 := fun s as Q => ∃ d : PyData, as = [.im d] ∧ okl d = true ∧ dph d ≤ 26 ∧ wgt d ≤ 1000 ∧ Q (.im (.bool true)) s
theorem three_sw {a b : Bool} {x : PyData} (h : Sw 1 60 x) : (PyData.list [.bool a, .bool b, x]).showable = true ∧ (PyData.list [.bool a, .bool b, x]).depth ≤ 100 ∧ (PyData.list [.bool a, .bool b, x]).shown.length ≤ sizeLine :=
  (Sw.lst (k := 1) (m := 60) (n := 3) (fun d hd => by
    simp only [List.mem_cons, List.not_mem_nil, or_false] at hd
    rcases hd with rfl | rfl | rfl
    · exact (Sw.bool a).mono (by decide) (by decide)
    · exact (Sw.bool b).mono (by decide) (by decide)
    · exact h) (Nat.le_refl _)).fits (by decide) (by decide)
structure CvS (d : PyData) : Prop where
  ok : okl d = true
  dp : dph d ≤ 26
  wg : wgt d ≤ 1000
theorem two_s (k : Nat) : ∃ m : Nat, (1 ≤ m ∧ m ≤ 24) ∧ atI [PyData.int 24, .int 7] ((0 + (k : Nat) : Int) % 2) = some (.int (m : Nat)) := by
  have e : ((0 + (k : Nat) : Int) % 2) = ((k % 2 : Nat) : Int) := by omega
  rw [e]
  by_cases z : k % 2 = 0
  · rw [z]; exact ⟨24, by decide, rfl⟩
  · have : k % 2 = 1 := by omega
    rw [this]; exact ⟨7, by decide, rfl⟩
section
variable {P : Program} {w : World} {K : PySem.W.Frag} {mg : Str → Option Value} {base : Heap}
abbrev s__law_right : Stmt := topS (34)
abbrev N__law_right : List Str := ["_law_value", "_law_due", "_law_shown", "_law_key_here", "_law_found"]
abbrev p__law_right : List Str := ["_law_value"]
theorem sc__law_right : FnScope N__law_right p__law_right (defScope s__law_right) := ⟨rfl, rfl, rfl, by decide +kernel, rfl, by decide +kernel, by decide +kernel⟩
theorem ok_right (M : Mk K mg "_law_right" s__law_right p__law_right) (sys : ∃ o, base.get? sysModules = some o) (d__law_is_shape : Df P w K mg base CX0 28 "_law_is_shape" p__law_is_shape (spD Z0 fShp)) (d__law_key : Df P w K mg base CX0 27 "_law_key" p__law_key (spD Z0 (fPlc 26))) (d__law_is_light : Df P w K mg base CX0 27 "_law_is_light" p__law_is_light (spD Z0 (fLit 26))) (d_is_shape : Df P w K mg base CX0 29 "is_shape" p_is_shape (spD Z0 fIsS)) (d_is_built_shape : Df P w K mg base CX0 30 "is_built_shape" p_is_built_shape (spD Z0 fIsBS)) (d__law_weight : Df P w K mg base CX0 32 "_law_weight" p__law_weight (spD Z0 fLW)) (m_repr : mg "repr" = none) :
    DfG P w K mg base 33 "_law_right" p__law_right (spD Z0 fRgtS) := by
  have nd := sc__law_right.nd
  refine def_okG (k := 32) M sc__law_right (by decide) ?_ (fun f cdv A outer s H E hgu hr => have hu := hu65 hr; have hu2 := hu200 hr; (ds_cons (ds_par (i := 1) (j := 2) rfl nd rfl rfl (by decide) rfl rfl (de_lst (da_cons (de_callP d__law_is_shape pass0 hr (da_cons (dv 0) (da_cons de_int da_nil))) (da_cons de_bl (da_cons (de_lst (da_cons de_str da_nil)) da_nil)))) (de_repr sys hgu hu2 (by rfl) m_repr (da_cons (dv 0) da_nil)))
      (ds_cons (ds_if (dt_tru (de_ix (dv 1) de_int)) (ds_cons (ds_set (i := 3) nd rfl (.inl rfl) (de_callP d__law_key pass0 hr (da_cons (dv 0) da_nil)))
      (ds_one (ds_set (i := 1) nd rfl (.inl rfl) (de_lst (da_cons de_bl (da_cons (de_callP d__law_is_light pass0 hr (da_cons (dv 3) da_nil)) (da_cons (de_ix (dv 3) de_int) da_nil))))))) ds_nil)
      (ds_cons (ds_set (i := 4) nd rfl (.inl rfl) (de_lst (da_cons (de_callP d_is_shape pass0 hr (da_cons (dv 0) da_nil)) (da_cons (de_callP d_is_built_shape pass0 hr (da_cons (dv 0) da_nil)) (da_cons (de_callP d__law_weight pass0 hr (da_cons (dv 0) da_nil)) da_nil)))))
      (ds_one (ds_ret (de_and (de_eq hu (de_repr sys hgu hu2 (by rfl) m_repr (da_cons (dv 4) da_nil)) (de_repr sys hgu hu2 (by rfl) m_repr (da_cons (dv 1) da_nil))) (de_one (de_eq hu (de_repr sys hgu hu2 (by rfl) m_repr (da_cons (dv 0) da_nil)) (dv 2)))))))))) ?_
  · rintro s as Qd ⟨d, rfl, _⟩; rfl
  · rintro s as Qd ⟨d, rfl, ho, hd, hW, q⟩
    have sw := ((sw_okl d ho).mono (k' := 26) (m' := 100000) hd (by omega)).fits (by decide) (by decide)
    refine ⟨d, 60, rfl, by decide, by decide, hd, hW, .inl rfl, _, rfl, by show 1 ≤ 1000000; decide, _, rfl, by show 3 ≤ 1000000; decide, sw.1, sw.2.1, sw.2.2, fun a1 => ?_⟩
    refine ⟨_, atI_nat (j := 0) rfl, trivial, ?_⟩
    show if shpB 60 d = true then _ else _
    cases hS : shpB 60 d with
    | true =>
      rw [if_pos rfl]
      obtain ⟨hN, hW6, _⟩ := shp_nst hS
      refine ⟨d, rfl, hN, hd, hW, .inl rfl, d, rfl, hN, hd, hW, .inl rfl, ?_⟩
      obtain ⟨ds, rfl, hs⟩ := nst_tup hN
      refine ⟨_, atI_nat (j := 0) rfl, _, rfl, by show 3 ≤ 1000000; decide, fun a2 => ?_⟩
      refine ⟨.tuple ds, rfl, hd, hW, .inl rfl, .tuple ds, rfl, hd, hW, .inl rfl, .tuple ds, rfl, hd, hW, fun _ => ⟨.inl rfl, _, rfl, by show 3 ≤ 1000000; decide, fun a3 => ?_⟩, fun h => by rw [hS] at h; cases h⟩
      have s3 : ∀ a b, _ := fun a b => three_sw (a := a) (b := b) (x := .int (wgt (.tuple ds) : Nat)) ((Sw.nat (by omega)).mono (by decide) (by decide))
      refine ⟨(s3 _ _).1, (s3 _ _).2.1, (s3 _ _).2.2, (s3 _ _).1, (s3 _ _).2.1, (s3 _ _).2.2, ?_⟩
      show if decide ((PyData.list [.bool (shpB 60 (.tuple ds)), .bool (shpB 60 (.tuple ds) && lgt (.tuple ds)), .int (wgt (.tuple ds) : Nat)]).shown = (PyData.list [.bool true, .bool (lgt (.tuple ds)), .int (wgt (.tuple ds) : Nat)]).shown) = true then _ else _
      rw [hS, Bool.true_and, if_pos (decide_eq_true rfl)]
      refine ⟨sw.1, sw.2.1, sw.2.2, ?_⟩
      show Qd (.im (.bool (decide ((PyData.tuple ds).shown = (PyData.tuple ds).shown)))) s
      rw [decide_eq_true rfl]
      exact q
    | false =>
      rw [if_neg (by decide)]
      refine ⟨d, rfl, hd, hW, .inl rfl, d, rfl, hd, hW, .inl rfl, d, rfl, hd, hW, ?_, ?_⟩
      · intro h
        rw [hS] at h
        cases h
      intro _
      refine ⟨.inl rfl, _, rfl, by show 3 ≤ 1000000; decide, fun a3 => ?_⟩
      have sb : Sw 1 60 (.list [.str "bad"]) := ⟨by decide +kernel, by decide +kernel, by decide +kernel⟩
      have s3 : ∀ a b, _ := fun a b => three_sw (a := a) (b := b) sb
      refine ⟨(s3 _ _).1, (s3 _ _).2.1, (s3 _ _).2.2, (s3 _ _).1, (s3 _ _).2.1, (s3 _ _).2.2, ?_⟩
      show if decide ((PyData.list [.bool (shpB 60 d), .bool (shpB 60 d && lgt d), .list [.str "bad"]]).shown = (PyData.list [.bool false, .bool false, .list [.str "bad"]]).shown) = true then _ else _
      rw [hS, Bool.false_and, if_pos (decide_eq_true rfl)]
      refine ⟨sw.1, sw.2.1, sw.2.2, ?_⟩
      show Qd (.im (.bool (decide (d.shown = d.shown)))) s
      rw [decide_eq_true rfl]
      exact q
abbrev s_law : Stmt := topS (35)
abbrev N_law : List Str := ["_law_script", "_law_grain_here", "_law_values", "_law_turn", "_law_forest_here", "_law_shape_here", "_law_bent_here", "_law_value"]
abbrev p_law : List Str := ["_law_script"]
theorem sc_law : FnScope N_law p_law (defScope s_law) := ⟨rfl, rfl, rfl, by decide +kernel, rfl, by decide +kernel, by decide +kernel⟩
theorem ok_law {f : Addr} {fd : FuncData} {t : Tok} (Fn : Fun K "law" "law" s_law f fd) (sys : ∃ o, base.get? sysModules = some o) (d__law_grain : Df P w K mg base CX0 1 "_law_grain" ["_law_script"] (spGrain K)) (d__law_next : ∀ wa l, Df P w K mg base CX0 1 "_law_next" ["_law_grain_here", "_law_many"] (spD (gz wa l) (fNext wa l)))
    (d__law_forest : ∀ wa l, Df P w K mg base CX0 2 "_law_forest" p__law_forest (spD (gz wa l) (fForest wa l))) (d__law_built : ∀ wa l, Df P w K mg base CX0 2 "_law_built" p__law_built (spD (gz wa l) (fLBuilt wa l))) (d__law_odd : ∀ wa l, Df P w K mg base CX0 2 "_law_odd" ["_law_grain_here"] (spD (gz wa l) (fOdd wa l))) (d__law_bent : ∀ wa l, Df P w K mg base CX0 27 "_law_bent" p__law_bent (spD (gz wa l) (fBnS wa l 25))) (d__law_shape : Df P w K mg base CX0 52 "_law_shape" p__law_shape (spD Z0 (fShF 24))) (d__law_right : DfG P w K mg base 33 "_law_right" p__law_right (spD Z0 fRgtS))
    (g_SHAPE_VERTICES : mg "SHAPE_VERTICES" = some (.int 60 t)) (m_len : mg "len" = none) (m_range : mg "range" = none) (m_repr : mg "repr" = none) :
    RunG P w K mg base 53 f fd ["_law_script"] (spLaw K) := by
  have nd := sc_law.nd
  refine runG_of Fn sc_law (fun vs H Q E h => ?_) (fun cdv A outer s H vs Q E hgu hr h => ?_)
  · obtain ⟨b, ns, rfl, _⟩ := h
    rfl
  · obtain ⟨b, ks, rfl, hS, hlen, q⟩ := h
    have hu := hu65 hr
    have hu2 := hu200 hr
    refine ⟨_, pss_cons (ps_set (i := 1) nd rfl (.inl rfl) (pe_d d__law_grain hr (pa_cons (pv 0) pa_nil))) (PSs.ex fun wa la => have d__law_next := d__law_next wa la; have d__law_forest := d__law_forest wa la; have d__law_built := d__law_built wa la; have d__law_odd := d__law_odd wa la; have d__law_bent := d__law_bent wa la; (ds_cons (ds_set (i := 2) nd rfl (.inl rfl) (de_lst (da_cons (de_mulK (de_tup (da_cons (de_tup da_nil) da_nil)) de_int) (da_cons (de_mulK (de_tup (da_cons (de_tup da_nil) da_nil)) de_int) (da_cons (de_add (de_mulK (de_tup (da_cons (de_tup da_nil) da_nil)) de_int) (de_tup (da_cons (de_tup (da_cons (de_tup da_nil) da_nil)) da_nil))) (da_cons (de_tup (da_cons (de_mulK (de_tup (da_cons (de_tup da_nil) da_nil)) de_int) da_nil)) (da_cons de_non (da_cons (de_lst da_nil) (da_cons de_emp (da_cons (de_tup da_nil) (da_cons de_str (da_cons de_int (da_cons (de_tup (da_cons (de_tup da_nil) (da_cons (de_tup (da_cons (de_lst da_nil) da_nil)) da_nil))) da_nil)))))))))))))
      (ds_cons (ds_for PassesOwn.never rfl (di_r1 (by rfl) m_range (da_cons de_int da_nil)) (dg_name (i := 3) nd rfl (.inl rfl))
      (ds_one (ds_for PassesOwn.never rfl (di_seq (de_lst (da_cons (de_call d__law_forest pass0 hr (da_cons (dv 1) (da_cons (de_ix (de_lst (da_cons de_int (da_cons de_int da_nil))) (de_mod (dv 3) de_int)) da_nil))) (da_cons (de_call d__law_built pass0 hr (da_cons (dv 1) (da_cons de_int da_nil))) da_nil)))) (dg_name (i := 4) nd rfl (.inl rfl))
      (ds_cons (ds_set (i := 5) nd rfl (.inl rfl) (de_callP d__law_shape pass0 hr (da_cons (dv 4) (da_cons (de_call d__law_next pass0 hr (da_cons (dv 1) (da_cons (de_len (by rfl) m_len (da_cons (dv 4) da_nil)) da_nil))) da_nil))))
      (ds_cons (ds_set (i := 6) nd rfl (.inl rfl) (de_call d__law_bent pass0 hr (da_cons (dv 1) (da_cons (dv 5) da_nil))))
      (ds_one (ds_set (i := 2) nd rfl (.inl rfl) (de_add (dv 2) (de_lst (da_cons (dv 5) (da_cons (dv 6) (da_cons (de_call d__law_bent pass0 hr (da_cons (dv 1) (da_cons (dv 6) da_nil))) (da_cons (de_call d__law_bent pass0 hr (da_cons (dv 1) (da_cons (dv 5) da_nil))) (da_cons (de_tup (da_cons (dv 5) da_nil)) (da_cons (de_mulA (dv 5) de_int) da_nil)))))))))))))))
      (ds_cons (ds_if (dt_neE hu (de_lc (ow := [("_law_value", 7)]) (gok_name (i := 7) (by decide)) rfl nd (di_seq (de_add (dv 2) (de_lst (da_cons (de_call d__law_odd pass0 hr (da_cons (dv 1) da_nil)) da_nil)))) (blkOk_by (own := [("_law_value", 7)]) (N := N_law) (sc := defScope s_law) (by decide +kernel)) (fun _ _ _ _ _ => pg_name (i := 7) nd rfl (Or.inl rfl)) (fun _ _ _ _ _ => (dp_one (dt_not (dt_val (de_callGP d__law_right hgu hr (da_cons (dv 7) da_nil)))))) (fun _ _ _ _ _ => (dv 7))) (de_lst da_nil)) (ds_one (ds_ret de_bl)) ds_nil)
      (ds_one (ds_ret (de_eq hu (de_repr sys hgu hu2 (by rfl) m_repr (da_cons (de_gi (by rfl) g_SHAPE_VERTICES) da_nil)) de_str))))))), ?_⟩
    refine ⟨.ref b, rfl, b, ks, rfl, hS, hlen, fun H0 wa la sm0 ok nw nl => zone_in (m := 6) ok q ?_⟩
    have z0 : (0 : Nat) ≤ 1000000 := by decide
    have z1 : (1 : Nat) ≤ 1000000 := by decide
    have z2 : (2 : Nat) ≤ 1000000 := by decide
    refine ⟨_, rfl, z0, _, rfl, z1, by decide, by decide, by decide, by decide, _, rfl, z0, _, rfl, z1, by decide, by decide, by decide, by decide, ?_⟩
    refine ⟨_, rfl, z0, _, rfl, z1, by decide, by decide, by decide, by decide, _, rfl, z0, _, rfl, z1, _, rfl, z1, by decide, ?_⟩
    refine ⟨_, rfl, z0, _, rfl, z1, by decide, by decide, by decide, by decide, _, rfl, z1, _, rfl, z0, _, rfl, z0, _, rfl, z0, _, rfl, z0, _, rfl, z1, _, rfl, z2, _, rfl, by show 11 ≤ 1000000; decide, fun a2 => ?_⟩
    refine ⟨by decide, by decide, rfl, ?_⟩
    refine ⟨fun k s ρ => ∃ (a : Addr) (L : List PyData) (x3 x4 x5 x6 : Sl), ρ = [.raw (.ref b), .raw (.ref wa), .ow a L, x3, x4, x5, x6, .no] ∧ (∀ x ∈ L, CvS x) ∧ L.length ≤ 11 + 12 * k, ⟨a2, _, _, _, _, _, rfl, fun x hx => ?_, Nat.le_refl 11⟩, ?_, ?_⟩
    · simp only [List.mem_cons, List.not_mem_nil, or_false] at hx
      rcases hx with rfl | rfl | rfl | rfl | rfl | rfl | rfl | rfl | rfl | rfl | rfl
      all_goals exact ⟨by decide +kernel, by decide +kernel, by decide +kernel⟩
    · rintro k d s ρ hd ⟨a, L, x3, x4, x5, x6, rfl, hL, lL⟩
      obtain ⟨hk, rfl⟩ := rngD_get hd
      have hk : k < 4 := hk
      obtain ⟨m, ⟨hm1, hm2⟩, hat⟩ := two_s k
      refine ⟨_, rfl, z2, by show (0 : Int) < 2; decide, _, hat, m, rfl, hm1, hm2, fun f1 hF1 l1 => ⟨.inl rfl, 24, rfl, by decide, by decide, fun f2 hB2 l2 => ⟨.inl rfl, _, rfl, z2, rfl, ?_⟩⟩⟩
      refine ⟨fun j s ρ => ∃ (a : Addr) (L : List PyData) (x4 x5 x6 : Sl), ρ = [.raw (.ref b), .raw (.ref wa), .ow a L, .im (.int (0 + k)), x4, x5, x6, .no] ∧ (∀ x ∈ L, CvS x) ∧ L.length ≤ 11 + 12 * k + 6 * j, ⟨a, L, _, _, _, rfl, hL, lL⟩, ?_, ?_⟩
      · rintro j d s ρ hd ⟨a, L, x4, x5, x6, rfl, hL, lL⟩
        have inn : ∃ fs, Forest fs ∧ fs.length ≤ 24 ∧ d = tupN fs ∧ j < 2 := by
          match j, hd with
          | 0, hd => exact ⟨f1, hF1, by omega, (Option.some.inj hd).symm, by decide⟩
          | 1, hd => exact ⟨f2, hB2.forest, l2, (Option.some.inj hd).symm, by decide⟩
          | j + 2, hd => cases hd
        obtain ⟨fs, hF, lf, rfl, hj⟩ := inn
        refine ⟨fs.length, by rw [← nD_len]; rfl, hF.pos, by omega, fun r hr => ⟨.inl rfl, fs, r, rfl, hF, hr, by have := wt_leS (fs := fs) r; omega, fun d hN hw => ⟨.inl rfl, ?_⟩⟩⟩
        have wd : wgt d ≤ 24 := by have := wt_leS (fs := fs) r; omega
        have dd := dph_wgt d
        have od := nst_okl hN
        obtain ⟨ds, rfl, hs⟩ := nst_tup hN
        have ww : 1 + wgts ds ≤ 24 := wd
        have lw := wgts_len ds
        have dw : 1 + dphs ds ≤ 24 := Nat.le_trans dd wd
        refine ⟨.tuple ds, rfl, od, by omega, by omega, fun e e1 e2 e3 => ⟨.inl rfl, ?_⟩⟩
        refine ⟨e, rfl, e1, by omega, by omega, fun e' g1 g2 g3 => ⟨.inl rfl, .tuple ds, rfl, od, by omega, by omega, fun d' h1 h2 h3 => ⟨.inl rfl, _, rfl, z1, ?_⟩⟩⟩
        refine ⟨by decide, by decide, by show ds.length ≤ 1000; omega, _, rfl, by show 6 ≤ 1000000; decide, by show L.length + 6 ≤ 1000000; omega, fun a' => ?_⟩
        refine ⟨a', _, _, _, _, rfl, fun x hx => ?_, by rw [List.length_append]; show L.length + 6 ≤ _; omega⟩
        rcases List.mem_append.mp hx with hx | hx
        · exact hL x hx
        · simp only [List.mem_cons, List.not_mem_nil, or_false] at hx
          rcases hx with rfl | rfl | rfl | rfl | rfl | rfl
          · exact ⟨od, by omega, by omega⟩
          · exact ⟨e1, by omega, by omega⟩
          · exact ⟨g1, by omega, by omega⟩
          · exact ⟨h1, by omega, by omega⟩
          · refine ⟨?_, ?_, ?_⟩
            · show (okl (.tuple ds) && okls []) = true
              rw [od]
              rfl
            · show 1 + max (dph (.tuple ds)) 0 ≤ _
              omega
            · show 1 + (wgt (.tuple ds) + 0) ≤ _
              omega
          · have od : okls ds = true := od
            refine ⟨?_, ?_, ?_⟩
            · show okls (ds ++ (ds ++ [])) = true
              rw [okls_app, okls_app, od]
              rfl
            · show 1 + dphs (ds ++ (ds ++ [])) ≤ _
              rw [List.append_nil, dphs_app]
              omega
            · show 1 + wgts (ds ++ (ds ++ [])) ≤ _
              rw [List.append_nil, wgts_app]
              omega
      · rintro s ρ ⟨a, L, x4, x5, x6, rfl, hL, lL⟩
        have lL : L.length ≤ 11 + 12 * k + 6 * 2 := lL
        exact ⟨a, L, _, _, _, _, rfl, hL, by omega⟩
    · rintro s ρ ⟨a, L, x3, x4, x5, x6, rfl, hL, lL⟩
      have lL : L.length ≤ 11 + 12 * 4 := lL
      refine ⟨rfl, rfl, fun r e he => ⟨.inl rfl, _, rfl, z1, by show L.length + 1 ≤ _; omega, ?_⟩⟩
      have hX : ∀ x ∈ L ++ [e], CvS x := fun x hx => by
        rcases List.mem_append.mp hx with hx | hx
        · exact hL x hx
        · rw [List.mem_singleton.mp hx]
          obtain ⟨h1, h2, h3⟩ := odds_S e (List.mem_of_getElem? he)
          exact ⟨h1, by omega, by omega⟩
      refine lcR_fun (f := fun _ => none) (fun d hm C hC => ?_) (by rw [List.length_append]; show 0 + (L.length + 1) ≤ _; omega) ?_
      · have h := hX d hm
        refine ⟨d, rfl, h.ok, h.dp, h.wg, .inl rfl, ?_⟩
        show if (!true) = true then _ else _
        rw [if_neg (by decide)]
        exact hC
      have eN : (L ++ [e]).filterMap (fun _ : PyData => (none : Option PyData)) = [] := by
        rw [List.filterMap_eq_nil_iff]
        exact fun _ _ => rfl
      rw [eN]
      refine ⟨_, rfl, z0, ?_⟩
      have sw := (Sw.nat (x := 60) (by decide)).fits (by decide) (by decide)
      refine ⟨sw.1, sw.2.1, sw.2.2, ?_⟩
      show Rv.im (.bool (decide ((PyData.int 60).shown = Str.ofString "60"))) = Rv.im (.bool true)
      rw [decide_eq_true (by decide +kernel)]
end
end Lf
namespace Lf
open PySem PySem.Spec PyProof.Rows L2
def initS (i : Nat) : Stmt := match topS i with
  | .ClassDef (body := b) .. => b.getD 0 (.Pass ⟨0, 0, 0, 0⟩)
  | _ => .Pass ⟨0, 0, 0, 0⟩
theorem all_mk {l : PySem.W.OpenLaw} {w : World} {K : PySem.W.Frag} {h : Heap} {mg : Str → Option Value} {fa : Addr} (X : K.In h) (G : h.Ns mainGlobals mg) (hfa : mg "law" = some (.ref fa))
    {f_nest_weight : Addr} {odF_nest_weight anF_nest_weight : Option Addr} {slF_nest_weight : Array (Option Value)} {ocF_nest_weight kVF_nest_weight dcF_nest_weight pmF_nest_weight cdF_nest_weight ctF_nest_weight : Value} (aF_nest_weight : PySem.W.nsIn K mainGlobals "nest_weight" = some (some (.ref f_nest_weight))) (lF_nest_weight : K.lookup f_nest_weight = some ⟨ocF_nest_weight, odF_nest_weight, .func (PySem.W.fnOf "nest_weight" "nest_weight" (defArgs (topS 9)) (defBody (topS 9)) (defScope (topS 9)) .none kVF_nest_weight dcF_nest_weight pmF_nest_weight anF_nest_weight cdF_nest_weight ctF_nest_weight), slF_nest_weight⟩) (cF_nest_weight : PySem.W.codeIn K cdF_nest_weight "nest_weight" = true) (kF_nest_weight : PySem.W.keepIn K (.ref f_nest_weight) = true)
    {f_place : Addr} {odF_place anF_place : Option Addr} {slF_place : Array (Option Value)} {ocF_place kVF_place dcF_place pmF_place cdF_place ctF_place : Value} (aF_place : PySem.W.nsIn K mainGlobals "place" = some (some (.ref f_place))) (lF_place : K.lookup f_place = some ⟨ocF_place, odF_place, .func (PySem.W.fnOf "place" "place" (defArgs (topS 10)) (defBody (topS 10)) (defScope (topS 10)) .none kVF_place dcF_place pmF_place anF_place cdF_place ctF_place), slF_place⟩) (cF_place : PySem.W.codeIn K cdF_place "place" = true) (kF_place : PySem.W.keepIn K (.ref f_place) = true)
    {f_is_ordered : Addr} {odF_is_ordered anF_is_ordered : Option Addr} {slF_is_ordered : Array (Option Value)} {ocF_is_ordered kVF_is_ordered dcF_is_ordered pmF_is_ordered cdF_is_ordered ctF_is_ordered : Value} (aF_is_ordered : PySem.W.nsIn K mainGlobals "is_ordered" = some (some (.ref f_is_ordered))) (lF_is_ordered : K.lookup f_is_ordered = some ⟨ocF_is_ordered, odF_is_ordered, .func (PySem.W.fnOf "is_ordered" "is_ordered" (defArgs (topS 11)) (defBody (topS 11)) (defScope (topS 11)) .none kVF_is_ordered dcF_is_ordered pmF_is_ordered anF_is_ordered cdF_is_ordered ctF_is_ordered), slF_is_ordered⟩) (cF_is_ordered : PySem.W.codeIn K cdF_is_ordered "is_ordered" = true) (kF_is_ordered : PySem.W.keepIn K (.ref f_is_ordered) = true)
    {f_is_small_shape : Addr} {odF_is_small_shape anF_is_small_shape : Option Addr} {slF_is_small_shape : Array (Option Value)} {ocF_is_small_shape kVF_is_small_shape dcF_is_small_shape pmF_is_small_shape cdF_is_small_shape ctF_is_small_shape : Value} (aF_is_small_shape : PySem.W.nsIn K mainGlobals "is_small_shape" = some (some (.ref f_is_small_shape))) (lF_is_small_shape : K.lookup f_is_small_shape = some ⟨ocF_is_small_shape, odF_is_small_shape, .func (PySem.W.fnOf "is_small_shape" "is_small_shape" (defArgs (topS 12)) (defBody (topS 12)) (defScope (topS 12)) .none kVF_is_small_shape dcF_is_small_shape pmF_is_small_shape anF_is_small_shape cdF_is_small_shape ctF_is_small_shape), slF_is_small_shape⟩) (cF_is_small_shape : PySem.W.codeIn K cdF_is_small_shape "is_small_shape" = true) (kF_is_small_shape : PySem.W.keepIn K (.ref f_is_small_shape) = true)
    {f_is_shape : Addr} {odF_is_shape anF_is_shape : Option Addr} {slF_is_shape : Array (Option Value)} {ocF_is_shape kVF_is_shape dcF_is_shape pmF_is_shape cdF_is_shape ctF_is_shape : Value} (aF_is_shape : PySem.W.nsIn K mainGlobals "is_shape" = some (some (.ref f_is_shape))) (lF_is_shape : K.lookup f_is_shape = some ⟨ocF_is_shape, odF_is_shape, .func (PySem.W.fnOf "is_shape" "is_shape" (defArgs (topS 13)) (defBody (topS 13)) (defScope (topS 13)) .none kVF_is_shape dcF_is_shape pmF_is_shape anF_is_shape cdF_is_shape ctF_is_shape), slF_is_shape⟩) (cF_is_shape : PySem.W.codeIn K cdF_is_shape "is_shape" = true) (kF_is_shape : PySem.W.keepIn K (.ref f_is_shape) = true)
    {f_check_shape : Addr} {odF_check_shape anF_check_shape : Option Addr} {slF_check_shape : Array (Option Value)} {ocF_check_shape kVF_check_shape dcF_check_shape pmF_check_shape cdF_check_shape ctF_check_shape : Value} (aF_check_shape : PySem.W.nsIn K mainGlobals "check_shape" = some (some (.ref f_check_shape))) (lF_check_shape : K.lookup f_check_shape = some ⟨ocF_check_shape, odF_check_shape, .func (PySem.W.fnOf "check_shape" "check_shape" (defArgs (topS 14)) (defBody (topS 14)) (defScope (topS 14)) .none kVF_check_shape dcF_check_shape pmF_check_shape anF_check_shape cdF_check_shape ctF_check_shape), slF_check_shape⟩) (cF_check_shape : PySem.W.codeIn K cdF_check_shape "check_shape" = true) (kF_check_shape : PySem.W.keepIn K (.ref f_check_shape) = true)
    {f_shape_weight : Addr} {odF_shape_weight anF_shape_weight : Option Addr} {slF_shape_weight : Array (Option Value)} {ocF_shape_weight kVF_shape_weight dcF_shape_weight pmF_shape_weight cdF_shape_weight ctF_shape_weight : Value} (aF_shape_weight : PySem.W.nsIn K mainGlobals "shape_weight" = some (some (.ref f_shape_weight))) (lF_shape_weight : K.lookup f_shape_weight = some ⟨ocF_shape_weight, odF_shape_weight, .func (PySem.W.fnOf "shape_weight" "shape_weight" (defArgs (topS 15)) (defBody (topS 15)) (defScope (topS 15)) .none kVF_shape_weight dcF_shape_weight pmF_shape_weight anF_shape_weight cdF_shape_weight ctF_shape_weight), slF_shape_weight⟩) (cF_shape_weight : PySem.W.codeIn K cdF_shape_weight "shape_weight" = true) (kF_shape_weight : PySem.W.keepIn K (.ref f_shape_weight) = true)
    {f_has_no_heavy : Addr} {odF_has_no_heavy anF_has_no_heavy : Option Addr} {slF_has_no_heavy : Array (Option Value)} {ocF_has_no_heavy kVF_has_no_heavy dcF_has_no_heavy pmF_has_no_heavy cdF_has_no_heavy ctF_has_no_heavy : Value} (aF_has_no_heavy : PySem.W.nsIn K mainGlobals "has_no_heavy" = some (some (.ref f_has_no_heavy))) (lF_has_no_heavy : K.lookup f_has_no_heavy = some ⟨ocF_has_no_heavy, odF_has_no_heavy, .func (PySem.W.fnOf "has_no_heavy" "has_no_heavy" (defArgs (topS 16)) (defBody (topS 16)) (defScope (topS 16)) .none kVF_has_no_heavy dcF_has_no_heavy pmF_has_no_heavy anF_has_no_heavy cdF_has_no_heavy ctF_has_no_heavy), slF_has_no_heavy⟩) (cF_has_no_heavy : PySem.W.codeIn K cdF_has_no_heavy "has_no_heavy" = true) (kF_has_no_heavy : PySem.W.keepIn K (.ref f_has_no_heavy) = true)
    {f_is_built_shape : Addr} {odF_is_built_shape anF_is_built_shape : Option Addr} {slF_is_built_shape : Array (Option Value)} {ocF_is_built_shape kVF_is_built_shape dcF_is_built_shape pmF_is_built_shape cdF_is_built_shape ctF_is_built_shape : Value} (aF_is_built_shape : PySem.W.nsIn K mainGlobals "is_built_shape" = some (some (.ref f_is_built_shape))) (lF_is_built_shape : K.lookup f_is_built_shape = some ⟨ocF_is_built_shape, odF_is_built_shape, .func (PySem.W.fnOf "is_built_shape" "is_built_shape" (defArgs (topS 17)) (defBody (topS 17)) (defScope (topS 17)) .none kVF_is_built_shape dcF_is_built_shape pmF_is_built_shape anF_is_built_shape cdF_is_built_shape ctF_is_built_shape), slF_is_built_shape⟩) (cF_is_built_shape : PySem.W.codeIn K cdF_is_built_shape "is_built_shape" = true) (kF_is_built_shape : PySem.W.keepIn K (.ref f_is_built_shape) = true)
    {f__law_grain : Addr} {odF__law_grain anF__law_grain : Option Addr} {slF__law_grain : Array (Option Value)} {ocF__law_grain kVF__law_grain dcF__law_grain pmF__law_grain cdF__law_grain ctF__law_grain : Value} (aF__law_grain : PySem.W.nsIn K mainGlobals "_law_grain" = some (some (.ref f__law_grain))) (lF__law_grain : K.lookup f__law_grain = some ⟨ocF__law_grain, odF__law_grain, .func (PySem.W.fnOf "_law_grain" "_law_grain" (defArgs (topS 19)) (defBody (topS 19)) (defScope (topS 19)) .none kVF__law_grain dcF__law_grain pmF__law_grain anF__law_grain cdF__law_grain ctF__law_grain), slF__law_grain⟩) (cF__law_grain : PySem.W.codeIn K cdF__law_grain "_law_grain" = true) (kF__law_grain : PySem.W.keepIn K (.ref f__law_grain) = true)
    {f__law_next : Addr} {odF__law_next anF__law_next : Option Addr} {slF__law_next : Array (Option Value)} {ocF__law_next kVF__law_next dcF__law_next pmF__law_next cdF__law_next ctF__law_next : Value} (aF__law_next : PySem.W.nsIn K mainGlobals "_law_next" = some (some (.ref f__law_next))) (lF__law_next : K.lookup f__law_next = some ⟨ocF__law_next, odF__law_next, .func (PySem.W.fnOf "_law_next" "_law_next" (defArgs (topS 20)) (defBody (topS 20)) (defScope (topS 20)) .none kVF__law_next dcF__law_next pmF__law_next anF__law_next cdF__law_next ctF__law_next), slF__law_next⟩) (cF__law_next : PySem.W.codeIn K cdF__law_next "_law_next" = true) (kF__law_next : PySem.W.keepIn K (.ref f__law_next) = true)
    {f__law_forest : Addr} {odF__law_forest anF__law_forest : Option Addr} {slF__law_forest : Array (Option Value)} {ocF__law_forest kVF__law_forest dcF__law_forest pmF__law_forest cdF__law_forest ctF__law_forest : Value} (aF__law_forest : PySem.W.nsIn K mainGlobals "_law_forest" = some (some (.ref f__law_forest))) (lF__law_forest : K.lookup f__law_forest = some ⟨ocF__law_forest, odF__law_forest, .func (PySem.W.fnOf "_law_forest" "_law_forest" (defArgs (topS 22)) (defBody (topS 22)) (defScope (topS 22)) .none kVF__law_forest dcF__law_forest pmF__law_forest anF__law_forest cdF__law_forest ctF__law_forest), slF__law_forest⟩) (cF__law_forest : PySem.W.codeIn K cdF__law_forest "_law_forest" = true) (kF__law_forest : PySem.W.keepIn K (.ref f__law_forest) = true)
    {f__law_weights : Addr} {odF__law_weights anF__law_weights : Option Addr} {slF__law_weights : Array (Option Value)} {ocF__law_weights kVF__law_weights dcF__law_weights pmF__law_weights cdF__law_weights ctF__law_weights : Value} (aF__law_weights : PySem.W.nsIn K mainGlobals "_law_weights" = some (some (.ref f__law_weights))) (lF__law_weights : K.lookup f__law_weights = some ⟨ocF__law_weights, odF__law_weights, .func (PySem.W.fnOf "_law_weights" "_law_weights" (defArgs (topS 23)) (defBody (topS 23)) (defScope (topS 23)) .none kVF__law_weights dcF__law_weights pmF__law_weights anF__law_weights cdF__law_weights ctF__law_weights), slF__law_weights⟩) (cF__law_weights : PySem.W.codeIn K cdF__law_weights "_law_weights" = true) (kF__law_weights : PySem.W.keepIn K (.ref f__law_weights) = true)
    {f__law_built : Addr} {odF__law_built anF__law_built : Option Addr} {slF__law_built : Array (Option Value)} {ocF__law_built kVF__law_built dcF__law_built pmF__law_built cdF__law_built ctF__law_built : Value} (aF__law_built : PySem.W.nsIn K mainGlobals "_law_built" = some (some (.ref f__law_built))) (lF__law_built : K.lookup f__law_built = some ⟨ocF__law_built, odF__law_built, .func (PySem.W.fnOf "_law_built" "_law_built" (defArgs (topS 24)) (defBody (topS 24)) (defScope (topS 24)) .none kVF__law_built dcF__law_built pmF__law_built anF__law_built cdF__law_built ctF__law_built), slF__law_built⟩) (cF__law_built : PySem.W.codeIn K cdF__law_built "_law_built" = true) (kF__law_built : PySem.W.keepIn K (.ref f__law_built) = true)
    {f__law_key : Addr} {odF__law_key anF__law_key : Option Addr} {slF__law_key : Array (Option Value)} {ocF__law_key kVF__law_key dcF__law_key pmF__law_key cdF__law_key ctF__law_key : Value} (aF__law_key : PySem.W.nsIn K mainGlobals "_law_key" = some (some (.ref f__law_key))) (lF__law_key : K.lookup f__law_key = some ⟨ocF__law_key, odF__law_key, .func (PySem.W.fnOf "_law_key" "_law_key" (defArgs (topS 25)) (defBody (topS 25)) (defScope (topS 25)) .none kVF__law_key dcF__law_key pmF__law_key anF__law_key cdF__law_key ctF__law_key), slF__law_key⟩) (cF__law_key : PySem.W.codeIn K cdF__law_key "_law_key" = true) (kF__law_key : PySem.W.keepIn K (.ref f__law_key) = true)
    {f__law_shape : Addr} {odF__law_shape anF__law_shape : Option Addr} {slF__law_shape : Array (Option Value)} {ocF__law_shape kVF__law_shape dcF__law_shape pmF__law_shape cdF__law_shape ctF__law_shape : Value} (aF__law_shape : PySem.W.nsIn K mainGlobals "_law_shape" = some (some (.ref f__law_shape))) (lF__law_shape : K.lookup f__law_shape = some ⟨ocF__law_shape, odF__law_shape, .func (PySem.W.fnOf "_law_shape" "_law_shape" (defArgs (topS 26)) (defBody (topS 26)) (defScope (topS 26)) .none kVF__law_shape dcF__law_shape pmF__law_shape anF__law_shape cdF__law_shape ctF__law_shape), slF__law_shape⟩) (cF__law_shape : PySem.W.codeIn K cdF__law_shape "_law_shape" = true) (kF__law_shape : PySem.W.keepIn K (.ref f__law_shape) = true)
    {f__law_is_nested : Addr} {odF__law_is_nested anF__law_is_nested : Option Addr} {slF__law_is_nested : Array (Option Value)} {ocF__law_is_nested kVF__law_is_nested dcF__law_is_nested pmF__law_is_nested cdF__law_is_nested ctF__law_is_nested : Value} (aF__law_is_nested : PySem.W.nsIn K mainGlobals "_law_is_nested" = some (some (.ref f__law_is_nested))) (lF__law_is_nested : K.lookup f__law_is_nested = some ⟨ocF__law_is_nested, odF__law_is_nested, .func (PySem.W.fnOf "_law_is_nested" "_law_is_nested" (defArgs (topS 27)) (defBody (topS 27)) (defScope (topS 27)) .none kVF__law_is_nested dcF__law_is_nested pmF__law_is_nested anF__law_is_nested cdF__law_is_nested ctF__law_is_nested), slF__law_is_nested⟩) (cF__law_is_nested : PySem.W.codeIn K cdF__law_is_nested "_law_is_nested" = true) (kF__law_is_nested : PySem.W.keepIn K (.ref f__law_is_nested) = true)
    {f__law_is_sorted : Addr} {odF__law_is_sorted anF__law_is_sorted : Option Addr} {slF__law_is_sorted : Array (Option Value)} {ocF__law_is_sorted kVF__law_is_sorted dcF__law_is_sorted pmF__law_is_sorted cdF__law_is_sorted ctF__law_is_sorted : Value} (aF__law_is_sorted : PySem.W.nsIn K mainGlobals "_law_is_sorted" = some (some (.ref f__law_is_sorted))) (lF__law_is_sorted : K.lookup f__law_is_sorted = some ⟨ocF__law_is_sorted, odF__law_is_sorted, .func (PySem.W.fnOf "_law_is_sorted" "_law_is_sorted" (defArgs (topS 28)) (defBody (topS 28)) (defScope (topS 28)) .none kVF__law_is_sorted dcF__law_is_sorted pmF__law_is_sorted anF__law_is_sorted cdF__law_is_sorted ctF__law_is_sorted), slF__law_is_sorted⟩) (cF__law_is_sorted : PySem.W.codeIn K cdF__law_is_sorted "_law_is_sorted" = true) (kF__law_is_sorted : PySem.W.keepIn K (.ref f__law_is_sorted) = true)
    {f__law_is_shape : Addr} {odF__law_is_shape anF__law_is_shape : Option Addr} {slF__law_is_shape : Array (Option Value)} {ocF__law_is_shape kVF__law_is_shape dcF__law_is_shape pmF__law_is_shape cdF__law_is_shape ctF__law_is_shape : Value} (aF__law_is_shape : PySem.W.nsIn K mainGlobals "_law_is_shape" = some (some (.ref f__law_is_shape))) (lF__law_is_shape : K.lookup f__law_is_shape = some ⟨ocF__law_is_shape, odF__law_is_shape, .func (PySem.W.fnOf "_law_is_shape" "_law_is_shape" (defArgs (topS 29)) (defBody (topS 29)) (defScope (topS 29)) .none kVF__law_is_shape dcF__law_is_shape pmF__law_is_shape anF__law_is_shape cdF__law_is_shape ctF__law_is_shape), slF__law_is_shape⟩) (cF__law_is_shape : PySem.W.codeIn K cdF__law_is_shape "_law_is_shape" = true) (kF__law_is_shape : PySem.W.keepIn K (.ref f__law_is_shape) = true)
    {f__law_is_light : Addr} {odF__law_is_light anF__law_is_light : Option Addr} {slF__law_is_light : Array (Option Value)} {ocF__law_is_light kVF__law_is_light dcF__law_is_light pmF__law_is_light cdF__law_is_light ctF__law_is_light : Value} (aF__law_is_light : PySem.W.nsIn K mainGlobals "_law_is_light" = some (some (.ref f__law_is_light))) (lF__law_is_light : K.lookup f__law_is_light = some ⟨ocF__law_is_light, odF__law_is_light, .func (PySem.W.fnOf "_law_is_light" "_law_is_light" (defArgs (topS 30)) (defBody (topS 30)) (defScope (topS 30)) .none kVF__law_is_light dcF__law_is_light pmF__law_is_light anF__law_is_light cdF__law_is_light ctF__law_is_light), slF__law_is_light⟩) (cF__law_is_light : PySem.W.codeIn K cdF__law_is_light "_law_is_light" = true) (kF__law_is_light : PySem.W.keepIn K (.ref f__law_is_light) = true)
    {f__law_odd : Addr} {odF__law_odd anF__law_odd : Option Addr} {slF__law_odd : Array (Option Value)} {ocF__law_odd kVF__law_odd dcF__law_odd pmF__law_odd cdF__law_odd ctF__law_odd : Value} (aF__law_odd : PySem.W.nsIn K mainGlobals "_law_odd" = some (some (.ref f__law_odd))) (lF__law_odd : K.lookup f__law_odd = some ⟨ocF__law_odd, odF__law_odd, .func (PySem.W.fnOf "_law_odd" "_law_odd" (defArgs (topS 31)) (defBody (topS 31)) (defScope (topS 31)) .none kVF__law_odd dcF__law_odd pmF__law_odd anF__law_odd cdF__law_odd ctF__law_odd), slF__law_odd⟩) (cF__law_odd : PySem.W.codeIn K cdF__law_odd "_law_odd" = true) (kF__law_odd : PySem.W.keepIn K (.ref f__law_odd) = true)
    {f__law_bent : Addr} {odF__law_bent anF__law_bent : Option Addr} {slF__law_bent : Array (Option Value)} {ocF__law_bent kVF__law_bent dcF__law_bent pmF__law_bent cdF__law_bent ctF__law_bent : Value} (aF__law_bent : PySem.W.nsIn K mainGlobals "_law_bent" = some (some (.ref f__law_bent))) (lF__law_bent : K.lookup f__law_bent = some ⟨ocF__law_bent, odF__law_bent, .func (PySem.W.fnOf "_law_bent" "_law_bent" (defArgs (topS 32)) (defBody (topS 32)) (defScope (topS 32)) .none kVF__law_bent dcF__law_bent pmF__law_bent anF__law_bent cdF__law_bent ctF__law_bent), slF__law_bent⟩) (cF__law_bent : PySem.W.codeIn K cdF__law_bent "_law_bent" = true) (kF__law_bent : PySem.W.keepIn K (.ref f__law_bent) = true)
    {f__law_weight : Addr} {odF__law_weight anF__law_weight : Option Addr} {slF__law_weight : Array (Option Value)} {ocF__law_weight kVF__law_weight dcF__law_weight pmF__law_weight cdF__law_weight ctF__law_weight : Value} (aF__law_weight : PySem.W.nsIn K mainGlobals "_law_weight" = some (some (.ref f__law_weight))) (lF__law_weight : K.lookup f__law_weight = some ⟨ocF__law_weight, odF__law_weight, .func (PySem.W.fnOf "_law_weight" "_law_weight" (defArgs (topS 33)) (defBody (topS 33)) (defScope (topS 33)) .none kVF__law_weight dcF__law_weight pmF__law_weight anF__law_weight cdF__law_weight ctF__law_weight), slF__law_weight⟩) (cF__law_weight : PySem.W.codeIn K cdF__law_weight "_law_weight" = true) (kF__law_weight : PySem.W.keepIn K (.ref f__law_weight) = true)
    {f__law_right : Addr} {odF__law_right anF__law_right : Option Addr} {slF__law_right : Array (Option Value)} {ocF__law_right kVF__law_right dcF__law_right pmF__law_right cdF__law_right ctF__law_right : Value} (aF__law_right : PySem.W.nsIn K mainGlobals "_law_right" = some (some (.ref f__law_right))) (lF__law_right : K.lookup f__law_right = some ⟨ocF__law_right, odF__law_right, .func (PySem.W.fnOf "_law_right" "_law_right" (defArgs (topS 34)) (defBody (topS 34)) (defScope (topS 34)) .none kVF__law_right dcF__law_right pmF__law_right anF__law_right cdF__law_right ctF__law_right), slF__law_right⟩) (cF__law_right : PySem.W.codeIn K cdF__law_right "_law_right" = true) (kF__law_right : PySem.W.keepIn K (.ref f__law_right) = true)
    {f_law : Addr} {odF_law anF_law : Option Addr} {slF_law : Array (Option Value)} {ocF_law kVF_law dcF_law pmF_law cdF_law ctF_law : Value} (aF_law : PySem.W.nsIn K mainGlobals "law" = some (some (.ref f_law))) (lF_law : K.lookup f_law = some ⟨ocF_law, odF_law, .func (PySem.W.fnOf "law" "law" (defArgs (topS 35)) (defBody (topS 35)) (defScope (topS 35)) .none kVF_law dcF_law pmF_law anF_law cdF_law ctF_law), slF_law⟩) (cF_law : PySem.W.codeIn K cdF_law "law" = true) (kF_law : PySem.W.keepIn K (.ref f_law) = true)
    (z_abs : PySem.W.nsIn K mainGlobals "abs" = some none)
    (z_all : PySem.W.nsIn K mainGlobals "all" = some none)
    (z_int : PySem.W.nsIn K mainGlobals "int" = some none)
    (z_isinstance : PySem.W.nsIn K mainGlobals "isinstance" = some none)
    (z_len : PySem.W.nsIn K mainGlobals "len" = some none)
    (z_list : PySem.W.nsIn K mainGlobals "list" = some none)
    (z_range : PySem.W.nsIn K mainGlobals "range" = some none)
    (z_repr : PySem.W.nsIn K mainGlobals "repr" = some none)
    (z_sorted : PySem.W.nsIn K mainGlobals "sorted" = some none)
    (z_sum : PySem.W.nsIn K mainGlobals "sum" = some none)
    (z_tuple : PySem.W.nsIn K mainGlobals "tuple" = some none)
    {C_BadShape : Addr} (cg_BadShape : PySem.W.nsIn K mainGlobals "BadShape" = some (some (.ref C_BadShape)))
    {C_LinkError : Addr} (cg_LinkError : PySem.W.nsIn K mainGlobals "LinkError" = some (some (.ref C_LinkError)))
    {C_BadCount : Addr} (cg_BadCount : PySem.W.nsIn K mainGlobals "BadCount" = some (some (.ref C_BadCount)))
    {C_NoIndex : Addr} (cg_NoIndex : PySem.W.nsIn K mainGlobals "NoIndex" = some (some (.ref C_NoIndex)))
    {C_NoVertex : Addr} (cg_NoVertex : PySem.W.nsIn K mainGlobals "NoVertex" = some (some (.ref C_NoVertex)))
    {C_TooMany : Addr} (cg_TooMany : PySem.W.nsIn K mainGlobals "TooMany" = some (some (.ref C_TooMany)))
    (q0_BadShape : PySem.W.excIn K C_BadShape [.type "ValueError", .type "Exception", .type "BaseException", .type "object"] "ValueError.__new__" = true) (eC_BadShape : PySem.W.subIn K (.ref C_BadShape) (.type "BaseException") = some true) (tC_BadShape : PySem.W.typeIn K (.ref C_BadShape) = some (.type "type")) (kC_BadShape : PySem.W.keepIn K (.ref C_BadShape) = true)
    (big_CA : cauB K C_BadShape C_LinkError C_BadCount C_NoIndex C_NoVertex = true)
    (big_CB : cauB K C_BadShape C_LinkError C_BadCount C_NoIndex C_TooMany = true)
    {tc_SHAPE_VERTICES : Tok} (gc_SHAPE_VERTICES : PySem.W.nsIn K mainGlobals "SHAPE_VERTICES" = some (some (.int 60 tc_SHAPE_VERTICES)))
    : ∃ fd : FuncData, (∀ (s : Shared) (u : Value), BindsTo s fd ⟨[u], []⟩ [("_law_script", u)]) ∧ ∀ base : Heap, K.In base → base.Ns mainGlobals mg → (∃ o, base.get? sysModules = some o) → RunG l.prog w K mg base 53 fa fd ["_law_script"] (spLaw K) := by
  have e := hfa.symm.trans (PySem.W.mg_of X G aF_law)
  cases e
  have F_nest_weight := fun_mk (st := topS 9) lF_nest_weight cF_nest_weight kF_nest_weight
  have B_nest_weight := F_nest_weight.binds (ps := ["value", "most"]) fun _ _ _ _ _ _ us hl => match us, hl with | [_, _], _ => rfl
  have g_nest_weight := PySem.W.mg_of X G aF_nest_weight
  have M_nest_weight : Mk K mg "nest_weight" (topS 9) ["value", "most"] := ⟨_, _, F_nest_weight, B_nest_weight, g_nest_weight⟩
  have F_place := fun_mk (st := topS 10) lF_place cF_place kF_place
  have B_place := F_place.binds (ps := ["shape"]) fun _ _ _ _ _ _ us hl => match us, hl with | [_], _ => rfl
  have g_place := PySem.W.mg_of X G aF_place
  have M_place : Mk K mg "place" (topS 10) ["shape"] := ⟨_, _, F_place, B_place, g_place⟩
  have F_is_ordered := fun_mk (st := topS 11) lF_is_ordered cF_is_ordered kF_is_ordered
  have B_is_ordered := F_is_ordered.binds (ps := ["shape"]) fun _ _ _ _ _ _ us hl => match us, hl with | [_], _ => rfl
  have g_is_ordered := PySem.W.mg_of X G aF_is_ordered
  have M_is_ordered : Mk K mg "is_ordered" (topS 11) ["shape"] := ⟨_, _, F_is_ordered, B_is_ordered, g_is_ordered⟩
  have F_is_small_shape := fun_mk (st := topS 12) lF_is_small_shape cF_is_small_shape kF_is_small_shape
  have B_is_small_shape := F_is_small_shape.binds (ps := ["value", "most"]) fun _ _ _ _ _ _ us hl => match us, hl with | [_, _], _ => rfl
  have g_is_small_shape := PySem.W.mg_of X G aF_is_small_shape
  have M_is_small_shape : Mk K mg "is_small_shape" (topS 12) ["value", "most"] := ⟨_, _, F_is_small_shape, B_is_small_shape, g_is_small_shape⟩
  have F_is_shape := fun_mk (st := topS 13) lF_is_shape cF_is_shape kF_is_shape
  have B_is_shape := F_is_shape.binds (ps := ["value"]) fun _ _ _ _ _ _ us hl => match us, hl with | [_], _ => rfl
  have g_is_shape := PySem.W.mg_of X G aF_is_shape
  have M_is_shape : Mk K mg "is_shape" (topS 13) ["value"] := ⟨_, _, F_is_shape, B_is_shape, g_is_shape⟩
  have F_check_shape := fun_mk (st := topS 14) lF_check_shape cF_check_shape kF_check_shape
  have B_check_shape := F_check_shape.binds (ps := ["value"]) fun _ _ _ _ _ _ us hl => match us, hl with | [_], _ => rfl
  have g_check_shape := PySem.W.mg_of X G aF_check_shape
  have M_check_shape : Mk K mg "check_shape" (topS 14) ["value"] := ⟨_, _, F_check_shape, B_check_shape, g_check_shape⟩
  have F_shape_weight := fun_mk (st := topS 15) lF_shape_weight cF_shape_weight kF_shape_weight
  have B_shape_weight := F_shape_weight.binds (ps := ["value"]) fun _ _ _ _ _ _ us hl => match us, hl with | [_], _ => rfl
  have g_shape_weight := PySem.W.mg_of X G aF_shape_weight
  have M_shape_weight : Mk K mg "shape_weight" (topS 15) ["value"] := ⟨_, _, F_shape_weight, B_shape_weight, g_shape_weight⟩
  have F_has_no_heavy := fun_mk (st := topS 16) lF_has_no_heavy cF_has_no_heavy kF_has_no_heavy
  have B_has_no_heavy := F_has_no_heavy.binds (ps := ["shape"]) fun _ _ _ _ _ _ us hl => match us, hl with | [_], _ => rfl
  have g_has_no_heavy := PySem.W.mg_of X G aF_has_no_heavy
  have M_has_no_heavy : Mk K mg "has_no_heavy" (topS 16) ["shape"] := ⟨_, _, F_has_no_heavy, B_has_no_heavy, g_has_no_heavy⟩
  have F_is_built_shape := fun_mk (st := topS 17) lF_is_built_shape cF_is_built_shape kF_is_built_shape
  have B_is_built_shape := F_is_built_shape.binds (ps := ["value"]) fun _ _ _ _ _ _ us hl => match us, hl with | [_], _ => rfl
  have g_is_built_shape := PySem.W.mg_of X G aF_is_built_shape
  have M_is_built_shape : Mk K mg "is_built_shape" (topS 17) ["value"] := ⟨_, _, F_is_built_shape, B_is_built_shape, g_is_built_shape⟩
  have F__law_grain := fun_mk (st := topS 19) lF__law_grain cF__law_grain kF__law_grain
  have B__law_grain := F__law_grain.binds (ps := ["_law_script"]) fun _ _ _ _ _ _ us hl => match us, hl with | [_], _ => rfl
  have g__law_grain := PySem.W.mg_of X G aF__law_grain
  have M__law_grain : Mk K mg "_law_grain" (topS 19) ["_law_script"] := ⟨_, _, F__law_grain, B__law_grain, g__law_grain⟩
  have F__law_next := fun_mk (st := topS 20) lF__law_next cF__law_next kF__law_next
  have B__law_next := F__law_next.binds (ps := ["_law_grain_here", "_law_many"]) fun _ _ _ _ _ _ us hl => match us, hl with | [_, _], _ => rfl
  have g__law_next := PySem.W.mg_of X G aF__law_next
  have M__law_next : Mk K mg "_law_next" (topS 20) ["_law_grain_here", "_law_many"] := ⟨_, _, F__law_next, B__law_next, g__law_next⟩
  have F__law_forest := fun_mk (st := topS 22) lF__law_forest cF__law_forest kF__law_forest
  have B__law_forest := F__law_forest.binds (ps := ["_law_grain_here", "_law_most"]) fun _ _ _ _ _ _ us hl => match us, hl with | [_, _], _ => rfl
  have g__law_forest := PySem.W.mg_of X G aF__law_forest
  have M__law_forest : Mk K mg "_law_forest" (topS 22) ["_law_grain_here", "_law_most"] := ⟨_, _, F__law_forest, B__law_forest, g__law_forest⟩
  have F__law_weights := fun_mk (st := topS 23) lF__law_weights cF__law_weights kF__law_weights
  have B__law_weights := F__law_weights.binds (ps := ["_law_forest_here"]) fun _ _ _ _ _ _ us hl => match us, hl with | [_], _ => rfl
  have g__law_weights := PySem.W.mg_of X G aF__law_weights
  have M__law_weights : Mk K mg "_law_weights" (topS 23) ["_law_forest_here"] := ⟨_, _, F__law_weights, B__law_weights, g__law_weights⟩
  have F__law_built := fun_mk (st := topS 24) lF__law_built cF__law_built kF__law_built
  have B__law_built := F__law_built.binds (ps := ["_law_grain_here", "_law_most"]) fun _ _ _ _ _ _ us hl => match us, hl with | [_, _], _ => rfl
  have g__law_built := PySem.W.mg_of X G aF__law_built
  have M__law_built : Mk K mg "_law_built" (topS 24) ["_law_grain_here", "_law_most"] := ⟨_, _, F__law_built, B__law_built, g__law_built⟩
  have F__law_key := fun_mk (st := topS 25) lF__law_key cF__law_key kF__law_key
  have B__law_key := F__law_key.binds (ps := ["_law_shape_here"]) fun _ _ _ _ _ _ us hl => match us, hl with | [_], _ => rfl
  have g__law_key := PySem.W.mg_of X G aF__law_key
  have M__law_key : Mk K mg "_law_key" (topS 25) ["_law_shape_here"] := ⟨_, _, F__law_key, B__law_key, g__law_key⟩
  have F__law_shape := fun_mk (st := topS 26) lF__law_shape cF__law_shape kF__law_shape
  have B__law_shape := F__law_shape.binds (ps := ["_law_forest_here", "_law_vertex"]) fun _ _ _ _ _ _ us hl => match us, hl with | [_, _], _ => rfl
  have g__law_shape := PySem.W.mg_of X G aF__law_shape
  have M__law_shape : Mk K mg "_law_shape" (topS 26) ["_law_forest_here", "_law_vertex"] := ⟨_, _, F__law_shape, B__law_shape, g__law_shape⟩
  have F__law_is_nested := fun_mk (st := topS 27) lF__law_is_nested cF__law_is_nested kF__law_is_nested
  have B__law_is_nested := F__law_is_nested.binds (ps := ["_law_value"]) fun _ _ _ _ _ _ us hl => match us, hl with | [_], _ => rfl
  have g__law_is_nested := PySem.W.mg_of X G aF__law_is_nested
  have M__law_is_nested : Mk K mg "_law_is_nested" (topS 27) ["_law_value"] := ⟨_, _, F__law_is_nested, B__law_is_nested, g__law_is_nested⟩
  have F__law_is_sorted := fun_mk (st := topS 28) lF__law_is_sorted cF__law_is_sorted kF__law_is_sorted
  have B__law_is_sorted := F__law_is_sorted.binds (ps := ["_law_key_here"]) fun _ _ _ _ _ _ us hl => match us, hl with | [_], _ => rfl
  have g__law_is_sorted := PySem.W.mg_of X G aF__law_is_sorted
  have M__law_is_sorted : Mk K mg "_law_is_sorted" (topS 28) ["_law_key_here"] := ⟨_, _, F__law_is_sorted, B__law_is_sorted, g__law_is_sorted⟩
  have F__law_is_shape := fun_mk (st := topS 29) lF__law_is_shape cF__law_is_shape kF__law_is_shape
  have B__law_is_shape := F__law_is_shape.binds (ps := ["_law_value", "_law_most"]) fun _ _ _ _ _ _ us hl => match us, hl with | [_, _], _ => rfl
  have g__law_is_shape := PySem.W.mg_of X G aF__law_is_shape
  have M__law_is_shape : Mk K mg "_law_is_shape" (topS 29) ["_law_value", "_law_most"] := ⟨_, _, F__law_is_shape, B__law_is_shape, g__law_is_shape⟩
  have F__law_is_light := fun_mk (st := topS 30) lF__law_is_light cF__law_is_light kF__law_is_light
  have B__law_is_light := F__law_is_light.binds (ps := ["_law_key_here"]) fun _ _ _ _ _ _ us hl => match us, hl with | [_], _ => rfl
  have g__law_is_light := PySem.W.mg_of X G aF__law_is_light
  have M__law_is_light : Mk K mg "_law_is_light" (topS 30) ["_law_key_here"] := ⟨_, _, F__law_is_light, B__law_is_light, g__law_is_light⟩
  have F__law_odd := fun_mk (st := topS 31) lF__law_odd cF__law_odd kF__law_odd
  have B__law_odd := F__law_odd.binds (ps := ["_law_grain_here"]) fun _ _ _ _ _ _ us hl => match us, hl with | [_], _ => rfl
  have g__law_odd := PySem.W.mg_of X G aF__law_odd
  have M__law_odd : Mk K mg "_law_odd" (topS 31) ["_law_grain_here"] := ⟨_, _, F__law_odd, B__law_odd, g__law_odd⟩
  have F__law_bent := fun_mk (st := topS 32) lF__law_bent cF__law_bent kF__law_bent
  have B__law_bent := F__law_bent.binds (ps := ["_law_grain_here", "_law_value"]) fun _ _ _ _ _ _ us hl => match us, hl with | [_, _], _ => rfl
  have g__law_bent := PySem.W.mg_of X G aF__law_bent
  have M__law_bent : Mk K mg "_law_bent" (topS 32) ["_law_grain_here", "_law_value"] := ⟨_, _, F__law_bent, B__law_bent, g__law_bent⟩
  have F__law_weight := fun_mk (st := topS 33) lF__law_weight cF__law_weight kF__law_weight
  have B__law_weight := F__law_weight.binds (ps := ["_law_value"]) fun _ _ _ _ _ _ us hl => match us, hl with | [_], _ => rfl
  have g__law_weight := PySem.W.mg_of X G aF__law_weight
  have M__law_weight : Mk K mg "_law_weight" (topS 33) ["_law_value"] := ⟨_, _, F__law_weight, B__law_weight, g__law_weight⟩
  have F__law_right := fun_mk (st := topS 34) lF__law_right cF__law_right kF__law_right
  have B__law_right := F__law_right.binds (ps := ["_law_value"]) fun _ _ _ _ _ _ us hl => match us, hl with | [_], _ => rfl
  have g__law_right := PySem.W.mg_of X G aF__law_right
  have M__law_right : Mk K mg "_law_right" (topS 34) ["_law_value"] := ⟨_, _, F__law_right, B__law_right, g__law_right⟩
  have F_law := fun_mk (st := topS 35) lF_law cF_law kF_law
  have g_law := PySem.W.mg_of X G aF_law
  have m_abs := PySem.W.mg_none_of X G z_abs
  have m_all := PySem.W.mg_none_of X G z_all
  have m_int := PySem.W.mg_none_of X G z_int
  have m_isinstance := PySem.W.mg_none_of X G z_isinstance
  have m_len := PySem.W.mg_none_of X G z_len
  have m_list := PySem.W.mg_none_of X G z_list
  have m_range := PySem.W.mg_none_of X G z_range
  have m_repr := PySem.W.mg_none_of X G z_repr
  have m_sorted := PySem.W.mg_none_of X G z_sorted
  have m_sum := PySem.W.mg_none_of X G z_sum
  have m_tuple := PySem.W.mg_none_of X G z_tuple
  have g_SHAPE_VERTICES := PySem.W.mg_of X G gc_SHAPE_VERTICES
  have gC_LinkError := PySem.W.mg_of X G cg_LinkError
  have gC_BadCount := PySem.W.mg_of X G cg_BadCount
  have gC_NoIndex := PySem.W.mg_of X G cg_NoIndex
  have gC_NoVertex := PySem.W.mg_of X G cg_NoVertex
  have gC_TooMany := PySem.W.mg_of X G cg_TooMany
  refine ⟨PySem.W.fnOf "law" "law" (defArgs (topS 35)) (defBody (topS 35)) (defScope (topS 35)) .none kVF_law dcF_law pmF_law anF_law cdF_law ctF_law, fun s v => .of_eq rfl, fun base _ _ sys => ?_⟩
  have R_BadShape : Err0 K mg "BadShape" C_BadShape := ⟨q0_BadShape, PySem.W.mg_of X G cg_BadShape, kC_BadShape, eC_BadShape, tC_BadShape⟩
  have CA := cau0_ok (mg := mg) (nm := "BadShape") (n1 := "BadCount") (n2 := "NoIndex") (n3 := "NoVertex") big_CA (PySem.W.mg_of X G cg_BadShape) (PySem.W.mg_of X G cg_LinkError) (PySem.W.mg_of X G cg_BadCount) (PySem.W.mg_of X G cg_NoIndex) (PySem.W.mg_of X G cg_NoVertex)
  have CB := cau0_ok (mg := mg) (nm := "BadShape") (n1 := "BadCount") (n2 := "NoIndex") (n3 := "TooMany") big_CB (PySem.W.mg_of X G cg_BadShape) (PySem.W.mg_of X G cg_LinkError) (PySem.W.mg_of X G cg_BadCount) (PySem.W.mg_of X G cg_NoIndex) (PySem.W.mg_of X G cg_TooMany)
  have d__law_grain := ok_grain (P := l.prog) (w := w) (base := base) M__law_grain m_len m_abs
  have d__law_next := fun wa la => ok_next (P := l.prog) (w := w) (base := base) M__law_next wa la
  have d__law_forest := fun wa la => ok_lforest (P := l.prog) (w := w) (base := base) M__law_forest wa la (d__law_next wa la) m_len m_list m_range m_tuple
  have d__law_weights := ok_lweights (P := l.prog) (w := w) (base := base) M__law_weights m_len m_range
  have d__law_built := fun wa la => ok_gbuilt (P := l.prog) (w := w) (base := base) M__law_built wa la (d__law_next wa la) d__law_weights m_int m_list m_range m_tuple
  have d_nest_weight := ok_nest (P := l.prog) (w := w) (base := base) M_nest_weight m_isinstance m_len m_tuple
  have d_place := ok_place (P := l.prog) (w := w) (base := base) M_place m_sum m_tuple
  have d_is_ordered := ok_ordered (P := l.prog) (w := w) (base := base) M_is_ordered d_place m_all m_sorted 26
  have d_has_no_heavy := ok_noheavy (P := l.prog) (w := w) (base := base) M_has_no_heavy d_nest_weight g_SHAPE_VERTICES m_all m_sum 26
  have d_is_small_shape := ok_small (P := l.prog) (w := w) (base := base) M_is_small_shape d_nest_weight d_is_ordered
  have d_is_shape := ok_isshape (P := l.prog) (w := w) (base := base) M_is_shape d_is_small_shape g_SHAPE_VERTICES
  have d_is_built_shape := ok_isbuilt (P := l.prog) (w := w) (base := base) M_is_built_shape d_is_shape d_has_no_heavy
  have d__law_key := ok_lkey (P := l.prog) (w := w) (base := base) M__law_key m_sum m_tuple 26
  have d__law_is_nested := ok_lnested (P := l.prog) (w := w) (base := base) M__law_is_nested m_isinstance m_tuple 26
  have d__law_is_sorted := ok_lsorted (P := l.prog) (w := w) (base := base) M__law_is_sorted m_len m_range 26
  have d__law_is_light := ok_llight (P := l.prog) (w := w) (base := base) M__law_is_light m_sum 26
  have d__law_is_shape := ok_lisshape (P := l.prog) (w := w) (base := base) M__law_is_shape d__law_is_nested d__law_key d__law_is_sorted
  have d__law_shape := ok_shapeF (P := l.prog) (w := w) (base := base) M__law_shape d__law_key m_len m_range m_sorted m_tuple 24
  have d__law_odd := fun wa la => ok_lodd (P := l.prog) (w := w) (base := base) M__law_odd wa la (d__law_next wa la)
  have d__law_bent := fun wa la => ok_bentS (P := l.prog) (w := w) (base := base) M__law_bent wa la (d__law_next wa la) (d__law_odd wa la) m_isinstance m_len m_list m_tuple 25
  have d__law_weight := ok_lweight (P := l.prog) (w := w) (base := base) M__law_weight CA CB (okX_shape_weight (P := l.prog) (w := w) (base := base) M_shape_weight (okX_check_shape (P := l.prog) (w := w) (base := base) M_check_shape d_is_shape R_BadShape) d_nest_weight g_SHAPE_VERTICES) m_isinstance
  have d__law_right := ok_right (P := l.prog) (w := w) (base := base) M__law_right sys d__law_is_shape d__law_key d__law_is_light d_is_shape d_is_built_shape d__law_weight m_repr
  exact ok_law F_law sys d__law_grain d__law_next d__law_forest d__law_built d__law_odd d__law_bent d__law_shape d__law_right g_SHAPE_VERTICES m_len m_range m_repr
end Lf
open PySem PySem.W PyProof.Rows
set_option maxRecDepth 100000 in
set_option maxHeartbeats 0 in
theorem PySem.Challenge.cw_linkforests_k54_shapes_recognized_holds : PySem.Challenge.rw_linkforests_k54_shapes_recognized.Holds := by
  w_on; o_law; k_head; (case hw => w_witness2)
  k_fill
  refine Lf.walk_g (l := PySem.Challenge.rw_linkforests_k54_shapes_recognized) (n := 63) (k := 53) (x := "_law_script") (sp := Lf.spLaw) rfl (by decide) rfl ⟨rfl, by decide, by decide⟩ (by decide +kernel) (fun w h Y => PySem.W.kIn_of Y) ?F (fun _ _ a ns hl _ hS => ⟨a, ns, rfl, hS, hl, fun _ => rfl⟩)
  case F =>
    intro w mg fa h KX G xl hmg
    refine' Lf.all_mk KX G hmg ?u_aF_nest_weight ?u_lF_nest_weight ?u_cF_nest_weight ?u_kF_nest_weight ?u_aF_place ?u_lF_place ?u_cF_place ?u_kF_place ?u_aF_is_ordered ?u_lF_is_ordered ?u_cF_is_ordered ?u_kF_is_ordered ?u_aF_is_small_shape ?u_lF_is_small_shape ?u_cF_is_small_shape ?u_kF_is_small_shape ?u_aF_is_shape ?u_lF_is_shape ?u_cF_is_shape ?u_kF_is_shape ?u_aF_check_shape ?u_lF_check_shape ?u_cF_check_shape ?u_kF_check_shape ?u_aF_shape_weight ?u_lF_shape_weight ?u_cF_shape_weight ?u_kF_shape_weight ?u_aF_has_no_heavy ?u_lF_has_no_heavy ?u_cF_has_no_heavy ?u_kF_has_no_heavy ?u_aF_is_built_shape ?u_lF_is_built_shape ?u_cF_is_built_shape ?u_kF_is_built_shape ?u_aF__law_grain ?u_lF__law_grain ?u_cF__law_grain ?u_kF__law_grain ?u_aF__law_next ?u_lF__law_next ?u_cF__law_next ?u_kF__law_next ?u_aF__law_forest ?u_lF__law_forest ?u_cF__law_forest ?u_kF__law_forest ?u_aF__law_weights ?u_lF__law_weights ?u_cF__law_weights ?u_kF__law_weights ?u_aF__law_built ?u_lF__law_built ?u_cF__law_built ?u_kF__law_built ?u_aF__law_key ?u_lF__law_key ?u_cF__law_key ?u_kF__law_key ?u_aF__law_shape ?u_lF__law_shape ?u_cF__law_shape ?u_kF__law_shape ?u_aF__law_is_nested ?u_lF__law_is_nested ?u_cF__law_is_nested ?u_kF__law_is_nested ?u_aF__law_is_sorted ?u_lF__law_is_sorted ?u_cF__law_is_sorted ?u_kF__law_is_sorted ?u_aF__law_is_shape ?u_lF__law_is_shape ?u_cF__law_is_shape ?u_kF__law_is_shape ?u_aF__law_is_light ?u_lF__law_is_light ?u_cF__law_is_light ?u_kF__law_is_light ?u_aF__law_odd ?u_lF__law_odd ?u_cF__law_odd ?u_kF__law_odd ?u_aF__law_bent ?u_lF__law_bent ?u_cF__law_bent ?u_kF__law_bent ?u_aF__law_weight ?u_lF__law_weight ?u_cF__law_weight ?u_kF__law_weight ?u_aF__law_right ?u_lF__law_right ?u_cF__law_right ?u_kF__law_right ?u_aF_law ?u_lF_law ?u_cF_law ?u_kF_law ?u_z_abs ?u_z_all ?u_z_int ?u_z_isinstance ?u_z_len ?u_z_list ?u_z_range ?u_z_repr ?u_z_sorted ?u_z_sum ?u_z_tuple ?u_cg_BadShape ?u_cg_LinkError ?u_cg_BadCount ?u_cg_NoIndex ?u_cg_NoVertex ?u_cg_TooMany ?u_q0_BadShape ?u_eC_BadShape ?u_tC_BadShape ?u_kC_BadShape ?u_big_CA ?u_big_CB ?u_gc_SHAPE_VERTICES
    (case u_aF_nest_weight => k_is)
    (case u_lF_nest_weight => k_is)
    (case u_cF_nest_weight => k_is)
    (case u_kF_nest_weight => k_is)
    (case u_aF_place => k_is)
    (case u_lF_place => k_is)
    (case u_cF_place => k_is)
    (case u_kF_place => k_is)
    (case u_aF_is_ordered => k_is)
    (case u_lF_is_ordered => k_is)
    (case u_cF_is_ordered => k_is)
    (case u_kF_is_ordered => k_is)
    (case u_aF_is_small_shape => k_is)
    (case u_lF_is_small_shape => k_is)
    (case u_cF_is_small_shape => k_is)
    (case u_kF_is_small_shape => k_is)
    (case u_aF_is_shape => k_is)
    (case u_lF_is_shape => k_is)
    (case u_cF_is_shape => k_is)
    (case u_kF_is_shape => k_is)
    (case u_aF_check_shape => k_is)
    (case u_lF_check_shape => k_is)
    (case u_cF_check_shape => k_is)
    (case u_kF_check_shape => k_is)
    (case u_aF_shape_weight => k_is)
    (case u_lF_shape_weight => k_is)
    (case u_cF_shape_weight => k_is)
    (case u_kF_shape_weight => k_is)
    (case u_aF_has_no_heavy => k_is)
    (case u_lF_has_no_heavy => k_is)
    (case u_cF_has_no_heavy => k_is)
    (case u_kF_has_no_heavy => k_is)
    (case u_aF_is_built_shape => k_is)
    (case u_lF_is_built_shape => k_is)
    (case u_cF_is_built_shape => k_is)
    (case u_kF_is_built_shape => k_is)
    (case u_aF__law_grain => k_is)
    (case u_lF__law_grain => k_is)
    (case u_cF__law_grain => k_is)
    (case u_kF__law_grain => k_is)
    (case u_aF__law_next => k_is)
    (case u_lF__law_next => k_is)
    (case u_cF__law_next => k_is)
    (case u_kF__law_next => k_is)
    (case u_aF__law_forest => k_is)
    (case u_lF__law_forest => k_is)
    (case u_cF__law_forest => k_is)
    (case u_kF__law_forest => k_is)
    (case u_aF__law_weights => k_is)
    (case u_lF__law_weights => k_is)
    (case u_cF__law_weights => k_is)
    (case u_kF__law_weights => k_is)
    (case u_aF__law_built => k_is)
    (case u_lF__law_built => k_is)
    (case u_cF__law_built => k_is)
    (case u_kF__law_built => k_is)
    (case u_aF__law_key => k_is)
    (case u_lF__law_key => k_is)
    (case u_cF__law_key => k_is)
    (case u_kF__law_key => k_is)
    (case u_aF__law_shape => k_is)
    (case u_lF__law_shape => k_is)
    (case u_cF__law_shape => k_is)
    (case u_kF__law_shape => k_is)
    (case u_aF__law_is_nested => k_is)
    (case u_lF__law_is_nested => k_is)
    (case u_cF__law_is_nested => k_is)
    (case u_kF__law_is_nested => k_is)
    (case u_aF__law_is_sorted => k_is)
    (case u_lF__law_is_sorted => k_is)
    (case u_cF__law_is_sorted => k_is)
    (case u_kF__law_is_sorted => k_is)
    (case u_aF__law_is_shape => k_is)
    (case u_lF__law_is_shape => k_is)
    (case u_cF__law_is_shape => k_is)
    (case u_kF__law_is_shape => k_is)
    (case u_aF__law_is_light => k_is)
    (case u_lF__law_is_light => k_is)
    (case u_cF__law_is_light => k_is)
    (case u_kF__law_is_light => k_is)
    (case u_aF__law_odd => k_is)
    (case u_lF__law_odd => k_is)
    (case u_cF__law_odd => k_is)
    (case u_kF__law_odd => k_is)
    (case u_aF__law_bent => k_is)
    (case u_lF__law_bent => k_is)
    (case u_cF__law_bent => k_is)
    (case u_kF__law_bent => k_is)
    (case u_aF__law_weight => k_is)
    (case u_lF__law_weight => k_is)
    (case u_cF__law_weight => k_is)
    (case u_kF__law_weight => k_is)
    (case u_aF__law_right => k_is)
    (case u_lF__law_right => k_is)
    (case u_cF__law_right => k_is)
    (case u_kF__law_right => k_is)
    (case u_aF_law => k_is)
    (case u_lF_law => k_is)
    (case u_cF_law => k_is)
    (case u_kF_law => k_is)
    (case u_z_abs => k_is)
    (case u_z_all => k_is)
    (case u_z_int => k_is)
    (case u_z_isinstance => k_is)
    (case u_z_len => k_is)
    (case u_z_list => k_is)
    (case u_z_range => k_is)
    (case u_z_repr => k_is)
    (case u_z_sorted => k_is)
    (case u_z_sum => k_is)
    (case u_z_tuple => k_is)
    (case u_cg_BadShape => k_is)
    (case u_cg_LinkError => k_is)
    (case u_cg_BadCount => k_is)
    (case u_cg_NoIndex => k_is)
    (case u_cg_NoVertex => k_is)
    (case u_cg_TooMany => k_is)
    (case u_q0_BadShape => kernel_rfl)
    (case u_eC_BadShape => k_is)
    (case u_tC_BadShape => k_is)
    (case u_kC_BadShape => k_is)
    (case u_big_CA => kernel_rfl)
    (case u_big_CB => kernel_rfl)
    (case u_gc_SHAPE_VERTICES => k_is)
