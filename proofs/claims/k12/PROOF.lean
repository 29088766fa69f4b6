import PyProof.Rows.All
import Wide.All
import OpenK.AllK
import Wide.FinOn
import HandS.ForMost
import HandS.Style
import HandS.Wide
import HandS.NoneIn
import HandS.Walk
import HandS.ExcInit
import HandS.ExcValue
import HandS.ExcOwn
import HandS.IsInst
import KE.KExcIs
import HandS.TupAny
import HandS.Conv
import HandS.Sort
import HandS.Flow
import HandS.Codes
import KE.GoesEnum
import KE.KRevSl
import PyProof.ReprLen
import HandS.ExcField
import HandS.WordsExc
import HandS.Strs
import HandS.TupMul
import HandS.Deep
import PyProof.Rows.SortShellAny
import HandS.SortInts
import KE.KTupSum
import KE.DataMinMax
import HandS.More
import HandS.Iter
import HandS.WideBits
import HandS.Star
import HandS.Defaults
import HandS.CallLocal
import HandS.ExcIs
import HandS.TryMany
import HandS.TryOnly
import HandS.Dict
import HandS.FStr
import HandS.StrMore
import HandS.Text
import HandS.Exc
import PyProof.StrOps2
import PyProof.EqKinds
import PyProof.NeKinds
import PySem.Challenge.RW_linkforests_k12_whole_forests_changed
set_option Elab.async false
set_option linter.all false
set_option maxRecDepth 100000
set_option maxHeartbeats 2000000
namespace Lf
open PySem PySem.Spec PyProof.Rows L2

/-! ### data that repr shows -/
def keyD : Key → PyData
  | .inl i => .int i
  | .inr x => .str x
mutual
inductive Rp (H : Hp) : V → PyData → Prop
  | non : Rp H .non .none
  | bl (b : Bool) : Rp H (.bl b) (.bool b)
  | int (i : Int) : Rp H (.int i) (.int i)
  | str (x : Str) : Rp H (.str x) (.str x)
  | lst {a : Addr} {xs : List V} {ds : List PyData} : H a = some (.lst xs) → RpAll H xs ds → Rp H (.ref a) (.list ds)
  | tup {a : Addr} {xs : List V} {ds : List PyData} : H a = some (.tup xs) → RpAll H xs ds → Rp H (.ref a) (.tuple ds)
  | ftp {a : Addr} {o : Obj} {xs : List V} {ds : List PyData} : H a = some (.frz o (.tup xs)) → RpAll H xs ds → Rp H (.ref a) (.tuple ds)
  | dct {a : Addr} {kvs : List (Key × V)} {es : List (PyData × PyData)} : H a = some (.dK kvs) → RpKv H kvs es → Rp H (.ref a) (.dict es)
inductive RpAll (H : Hp) : List V → List PyData → Prop
  | nil : RpAll H [] []
  | cons {v : V} {vs : List V} {d : PyData} {ds : List PyData} : Rp H v d → RpAll H vs ds → RpAll H (v :: vs) (d :: ds)
inductive RpKv (H : Hp) : List (Key × V) → List (PyData × PyData) → Prop
  | nil : RpKv H [] []
  | cons {k : Key} {v : V} {r : List (Key × V)} {d : PyData} {es : List (PyData × PyData)} : Rp H v d → RpKv H r es → RpKv H ((k, v) :: r) ((keyD k, d) :: es)
end

theorem reads_key {h : Heap} {k : Key} {v : Value} (e : keyIs k v = true) : Reads h v (keyD k) [] := by
  rcases keyIs_shape e with ⟨i, t, rfl, rfl⟩ | ⟨x, t, rfl, rfl⟩
  · exact Reads.int i t
  · exact Reads.str x t

section
variable {X : Cx} {pins : List (Addr × Obj)} {σ : L2.St} {H : Hp} {s : Shared}
theorem not_sys (I : Inv X pins σ H s) (hs : ∃ o, X.base.get? sysModules = some o) {a : Addr} {o : HO} (e : H a = some o) : sysModules ≠ a := by
  obtain ⟨o', h1⟩ := hs
  intro z
  have q := (I.bs _ _ h1).2
  rw [z, e] at q
  cases q
mutual
theorem Rp.reads (I : Inv X pins σ H s) (hs : ∃ o, X.base.get? sysModules = some o) : ∀ {v : V} {d : PyData}, Rp H v d → ∀ u, RelV v u → ∃ as, Reads s.heap u d as ∧ sysModules ∉ as
  | _, _, .non, u, r => by
    cases r
    exact ⟨[], Reads.none, List.not_mem_nil⟩
  | _, _, .bl b, u, r => by
    cases r
    exact ⟨[], Reads.bool b, List.not_mem_nil⟩
  | _, _, .int i, u, r => by
    obtain ⟨t, rfl⟩ := r
    exact ⟨[], Reads.int i t, List.not_mem_nil⟩
  | _, _, .str x, u, r => by
    obtain ⟨t, rfl⟩ := r
    exact ⟨[], Reads.str x t, List.not_mem_nil⟩
  | _, _, .lst (a := a) (xs := xs) e q, u, r => by
    cases r
    obtain ⟨_, its, n, rv, ho⟩ := (show ObjOk X.prog X.w H s.heap a (.lst xs) from I.hok a _ e)
    obtain ⟨as, h1, h2⟩ := RpAll.reads I hs q its rv
    refine ⟨a :: as, Reads.list ho rfl rfl h1, fun z => ?_⟩
    rcases List.mem_cons.mp z with z | z
    · exact not_sys I hs e z
    · exact h2 z
  | _, _, .tup (a := a) (xs := xs) e q, u, r => by
    cases r
    obtain ⟨_, its, rv, o, ho, hc, n, hd⟩ := (show ObjOk X.prog X.w H s.heap a (.tup xs) from I.hok a _ e)
    obtain ⟨as, h1, h2⟩ := RpAll.reads I hs q its rv
    exact ⟨as, Reads.tuple ho hc hd h1, h2⟩
  | _, _, .ftp (a := a) (o := ob) (xs := xs) e q, u, r => by
    cases r
    obtain ⟨_, _, its, rv, o, ho, hc, n, hd⟩ := (show ObjOk X.prog X.w H s.heap a (.frz ob (.tup xs)) from I.hok a _ e)
    obtain ⟨as, h1, h2⟩ := RpAll.reads I hs q its rv
    exact ⟨as, Reads.tuple ho hc hd h1, h2⟩
  | _, _, .dct (a := a) (kvs := kvs) e q, u, r => by
    cases r
    obtain ⟨_, _, vs, kv, o, es, ep, ho, hx, hd, hko, hp, _⟩ := (show ObjOk X.prog X.w H s.heap a (.dK kvs) from I.hok a _ e)
    obtain ⟨as, h1, h2, h3⟩ := RpKv.reads I hs q vs kv es.toList hp
    refine ⟨a :: [] ++ as, Reads.dict ho hx.1 hd h1 h2, fun z => ?_⟩
    rcases List.mem_cons.mp z with z | z
    · exact not_sys I hs e z
    · exact h3 z
theorem RpAll.reads (I : Inv X pins σ H s) (hs : ∃ o, X.base.get? sysModules = some o) : ∀ {vs : List V} {ds : List PyData}, RpAll H vs ds → ∀ us, Vals vs us → ∃ as, ReadsAll s.heap us ds as ∧ sysModules ∉ as
  | _, _, .nil, us, r => by
    cases r
    exact ⟨[], ReadsAll.nil, List.not_mem_nil⟩
  | _, _, .cons q1 q2, us, r => by
    cases r with
    | cons r1 r2 =>
      obtain ⟨as, h1, h2⟩ := Rp.reads I hs q1 _ r1
      obtain ⟨bs, h3, h4⟩ := RpAll.reads I hs q2 _ r2
      exact ⟨as ++ bs, ReadsAll.cons h1 h3, fun z => (List.mem_append.mp z).elim h2 h4⟩
theorem RpKv.reads (I : Inv X pins σ H s) (hs : ∃ o, X.base.get? sysModules = some o) : ∀ {kvs : List (Key × V)} {es : List (PyData × PyData)}, RpKv H kvs es → ∀ vs, KV kvs vs → ∀ ens, Pairs (mixKind X.prog X.w) ens vs →
    ∃ as, ReadsAll s.heap (ens.map (·.key)) (es.map (·.1)) [] ∧ ReadsAll s.heap (ens.map (·.val)) (es.map (·.2)) as ∧ sysModules ∉ as
  | _, _, .nil, vs, kv, ens, p => by
    cases kv
    cases p
    exact ⟨[], ReadsAll.nil, ReadsAll.nil, List.not_mem_nil⟩
  | _, _, .cons q1 q2, vs, kv, ens, p => by
    cases kv with
    | cons k1 k2 =>
      cases p with
      | cons p1 p2 p3 =>
        obtain ⟨e1, e2⟩ := k1
        rw [← p2] at e2
        obtain ⟨as, h1, h2⟩ := Rp.reads I hs q1 _ e2
        obtain ⟨bs, h3, h4, h5⟩ := RpKv.reads I hs q2 _ k2 _ p3
        refine ⟨as ++ bs, ReadsAll.cons (as := []) ?_ h3, ReadsAll.cons h1 h4, fun z => (List.mem_append.mp z).elim h2 h5⟩
        rw [← e1] at p1
        exact reads_key p1
end
end

/-! what stood stands: the same data reads the same -/
mutual
theorem Rp.mono {H H' : Hp} (k : ∀ b o, H b = some o → H' b = some o) : ∀ {v : V} {d : PyData}, Rp H v d → Rp H' v d
  | _, _, .non => .non
  | _, _, .bl b => .bl b
  | _, _, .int i => .int i
  | _, _, .str x => .str x
  | _, _, .lst e q => .lst (k _ _ e) (RpAll.mono k q)
  | _, _, .tup e q => .tup (k _ _ e) (RpAll.mono k q)
  | _, _, .ftp e q => .ftp (k _ _ e) (RpAll.mono k q)
  | _, _, .dct e q => .dct (k _ _ e) (RpKv.mono k q)
theorem RpAll.mono {H H' : Hp} (k : ∀ b o, H b = some o → H' b = some o) : ∀ {vs : List V} {ds : List PyData}, RpAll H vs ds → RpAll H' vs ds
  | _, _, .nil => .nil
  | _, _, .cons q1 q2 => .cons (Rp.mono k q1) (RpAll.mono k q2)
theorem RpKv.mono {H H' : Hp} (k : ∀ b o, H b = some o → H' b = some o) : ∀ {kvs : List (Key × V)} {es : List (PyData × PyData)}, RpKv H kvs es → RpKv H' kvs es
  | _, _, .nil => .nil
  | _, _, .cons q1 q2 => .cons (Rp.mono k q1) (RpKv.mono k q2)
end

section
variable {X : Cx}
/-- repr of a list or a tuple -/
theorem call_repr (hs : ∃ o, X.base.get? sysModules = some o) (hg : X.A.guards = some []) (hu : X.A.units + 200 < cLine) :
    CallR X (.builtin "repr") (fun xs H Q => ∃ (a : Addr) (d : PyData), xs = [.ref a] ∧ Rp H (.ref a) d ∧ d.showable = true ∧ d.depth ≤ 100 ∧ d.shown.length ≤ sizeLine ∧ Q (.str d.shown) H) := by
  intro pins s σ H xs us Q I r h
  obtain ⟨a, d, rfl, hr, h1, h2, h3, q⟩ := h
  obtain ⟨u, rfl, r1⟩ := vals1 r
  cases (show u = Value.ref a from r1)
  obtain ⟨as, rd, na⟩ := Rp.reads I hs hr _ rfl
  exact repr_of_reads' rd h1 (fun _ => na) hg (by omega) (fun _ _ e => e) (fun h' t tk k => ⟨.str d.shown, H, I.kept k, ⟨t, rfl⟩, q⟩) h3
end
end Lf
namespace Lf
open PySem PySem.Spec PyProof.Rows L2

/-! ### the law's own call: nothing is being shown around it (repr's guard is empty), the modules' table stands below all -/
/-- a promise of the def at f for a caller whose repr guard is empty -/
def RunG (P : Program) (w : World) (K : PySem.W.Frag) (mg : Str → Option Value) (base : Heap) (k : Nat) (f : Addr) (fd : FuncData) (ps : List Str) (sp : Sp) : Prop :=
  ∀ (A : Around) (outer : List Env) (s : Shared) (H : Hp) (args : Args) (us : List Value) (vs : List V) (Q : VK) (E : XK), A.guards = some [] →
    Room k A → Env0 P w K mg base A outer s H → BindsTo s fd args (ps.zip us) → Vals vs us → sp vs H Q E → codeAny (model P w) A (.call (.ref f) args) (CR CX0 outer P w H s Q E) s

theorem runG_of {P : Program} {w : World} {K : PySem.W.Frag} {mg : Str → Option Value} {base : Heap} {name qual : Str} {st : Stmt} {f : Addr} {fd : FuncData} {N ps : List Str} {k : Nat} {sp : Sp}
    (Fn : Fun K name qual st f fd) (Sc : FnScope N ps (defScope st)) (lens : ∀ vs H Q E, sp vs H Q E → vs.length = ps.length)
    (bd : ∀ (cdv : Value) (A : Around) (outer : List Env) (s : Shared) (H : Hp) (vs : List V) (Q : VK) (E : XK), A.guards = some [] → Room k (A.deeper (envOfC qual (defScope st) s.heap.objs.size f cdv)) → sp vs H Q E →
      ∃ t, PSs (cxOf CX0 P w K mg base N qual (defScope st) f cdv A outer s H E).nox (defBody st) t ∧ t { nx := fun _ H' => Q .non H', rt := Q } (start N vs) H) :
    RunG P w K mg base (k + 1) f fd ps sp := by
  obtain ⟨oc, od, kV, doc, pm, an, cdv, ct, osl, rfl, look, code⟩ := Fn.ex
  intro A outer s H args us vs Q E gu room env bind vals want
  have within : K.In s.heap := env.mod.kin.keeps fun b o z => (env.bs b o z).1
  have free : s.heap.NoLimit := env.mod.nolimit.keeps fun b o z => (env.bs b o z).1
  have kinds : ∀ y ∈ ps.zip us, (defScope st).names.lookup y.1 = some .local ∨ ((defScope st).names.lookup y.1 = some .cell ∧ ((cellsFrom (s.heap.objs.size + 1) (defScope st).names []).lookup y.1).isSome = true) := by
    rintro ⟨n, v⟩ mem
    exact (Sc.par n (List.of_mem_zip mem).1).imp id fun z => ⟨z, PySem.W.cellsFrom_some _ _ _ (.inl z)⟩
  apply codeAny_call_function room.depth (within _ _ look) rfl Sc.co Sc.gen rfl (PySem.W.codeRec_of within code)
  apply bind
  apply wpAny_newFunctionEnv_cells Sc.kind kinds
  rintro env' rfl s1 called
  refine ⟨free.keeps called.toInCall.keep, codeAny_func ?_⟩
  obtain ⟨t, walk, read⟩ := bd cdv A outer s H vs Q E gu (room.deeper _) want
  have inv : Inv (cxOf CX0 P w K mg base N qual (defScope st) f cdv A outer s H E) [] (start N vs) H s1 := inv_start Sc room.hd env (lens _ _ _ _ want) vals called
  refine wpAny_mono (walk.nox.run [] s1 (start N vs) H _ inv read) ?_ (fun _ _ z => z)
  rintro (_ | u | _ | _) s' got
  · obtain ⟨σ', H', J, q⟩ := got
    exact ⟨.non, H', J.os, J.bare, J.base, J.hok, rfl, q⟩
  all_goals first
    | (obtain ⟨v, σ', H', J, rv, q⟩ := got; exact ⟨v, H', J.os, J.bare, J.base, J.hok, rv, q⟩)
    | (obtain ⟨_, _, _, q⟩ := got; exact q.elim)

/-- from the law's promise to the goal that k_head leaves; F may use the loose names' values and the modules' table -/
theorem walk_g {l : PySem.W.OpenLaw} {n k : Nat} {q : Program} {loose : List Str} {XP : (Str → Option Value) → Heap → Prop} {YP : World → Heap → Prop} {d : DefRec} {K : Params → PySem.W.Frag} {sp : PySem.W.Frag → Sp} {x : Str}
    (most : l.most = some n) (fits : n ≤ sizeLine) (plain : d.params.defaults = []) (room : Room k callerA) (noimp : importsNone q = true)
    (hY : ∀ (w : World) (h : Heap), YP w h → (K w.params).In h)
    (F : ∀ (w : World) (mg : Str → Option Value) (fa : Addr) (h : Heap), (K w.params).In h → h.Ns mainGlobals mg → XP mg h → mg d.name = some (.ref fa) →
      ∃ fd : FuncData, (∀ (s : Shared) (u : Value), BindsTo s fd ⟨[u], []⟩ [(x, u)]) ∧
        ∀ base : Heap, (K w.params).In base → base.Ns mainGlobals mg → (∃ o, base.get? sysModules = some o) → RunG l.prog w (K w.params) mg base k fa fd [x] (sp (K w.params)))
    (hsp : ∀ (K : PySem.W.Frag) (H : Hp) (a : Addr) (ns : List Int), ns.length ≤ n → Only H → SqL K H a (ns.map V.int) → sp K [.ref a] H (fun v _ => v = .bl true) fun _ _ _ => False) :
    PySem.W.WalkO q loose XP YP l.row.toRowW d [] (fun f vs => PySem.call f vs) := by
  refine Att.attach_call most plain ?_
  intro w s₀ s₁ mg mb fa o pm cd doc a vs ns Gr Y _ _ _ named script areInts short gens
  have KX := hY w _ Y
  obtain ⟨fd, binds, FB⟩ := F w mg fa _ KX Gr.T.g Gr.X named
  obtain ⟨mm, hmm, _⟩ := (Gr.T.seer noimp).mods
  have pairs := vals_ints areInts
  have size := areInts.length
  have long : ns.length ≤ sizeLine := Nat.le_trans short fits
  -- whatever of the script is tracked
  have go : ∀ H : Hp, Only H → SqL (K w.params) H a (ns.map V.int) → HOk l.prog w H s₁.heap → (∀ b, H b ≠ none → b = a) → (H a ≠ none → (K w.params).lookup a = none) →
      codeAny (model l.prog w) callerA (.call (.ref fa) ⟨[.ref a], []⟩) (fun r s' => r = .ok (.ret (.bool true)) ∧ OldK s₁.heap s'.heap ∧ s'.os = s₁.os ∧ AllBare s'.gens) s₁ := by
    intro H only listed held lone off
    have low : ∀ {b : Addr} {m : Str → Option Value}, s₁.heap.Ns b m → (hidT s₁.heap H).Ns b m := by
      rintro b m ⟨ob, es, ep, z, dz, rz⟩
      refine ⟨ob, es, ep, hidT_get z ?_, dz, rz⟩
      cases hb : H b with
      | none => rfl
      | some u =>
        obtain rfl := lone b (by rw [hb]; exact fun z => nomatch z)
        rw [script] at z
        cases z
        cases dz
    have inb : (K w.params).In (hidT s₁.heap H) := by
      intro b ob z
      refine hidT_get (KX b ob z) ?_
      cases hb : H b with
      | none => rfl
      | some u =>
        obtain rfl := lone b (by rw [hb]; exact fun z => nomatch z)
        rw [off (by rw [hb]; exact fun z => nomatch z)] at z
        cases z
    have modu : Mod (K w.params) mg (hidT s₁.heap H) := by
      obtain ⟨mc, c1, c2⟩ := Gr.T.nolimit
      exact ⟨inb, low Gr.T.g, ⟨mb, low Gr.T.b, Gr.T.builtins⟩, ⟨mc, low c1, c2⟩⟩
    have e0 : Env0 l.prog w (K w.params) mg (hidT s₁.heap H) callerA [] s₁ H :=
      ⟨rfl, modu, fun b ob z => of_hidT z, Nat.le_of_eq (hidT_size _ _), trivial, (fun b z => nomatch z), held, AllBare.of_eq gens⟩
    have sys : ∃ ob, (hidT s₁.heap H).get? sysModules = some ob := by
      obtain ⟨ob, _, _, z, _⟩ := low hmm
      exact ⟨ob, z⟩
    have done := FB _ inb (low Gr.T.g) sys callerA [] s₁ H ⟨[.ref a], []⟩ [.ref a] [.ref a] _ _ rfl room e0 (binds s₁ (.ref a)) (.cons rfl .nil) (hsp _ H a ns short only listed)
    refine codeAny_mono done ?_
    intro r s' got
    cases r with
    | error er => exact False.elim got
    | ok fl =>
      cases fl with
      | next => exact False.elim got
      | brk => exact False.elim got
      | cont => exact False.elim got
      | ret u =>
        obtain ⟨v, H', hos, bare, un, held', rv, hv⟩ := got
        cases (show v = .bl true from hv)
        cases (show u = Value.bool true from rv)
        refine ⟨rfl, OldK.of_keep ?_, hos, bare⟩
        intro b ob z
        rcases only b with hb | ⟨o2, xs, hb⟩
        · exact un.keep b ob z hb (fun y => nomatch y) (fun y => nomatch y)
        · have z1 := (held b _ hb).1
          have z2 := (held' b _ (un.frzs b o2 _ hb)).1
          rw [z] at z1
          cases z1
          exact z2
  cases lk : (K w.params).lookup a with
  | none =>
    refine go (fun b => if b = a then some (.frz { cls := .type "list", data := .seq vs.toArray } (.lst (ns.map V.int))) else none) ?_ (.inl (.inr ⟨_, if_pos rfl⟩)) ?_ ?_ (fun _ => lk)
    · intro b
      by_cases hb : b = a
      · exact .inr ⟨_, _, if_pos hb⟩
      · exact .inl (if_neg hb)
    · intro b u z
      by_cases hb : b = a
      · subst hb
        have z := (if_pos rfl).symm.trans z
        cases z
        exact ⟨script, by rw [List.length_map]; exact long, vs, _, pairs, script⟩
      · have z := (if_neg hb).symm.trans z
        cases z
    · intro b z
      by_cases hb : b = a
      · exact hb
      · exact absurd (if_neg hb) z
  | some ob =>
    have z := KX a ob lk
    rw [script] at z
    cases z
    exact go (fun _ => none) (fun _ => .inl rfl) (.inr ⟨_, vs.toArray, _, lk, rfl, rfl, rfl, by rw [List.size_toArray, size]; exact long, by simpa using pairs⟩) (fun b u z => nomatch z) (fun b z => absurd rfl z) (fun z => absurd rfl z)
end Lf
/-! ### forests: plain mathematics -/
namespace Lf
/-- the parent of v -/
def par (fs : List Nat) (v : Nat) : Nat := fs.getD v 0
/-- k steps lead from v to a root, no fewer -/
inductive Rch (fs : List Nat) : Nat → Nat → Prop
  | root {v : Nat} : par fs v = v → Rch fs 0 v
  | step {k v : Nat} : par fs v ≠ v → Rch fs k (par fs v) → Rch fs (k + 1) v
/-- the way from v to its root -/
inductive Pth (fs : List Nat) : Nat → List Nat → Prop
  | root {v : Nat} : par fs v = v → Pth fs v [v]
  | step {v : Nat} {l : List Nat} : par fs v ≠ v → Pth fs (par fs v) l → Pth fs v (v :: l)
/-- v lies on the way of u -/
inductive Bel (fs : List Nat) (v : Nat) : Nat → Prop
  | refl : Bel fs v v
  | step {u : Nat} : par fs u ≠ u → Bel fs v (par fs u) → Bel fs v u
structure Forest (fs : List Nat) : Prop where
  pos : 0 < fs.length
  few : fs.length ≤ 24
  rng : ∀ v, v < fs.length → par fs v < fs.length
  rch : ∀ v, v < fs.length → ∃ k, Rch fs k v
theorem Rch.inj {fs : List Nat} {j k v : Nat} (a : Rch fs j v) (b : Rch fs k v) : j = k := by
  induction a generalizing k with
  | root h =>
    cases b with
    | root _ => rfl
    | step h' _ => exact absurd h h'
  | step h _ ih =>
    cases b with
    | root h' => exact absurd h' h
    | step _ r => rw [ih r]
theorem Bel.le {fs : List Nat} {v u j k : Nat} (b : Bel fs v u) (a : Rch fs j u) (c : Rch fs k v) : k ≤ j := by
  induction b generalizing j with
  | refl => rw [a.inj c]; exact Nat.le_refl _
  | step h _ ih =>
    cases a with
    | root h' => exact absurd h' h
    | step _ r => exact Nat.le_succ_of_le (ih r)
/-- nobody lies below himself -/
theorem Bel.no {fs : List Nat} {v : Nat} (f : ∃ k, Rch fs k v) (h : par fs v ≠ v) : ¬ Bel fs v (par fs v) := fun b => by
  obtain ⟨k, r⟩ := f
  cases r with
  | root h' => exact h h'
  | step _ r' =>
    have := b.le r' (.step h r')
    omega
theorem Pth.of {fs : List Nat} {k v : Nat} (a : Rch fs k v) : ∃ l, Pth fs v l ∧ l.length = k + 1 := by
  induction a with
  | root h => exact ⟨_, .root h, rfl⟩
  | step h _ ih =>
    obtain ⟨l, h1, h2⟩ := ih
    exact ⟨_, .step h h1, by rw [List.length_cons, h2]⟩
theorem Pth.inj {fs : List Nat} {v : Nat} {l m : List Nat} (a : Pth fs v l) (b : Pth fs v m) : l = m := by
  induction a generalizing m with
  | root h =>
    cases b with
    | root _ => rfl
    | step h' _ => exact absurd h h'
  | step h _ ih =>
    cases b with
    | root h' => exact absurd h' h
    | step _ r => rw [ih r]
theorem Pth.bel {fs : List Nat} {u : Nat} {l : List Nat} (a : Pth fs u l) (v : Nat) : v ∈ l ↔ Bel fs v u := by
  induction a with
  | root h =>
    refine ⟨fun z => ?_, fun z => ?_⟩
    · rw [List.mem_singleton.mp z]
      exact .refl
    · cases z with
      | refl => exact List.mem_singleton.mpr rfl
      | step h' _ => exact absurd h h'
  | step h _ ih =>
    refine ⟨fun z => ?_, fun z => ?_⟩
    · rcases List.mem_cons.mp z with z | z
      · rw [z]
        exact .refl
      · exact .step h (ih.mp z)
    · cases z with
      | refl => exact List.mem_cons_self
      | step _ b => exact List.mem_cons_of_mem _ (ih.mpr b)
theorem Bel.lt {fs : List Nat} (rng : ∀ v, v < fs.length → par fs v < fs.length) {v u : Nat} (b : Bel fs v u) (h : u < fs.length) : v < fs.length := by
  induction b with
  | refl => exact h
  | step _ _ ih => exact ih (rng _ h)
theorem Pth.nodup {fs : List Nat} (rch : ∀ v, v < fs.length → ∃ k, Rch fs k v) (rng : ∀ v, v < fs.length → par fs v < fs.length) {u : Nat} {l : List Nat} (a : Pth fs u l) (h : u < fs.length) : l.Nodup := by
  induction a with
  | root _ => exact List.nodup_cons.mpr ⟨List.not_mem_nil, List.nodup_nil⟩
  | step hn p ih => exact List.nodup_cons.mpr ⟨fun z => Bel.no (rch _ h) hn ((p.bel _).mp z), ih (rng _ h)⟩
/-- a list without repetition of numbers below n has at most n items -/
theorem nodup_le : ∀ {n : Nat} {l : List Nat}, l.Nodup → (∀ x ∈ l, x < n) → l.length ≤ n
  | 0, [], _, _ => Nat.le_refl _
  | 0, x :: _, _, hb => absurd (hb x List.mem_cons_self) (Nat.not_lt_zero _)
  | n + 1, l, h, hb => by
    by_cases hn : n ∈ l
    · have h2 := List.length_erase_of_mem hn
      have h3 : (l.erase n).length ≤ n := nodup_le (h.erase n) fun x hx => by
        have h4 := (List.Nodup.mem_erase_iff h).mp hx
        have := hb x h4.2
        have := h4.1
        omega
      have h5 : 0 < l.length := List.length_pos_of_mem hn
      omega
    · refine Nat.le_succ_of_le (nodup_le h fun x hx => ?_)
      have := hb x hx
      have : x ≠ n := fun e => hn (e ▸ hx)
      omega
theorem Forest.path {fs : List Nat} (F : Forest fs) {v : Nat} (h : v < fs.length) : ∃ l, Pth fs v l ∧ l.Nodup ∧ l.length ≤ fs.length ∧ (∀ x ∈ l, x < fs.length) ∧ Rch fs (l.length - 1) v ∧ 0 < l.length := by
  obtain ⟨k, r⟩ := F.rch v h
  obtain ⟨l, p, e⟩ := Pth.of r
  have nd := p.nodup F.rch F.rng h
  have lt : ∀ x ∈ l, x < fs.length := fun x hx => ((p.bel x).mp hx).lt F.rng h
  refine ⟨l, p, nd, nodup_le nd lt, lt, ?_, by omega⟩
  rw [e]
  exact r
/-! new forests of old ones -/
theorem par_set {fs : List Nat} {a b v : Nat} (h : a < fs.length) : par (fs.set a b) v = if v = a then b else par fs v := by
  unfold par
  rw [List.getD_eq_getElem?_getD, List.getD_eq_getElem?_getD, List.getElem?_set]
  by_cases e : a = v
  · subst e
    rw [if_pos rfl, if_pos rfl, if_pos h]
    rfl
  · rw [if_neg e, if_neg (fun z => e z.symm)]
/-- reaching a root, without a count -/
def Up (fs : List Nat) (v : Nat) : Prop := ∃ k, Rch fs k v
theorem Up.root {fs : List Nat} {v : Nat} (h : par fs v = v) : Up fs v := ⟨0, .root h⟩
theorem Up.step {fs : List Nat} {v : Nat} (h : Up fs (par fs v)) : Up fs v := by
  obtain ⟨k, r⟩ := h
  by_cases e : par fs v = v
  · exact .root e
  · exact ⟨k + 1, .step e r⟩
/-- v is put below w, on whose way it does not lie -/
theorem Forest.moved {fs : List Nat} (F : Forest fs) {v w : Nat} (hv : v < fs.length) (hw : w < fs.length) (nb : ¬ Bel fs v w) : Forest (fs.set v w) := by
  have key : ∀ {k u : Nat}, Rch fs k u → ¬ Bel fs v u → Up (fs.set v w) u := by
    intro k u r
    induction r with
    | root h =>
      rename_i u
      intro z
      have ne : ¬ u = v := fun e => z (e ▸ .refl)
      exact .root (by rw [par_set hv, if_neg ne]; exact h)
    | step h r ih =>
      rename_i k u
      intro z
      have ne : ¬ u = v := fun e => z (e ▸ .refl)
      refine .step ?_
      rw [par_set hv, if_neg ne]
      exact ih fun b => z (.step h b)
  obtain ⟨kw, rw'⟩ := F.rch w hw
  have upw := key rw' nb
  refine ⟨by rw [List.length_set]; exact F.pos, by rw [List.length_set]; exact F.few, fun u hu => ?_, fun u hu => ?_⟩
  · rw [List.length_set] at hu ⊢
    rw [par_set hv]
    by_cases e : u = v
    · rw [if_pos e]
      exact hw
    · rw [if_neg e]
      exact F.rng u hu
  · rw [List.length_set] at hu
    obtain ⟨k, r⟩ := F.rch u hu
    clear hu
    show Up _ _
    induction r with
    | root h =>
      rename_i u
      by_cases e : u = v
      · refine .step ?_
        rw [par_set hv, if_pos e]
        exact upw
      · exact .root (by rw [par_set hv, if_neg e]; exact h)
    | step h _ ih =>
      rename_i k u _
      by_cases e : u = v
      · refine .step ?_
        rw [par_set hv, if_pos e]
        exact upw
      · refine .step ?_
        rw [par_set hv, if_neg e]
        exact ih
theorem par_range {n v : Nat} (h : v < n) : par (List.range n) v = v := by
  unfold par
  rw [List.getD_eq_getElem?_getD, List.getElem?_range h]
  rfl
theorem Forest.range {n : Nat} (h0 : 0 < n) (h1 : n ≤ 24) : Forest (List.range n) := by
  refine ⟨by rw [List.length_range]; exact h0, by rw [List.length_range]; exact h1, fun v hv => ?_, fun v hv => ?_⟩
  · rw [List.length_range] at hv
    rw [par_range hv, List.length_range]
    exact hv
  · rw [List.length_range] at hv
    exact Up.root (par_range hv)
def tops (fs : List Nat) : List Nat := (List.range fs.length).filter fun v => decide (par fs v = v)
theorem mem_tops {fs : List Nat} {v : Nat} : v ∈ tops fs ↔ v < fs.length ∧ par fs v = v := by
  unfold tops
  rw [List.mem_filter, List.mem_range, decide_eq_true_iff]
theorem tops_nodup (fs : List Nat) : (tops fs).Nodup := List.Pairwise.filter _ List.nodup_range
/-- one root below another: one root fewer -/
theorem tops_moved {fs : List Nat} {a b : Nat} (ha : a ∈ tops fs) (hb : b ∈ tops fs) (ne : a ≠ b) : (tops (fs.set a b)).length + 1 = (tops fs).length := by
  have h1 := mem_tops.mp ha
  have e : tops (fs.set a b) = (tops fs).filter fun v => decide (v ≠ a) := by
    unfold tops
    rw [List.length_set, List.filter_filter]
    refine List.filter_congr fun v hv => ?_
    rw [par_set h1.1]
    by_cases z : v = a
    · subst z
      rw [if_pos rfl]
      simp [Ne.symm ne]
    · rw [if_neg z]
      simp [z]
  have e2 : (tops fs).filter (fun v => decide (v ≠ a)) = (tops fs).erase a := by
    rw [List.Nodup.erase_eq_filter (tops_nodup fs)]
    refine List.filter_congr fun v _ => ?_
    by_cases z : v = a <;> simp [z]
  rw [e, e2, List.length_erase_of_mem ha]
  have := List.length_pos_of_mem ha
  omega
end Lf
namespace Lf
/-! ### all that lies below v, found from children to children -/
def kids (fs : List Nat) (y : Nat) : List Nat := (List.range fs.length).filter fun u => decide (par fs u = y) && decide (u ≠ par fs u)
theorem mem_kids {fs : List Nat} {y u : Nat} : u ∈ kids fs y ↔ u < fs.length ∧ par fs u = y ∧ u ≠ par fs u := by
  unfold kids
  rw [List.mem_filter, List.mem_range, Bool.and_eq_true_iff, decide_eq_true_iff, decide_eq_true_iff]
structure Bfs (fs : List Nat) (v : Nat) (ins : List Nat) (c : Nat) : Prop where
  nd : ins.Nodup
  bel : ∀ u ∈ ins, u < fs.length ∧ Bel fs v u
  top : v ∈ ins
  cnt : c ≤ ins.length
  cls : ∀ j u, j < c → ins[j]? = some (par fs u) → u < fs.length → par fs u ≠ u → u ∈ ins
  org : ∀ u ∈ ins, u = v ∨ (par fs u ≠ u ∧ ∃ j, j < c ∧ ins[j]? = some (par fs u))
theorem Bfs.start {fs : List Nat} {v : Nat} (h : v < fs.length) : Bfs fs v [v] 0 :=
  ⟨List.nodup_cons.mpr ⟨List.not_mem_nil, List.nodup_nil⟩, fun u hu => by rw [List.mem_singleton.mp hu]; exact ⟨h, .refl⟩, List.mem_singleton.mpr rfl, Nat.zero_le _, fun j u hj => absurd hj (Nat.not_lt_zero _), fun u hu => .inl (List.mem_singleton.mp hu)⟩
theorem Bfs.le {fs : List Nat} {v c : Nat} {ins : List Nat} (B : Bfs fs v ins c) : ins.length ≤ fs.length := nodup_le B.nd fun u hu => (B.bel u hu).1
theorem Bfs.next {fs : List Nat} (rch : ∀ v, v < fs.length → ∃ k, Rch fs k v) {v c y : Nat} {ins : List Nat} (B : Bfs fs v ins c) (hy : ins[c]? = some y) : Bfs fs v (ins ++ kids fs y) (c + 1) := by
  have hc : c < ins.length := by
    rcases Nat.lt_or_ge c ins.length with z | z
    · exact z
    · rw [List.getElem?_eq_none z] at hy
      cases hy
  have ym : y ∈ ins := List.mem_of_getElem? hy
  have yb := B.bel y ym
  refine ⟨?_, ?_, ?_, ?_, ?_, ?_⟩
  · refine List.nodup_append.mpr ⟨B.nd, List.Pairwise.filter _ List.nodup_range, ?_⟩
    intro u hu w hw e
    subst e
    obtain ⟨k1, k2, k3⟩ := mem_kids.mp hw
    rcases B.org u hu with z | ⟨_, j, hj, ej⟩
    · subst z
      exact Bel.no (rch _ k1) (Ne.symm k3) (k2 ▸ yb.2)
    · rw [k2] at ej
      have e2 : j = c := (List.getElem?_inj (Nat.lt_trans hj hc) B.nd).mp (ej.trans hy.symm)
      omega
  · intro u hu
    rcases List.mem_append.mp hu with z | z
    · exact B.bel u z
    · obtain ⟨k1, k2, k3⟩ := mem_kids.mp z
      exact ⟨k1, .step (Ne.symm k3) (k2 ▸ yb.2)⟩
  · exact List.mem_append_left _ B.top
  · rw [List.length_append]
    omega
  · intro j u hj ej hu hn
    by_cases z : j < c
    · rw [List.getElem?_append_left (by omega)] at ej
      exact List.mem_append_left _ (B.cls j u z ej hu hn)
    · have z2 : j = c := by omega
      subst z2
      rw [List.getElem?_append_left hc, hy] at ej
      exact List.mem_append_right _ (mem_kids.mpr ⟨hu, (Option.some.inj ej).symm, Ne.symm hn⟩)
  · intro u hu
    rcases List.mem_append.mp hu with z | z
    · rcases B.org u z with z | ⟨h1, j, hj, ej⟩
      · exact .inl z
      · exact .inr ⟨h1, j, by omega, by rw [List.getElem?_append_left (by omega)]; exact ej⟩
    · obtain ⟨k1, k2, k3⟩ := mem_kids.mp z
      exact .inr ⟨Ne.symm k3, c, Nat.lt_succ_self _, by rw [List.getElem?_append_left hc, hy, k2]⟩
theorem Bfs.done {fs : List Nat} (rng : ∀ v, v < fs.length → par fs v < fs.length) {v : Nat} {ins : List Nat} (B : Bfs fs v ins ins.length) (u : Nat) : u ∈ ins ↔ u < fs.length ∧ Bel fs v u := by
  refine ⟨B.bel u, fun hh => ?_⟩
  obtain ⟨h, b⟩ := hh
  induction b with
  | refl => exact B.top
  | step hn _ ih =>
    obtain ⟨j, hj, ej⟩ := List.getElem_of_mem (ih (rng _ h))
    exact B.cls j _ hj (by rw [List.getElem?_eq_getElem hj, ej]) h hn
end Lf
namespace Lf
open PySem PySem.Spec PyProof.Rows L2
/-! ### rules -/
/-- a list or a tuple -/
def SqQ (K : PySem.W.Frag) (H : Hp) (p : Addr) (xs : List V) : Prop := SqL K H p xs ∨ SqT K H p xs
theorem same_seqT {K : PySem.W.Frag} {H H' : Hp} {a : Addr} {xs : List V} (e : Same H H') (h : SqT K H a xs) : SqT K H' a xs := by
  rcases h with (h | ⟨o, h⟩) | h
  · exact .inl (.inl (e _ _ h))
  · exact .inl (.inr ⟨o, e _ _ h⟩)
  · exact .inr h
theorem SqQ.same {K : PySem.W.Frag} {H H' : Hp} {p : Addr} {xs : List V} (s : Same H H') : SqQ K H p xs → SqQ K H' p xs
  | .inl h => .inl (s.seq h)
  | .inr h => .inr (same_seqT s h)
def rIxQ (K : PySem.W.Frag) : R2 := fun x y H Q => ∃ (p : Addr) (xs : List V) (i : Int) (v : V), x = .ref p ∧ y = .int i ∧ SqQ K H p xs ∧ atI xs i = some v ∧ Q v H
section
variable {X : Cx}
theorem ix_q : IxR X (rIxQ X.K) := by
  intro value slice pins s σ H x y v u Q I rx ry q hs
  obtain ⟨p, xs, i, z, h1, h2, h3, h4, h5⟩ := q
  rcases h3 with h3 | h3
  · exact ix_list value slice pins s σ H x y v u Q I rx ry ⟨p, xs, i, z, h1, h2, h3, h4, h5⟩ hs
  · exact ix_tup value slice pins s σ H x y v u Q I rx ry ⟨p, xs, i, z, h1, h2, h3, h4, h5⟩ hs
end
/-! ### xs[::k], k one or minus one -/
def tStepL (K : PySem.W.Frag) (te ts : TE) : TE := fun σ H Q => te σ H fun x H1 => ts σ H1 fun y H2 => ∃ (a : Addr) (xs : List V) (k : Int), x = .ref a ∧ y = .int k ∧ SqL K H2 a xs ∧ (k = 1 ∨ k = -1) ∧ ∀ p, H2 p = none → ∀ zs, (zs = xs ∨ zs = xs.reverse) → Q (.ref p) (upd H2 p (.lst zs))
theorem pick_one (its : Array Value) : slicePick its none none (some 1) = its := slicePick_all its
section
variable {X : Cx} {e st : Expr} {te ts : TE} {p3 pos : Pos}
theorem pe_stepL (he : PE X e te) (hst : PE X st ts) (tl : ∀ (a b : Addr), subscripted (.Slice none none (some st) p3) false (.ref a) (.ref b) = operate [.ref a, .ref b] (getItem (.ref a) (.ref b)) := by intros; with_unfolding_all rfl) :
    PE X (.Subscript e (.Slice none none (some st) p3) pos) (tStepL X.K te ts) := by
  refine ⟨fun pins s σ H Q I h => ?_⟩
  refine Subscript_ (thn (he.run pins s σ H _ I h) ?_)
  rintro v s1 ⟨x, H1, I1, r1, q1⟩
  refine wpAny_Slice (thn (po_none.run pins s1 σ H1 (fun o G => o = none ∧ G = H1) I1 ⟨rfl, rfl⟩) ?_)
  rintro vl s2 ⟨ol, G2, I2, pl, rfl, rfl⟩
  refine thn (po_none.run pins s2 σ G2 (fun o G => o = none ∧ G = G2) I2 ⟨rfl, rfl⟩) ?_
  rintro vu s3 ⟨ou, G3, I3, pu, rfl, rfl⟩
  rw [evalPart_some]
  refine thn (hst.run pins s3 σ G3 _ I3 q1) ?_
  rintro vs s4 ⟨y, H4, I4, ry, a, xs, k, rfl, rfl, hx, hk, q⟩
  cases (show v = Value.ref a from r1)
  obtain ⟨tk, rfl⟩ := ry
  have I5 : Inv X pins σ H4 { s4 with heap := s4.heap.push { cls := .type "slice", data := .fields #[vl, vu, .int k tk] } } := I4.kept (t' := s4.toks) fun b ob z => Heap.get?_push_of_some _ z
  obtain ⟨its, rv, plain, small⟩ := I5.list hx
  have same := rv.length
  show wpAny (model X.prog X.w) X.A (subscriptTail e (.Slice none none (some st) p3) (.ref a) (.ref s4.heap.objs.size)) (EP X pins σ Q) X.xe { s4 with heap := s4.heap.push { cls := .type "slice", data := .fields #[vl, vu, .int k tk] } }
  refine tail_any (ops := [.ref a, .ref s4.heap.objs.size]) plain.isList.typeIs (PySem.slot_list_getitem.lookup) ?_ (tl a _)
  rcases hk with rfl | rfl
  · refine wpAny_getItem_list_slice plain.isList (Heap.IsSliceOf.new _ vl vu _) pl pu (IsPart.int 1 tk) (by decide) ?_ (by rw [List.size_toArray]; omega)
    rw [pick_one]
    refine ⟨.ref _, _, I5.laid (t' := s4.toks) (o := .lst xs) (fun b ob z => Heap.get?_push_of_some _ z) (Nat.le_refl _) ?_, rfl, q _ (I5.hok.fresh (Nat.le_refl _)) xs (.inl rfl)⟩
    exact ⟨small, its, 0, rv, Heap.get?_push_size _ rfl⟩
  · refine wpAny_getItem_list_slice plain.isList (Heap.IsSliceOf.new _ vl vu _) pl pu (IsPart.int (-1) tk) (by decide) ?_ (by rw [List.size_toArray]; omega)
    rw [PySem.W.krv_pick]
    refine ⟨.ref _, _, I5.laid (t' := s4.toks) (o := .lst xs.reverse) (fun b ob z => Heap.get?_push_of_some _ z) (Nat.le_refl _) ?_, rfl, q _ (I5.hok.fresh (Nat.le_refl _)) xs.reverse (.inr rfl)⟩
    exact ⟨by rw [List.length_reverse]; exact small, _, 0, rv.reverse, Heap.get?_push_size _ rfl⟩
end
/-- numbers as values -/
def nv (l : List Nat) : List V := l.map fun x => V.int (x : Nat)
theorem nv_length (l : List Nat) : (nv l).length = l.length := List.length_map ..
theorem nv_get {l : List Nat} {i : Nat} (h : i < l.length) : (nv l)[i]? = some (.int ((l.getD i 0 : Nat) : Int)) := by
  unfold nv
  rw [List.getElem?_map, List.getD_eq_getElem?_getD, List.getElem?_eq_getElem h]
  rfl
theorem nv_some {l : List Nat} {i : Nat} {v : V} (h : (nv l)[i]? = some v) : i < l.length ∧ v = .int ((l.getD i 0 : Nat) : Int) := by
  have hi : i < l.length := by
    rcases Nat.lt_or_ge i l.length with z | z
    · exact z
    · rw [List.getElem?_eq_none (by rw [nv_length]; exact z)] at h
      cases h
  rw [nv_get hi] at h
  exact ⟨hi, (Option.some.inj h).symm⟩
theorem nv_append (l m : List Nat) : nv (l ++ m) = nv l ++ nv m := List.map_append ..
theorem dpNv {K : PySem.W.Frag} {H : Hp} : ∀ l : List Nat, DpAll K H (nv l) ((l.map fun x => ((x : Nat) : Int)).map PyData.int)
  | [] => .nil
  | x :: l => .cons (.int _) (dpNv l)
end Lf
namespace Lf
open PySem PySem.Spec PyProof.Rows L2
/-! ### enumerate of a tuple -/
theorem enumNew {v : Value} {o : Obj} {G : Heap → Prop} (B : Begins v o G) :
    Meets (Builtin.«enumerate.__new__» ⟨[.type "enumerate", v], []⟩) (fun _ R s => G s.heap ∧
      R (.ok (.ret (.ref (s.heap.push o).objs.size))) { s with heap := (s.heap.push o).push { cls := .type "enumerate", data := .fields #[.none, .bool false, .ref s.heap.objs.size, rawInt 0, .none, .none] } }) :=
  .of_wp fun prog w A R s want => by
    obtain ⟨hp, gens, drawn, tok, os⟩ := s
    obtain ⟨first, want⟩ := want
    have subE := sub_enumerate
    have it0 : ∀ {A' : Around} {E : Value → Shared → Prop} {Q : Value → Shared → Prop}, Q (.ref hp.objs.size) ⟨hp.push o, gens, drawn, tok, os⟩ → wpAny (model prog w) A' (pyIter v) Q E ⟨hp, gens, drawn, tok, os⟩ := fun z => B.iter prog w _ _ ⟨hp, gens, drawn, tok, os⟩ _ first z
    wp_walk using it0
    refine wpAny_stack_any fun st => wpAny_pure ?_
    split
    · rename_i c _ _ _ _ _
      cases (c == Value.type "enumerate") <;> (wp_walk using it0; exact ⟨_, rfl, want⟩)
    · wp_walk using it0
      exact ⟨_, rfl, want⟩
theorem enumMade {prog : Program} {w : World} {A : Around} {E : Value → Shared → Prop} {s : Shared} {v : Value} {o : Obj} {G : Heap → Prop} {Q : Value → Shared → Prop} (B : Begins v o G) (first : G s.heap)
    (want : ∀ h', IsEnum h' (s.heap.objs.size + 1) s.heap.objs.size 0 .none → h'.get? s.heap.objs.size = some o → (∀ b u, s.heap.get? b = some u → h'.get? b = some u) → Q (.ref (s.heap.objs.size + 1)) { s with heap := h' }) :
    wpAny (model prog w) A (call (.type "enumerate") [v]) Q E s := by
  refine callType_new F.called_enumerate (by decide) (F.typeCall_enumerate_1 _) (F.newCall_enumerate_1 _) (fun obj => F.args_object_init_2 obj _) F.entry_enumerate_new (enumNew B) ⟨first, ?_⟩
  have size : (s.heap.push o).objs.size = s.heap.objs.size + 1 := Heap.size_push ..
  show _ ∧ _
  rw [size]
  have isE : IsEnum ((s.heap.push o).push { cls := .type "enumerate", data := .fields #[.none, .bool false, .ref s.heap.objs.size, rawInt 0, .none, .none] }) (s.heap.objs.size + 1) s.heap.objs.size 0 .none := by
    have z := Heap.get?_push_size (s.heap.push o) (o := { cls := .type "enumerate", data := .fields #[.none, .bool false, .ref s.heap.objs.size, rawInt 0, .none, .none] }) rfl
    rw [size] at z
    exact z
  exact ⟨⟨_, isE, rfl⟩, want _ isE (Heap.get?_push_of_some _ (Heap.get?_push_size _ B.free)) fun b u z => Heap.get?_push_of_some _ (Heap.get?_push_of_some _ z)⟩
/-- the tuple at a, its items in new pairs -/
def ItT (K : PySem.W.Frag) (a : Addr) : It :=
  ⟨fun i H => ∃ (xs : List V) (x : V), SqT K H a xs ∧ xs[i]? = some x, fun i H v H' => ∃ T x, v = .ref T ∧ H T = none ∧ H' = upd H T (.tup [.int (i : Nat), x]) ∧ ∀ xs, SqT K H a xs → xs[i]? = some x, fun i H => ∃ xs : List V, SqT K H a xs ∧ xs.length = i⟩
theorem walkT {K : PySem.W.Frag} {a : Addr} {xs : List V} : Walk (ItT K a) xs.length (fun H => SqT K H a xs) (YPair (fun i => some (.int (i : Nat))) (fun i => xs[i]?)) := by
  refine ⟨fun i _ hi z => ⟨xs, xs[i], z, List.getElem?_eq_getElem hi⟩, fun _ z => ⟨xs, z, rfl⟩, ?_⟩
  rintro i H v H' _ z ⟨T, x, h1, h2, h3, h4⟩
  exact ⟨T, .int (i : Nat), x, h1, h2, h3, rfl, h4 xs z⟩
theorem turnT {P : Program} {w : World} {K : PySem.W.Frag} {elts : List Expr} {kk : Nat} {tpos : Pos} (a e it : Addr) :
    Turn P w K (.Tuple elts kk tpos) (ItT K a) [e, it] e (fun i h => (∃ old, IsEnum h e it ((i : Nat) : Int) old) ∧ h.IsTupleIter it a i ∧ e ≠ it ∧ a ≠ it ∧ e ≠ a) where
  mem := List.mem_cons_self
  obj := by
    rintro i h ⟨⟨old, he⟩, ⟨o, ho, hc, hd⟩, _⟩ b hb
    rcases List.mem_cons.mp hb with rfl | hb
    · exact ⟨_, he, fun v z => nomatch z⟩
    · rw [List.mem_singleton.mp hb]
      exact ⟨o, ho, fun v z => by rw [hd] at z; cases z⟩
  keep := by
    rintro i h h' ⟨⟨old, he⟩, hi, r⟩ k
    exact ⟨⟨old, k e List.mem_cons_self _ he⟩, hi.at fun o z => k it (List.mem_cons_of_mem _ List.mem_cons_self) o z, r⟩
  item := by
    intro X hP hw hK hc i pins s σ H E I hf st hg
    subst hP hw hK
    obtain ⟨⟨old, he⟩, hit, hne, hai, hea⟩ := st
    obtain ⟨xs, x, hq, hx⟩ := hg
    obtain ⟨its, rv, tp, hz⟩ := I.tuple hq
    obtain ⟨u, hu, ru⟩ := rv.get hx
    have inb : i < its.toArray.size := by
      rw [List.size_toArray]
      rcases Nat.lt_or_ge i its.length with z | z
      · exact z
      · rw [List.getElem?_eq_none z] at hu
        cases hu
    have isT : s.heap.IsTuple a its.toArray := by
      obtain ⟨o, ho, ht, n, hd⟩ := tp
      exact ⟨o, ho, ht, n, hd⟩
    have el : e < s.heap.objs.size := Heap.lt_size he
    have il : it < s.heap.objs.size := by
      obtain ⟨_, z, _⟩ := hit
      exact Heap.lt_size z
    refine wpAny_pyNext_enum_itemD (Draws.tuple (A := X.A.in1) (I.ok.hd hc) it a hai its.toArray) he ⟨hit, isT⟩ inb hne (by simp [hne, hea]) ?_
    rintro y h1 tk hy out ⟨hit1, _⟩ pair _ kept
    have ey : y = u := by
      have z : its[i]? = some y := by simpa using hy
      rw [hu] at z
      exact (Option.some.inj z).symm
    subst ey
    refine ⟨_, rfl, wpAny_letOwnedTupleGo_enum (s := { s with heap := h1, toks := tk + 1 }) out ?_⟩
    intro h2 he2 same
    have pair2 : h2.get? s.heap.objs.size = some { cls := .type "tuple", data := .seq #[.int i tk, y] } := (same.2 _ (Nat.ne_of_gt el)).trans pair
    have new : ObjOk X.prog X.w (upd H s.heap.objs.size (.tup [.int (i : Nat), x])) h2 s.heap.objs.size (.tup [.int (i : Nat), x]) :=
      ⟨by show 2 ≤ sizeLine; decide, [.int i tk, y], .cons ⟨_, rfl⟩ (.cons ru .nil), ⟨_, pair2, rfl, _, rfl⟩⟩
    have J : Inv X pins σ (upd H s.heap.objs.size (.tup [.int (i : Nat), x])) { s with heap := h2, toks := tk + 1 } := by
      refine I.turnedNew (ch := [e, it]) ?_ hf (Nat.le_refl _) new
      intro b ob hb z
      have be : b ≠ e := fun y => hb (by simp [y])
      have bi : b ≠ it := fun y => hb (by simp [y])
      exact (same.2 b be).trans (kept b ob be bi z)
    refine ⟨.ref s.heap.objs.size, _, J, rfl, ⟨_, x, rfl, I.hok.fresh (Nat.le_refl _), rfl, fun ys hys => ?_⟩, ⟨⟨y, ?_⟩, hit1.at fun o z => (same.2 it (Ne.symm hne)).trans z, hne, hai, hea⟩, fun b hb => ?_⟩
    · rw [I.tuple_inj hys hq]
      exact hx
    · have z : ((i + 1 : Nat) : Int) = (i : Int) + 1 := by omega
      rw [z]
      exact he2
    · have bl : b < s.heap.objs.size := by
        rcases List.mem_cons.mp hb with rfl | hb
        · exact el
        · rw [List.mem_singleton.mp hb]
          exact il
      rw [upd_ne (Nat.ne_of_lt bl)]
      exact (hf b hb).1
  done := by
    intro X hP hw hK hc i pins s σ H E I hf st hg
    subst hP hw hK
    obtain ⟨⟨old, he⟩, hit, hne, hai, hea⟩ := st
    obtain ⟨xs, hq, hx⟩ := hg
    obtain ⟨its, rv, tp, hz⟩ := I.tuple hq
    have isT : s.heap.IsTuple a its.toArray := by
      obtain ⟨o, ho, ht, n, hd⟩ := tp
      exact ⟨o, ho, ht, n, hd⟩
    obtain ⟨f0, f1, f2, f3, f4, f5⟩ := hf it (List.mem_cons_of_mem _ List.mem_cons_self)
    have same := rv.length
    have size : its.toArray.size = i := by
      rw [List.size_toArray]
      omega
    have last : s.heap.IsTupleIter it a its.toArray.size ∧ s.heap.IsTuple a its.toArray := ⟨by rw [size]; exact hit, isT⟩
    refine wpAny_pyNext_enum_endD (Draws.tuple (A := X.A.in1) (I.ok.hd hc) it a hai its.toArray) he last ?_
    intro h1 ext
    exact ⟨rfl, I.turned (t' := s.toks) (fun b o hb z => ext b o hb z) f0 f1 f3 f4 f5⟩
  self := fun A i s Q E st h => by
    obtain ⟨⟨_, he⟩, _⟩ := st
    exact wpAny_pyIter_enum he h
def iEnT (K : PySem.W.Frag) (ta : TA) : TI := fun σ H R => ta σ H fun vs H1 => ∃ a xs, vs = [.ref a] ∧ SqT K H1 a xs ∧ R (ItT K a) H1
theorem pi_enumT {X : Cx} {e : Expr} {ta : TA} {p pos tpos : Pos} {elts : List Expr} {kk : Nat} (hg : Gl X "enumerate") (hm : X.mg "enumerate" = none) (ha : PA X [e] ta) (hs : starEach [e] X.env = [(false, eval e X.env)] := by rfl) :
    PI X (.Tuple elts kk tpos) (.Call (.Name "enumerate" p) [e] [] pos) (iEnT X.K ta) := by
  refine ⟨fun pins s σ H R I h => ?_⟩
  refine Call_ (ld_blt I hg hm boot_enumerate (PyProof.Rows.callWith_type1 (thn (ha.run pos pins s σ H _ I h) ?_) hs rfl))
  rintro us s1 ⟨vs, H1, I1, r1, a, xs, rfl, hq, q⟩
  obtain ⟨u, rfl, r⟩ := vals1 r1
  cases (show u = Value.ref a from r)
  obtain ⟨its, rv, tp, hz⟩ := I1.tuple hq
  have isT : s1.heap.IsTuple a its.toArray := by
    obtain ⟨o, ho, ht, n, hd⟩ := tp
    exact ⟨o, ho, ht, n, hd⟩
  have al : a < s1.heap.objs.size := by
    obtain ⟨o, ho, _⟩ := tp
    exact Heap.lt_size ho
  refine enumMade (begins_tuple a its.toArray) isT ?_
  intro h1 isE isI kept
  refine wpAny_pyIter_enum isE ?_
  have I2 : Inv X pins σ H1 { s1 with heap := h1 } := I1.kept (t' := s1.toks) kept
  refine ⟨s1.heap.objs.size + 1, [s1.heap.objs.size + 1, s1.heap.objs.size], _, _, H1, rfl, I2, turnT a (s1.heap.objs.size + 1) s1.heap.objs.size, ⟨⟨.none, isE⟩, ⟨_, isI, rfl, rfl⟩, Nat.succ_ne_self _, Nat.ne_of_lt al, Nat.ne_of_gt (Nat.lt_succ_of_lt al)⟩, fun b hb => ?_, q⟩
  have le : s1.heap.objs.size ≤ b := by
    rcases List.mem_cons.mp hb with rfl | hb
    · exact Nat.le_succ _
    · rw [List.mem_singleton.mp hb]
      exact Nat.le_refl _
  exact I1.fpOk le (I1.hok.fresh le)
end Lf
namespace Lf
open PySem PySem.Spec PyProof.Rows L2
/-! ### tuples of any kind: slices, sums, the reverse of a short one, == () -/
theorem same_newT {H : Hp} {p : Addr} {o : HO} (h : H p = none) : Same H (upd H p o) := fun b u e => by
  rw [upd_ne (ne_of_none e h)]
  exact e
section
variable {prog : Program} {w : World} {A : Around} {E : Value → Shared → Prop} {s : Shared}
theorem adjBack (n : Nat) : Builtin.Slice.sliceAdjust none none (-1) (n : Int) = ((n : Int) - 1, -1) := by
  unfold Builtin.Slice.sliceAdjust
  simp
theorem plBack (n : Nat) : Builtin.Slice.slicePlaces ((n : Int) - 1) (-1) (-1) = n := by
  unfold Builtin.Slice.slicePlaces
  have h1 : ¬ ((-1 : Int) > 0) := by decide
  simp only [h1, if_false]
  split <;> simp_all <;> omega
theorem appBack {sl : Addr} {t : Tok} {n : Nat} {Q : Int × Int × Nat → Shared → Prop} (hs : s.heap.IsSliceOf sl .none .none (.int (-1) t)) (h : Q ((n : Int) - 1, -1, n) s) :
    wpAny (model prog w) A (Builtin.Slice.sliceApplied (.ref sl) (pure (n : Int))) Q E s := by
  obtain ⟨os, hos, hcs, hds⟩ := id hs
  unfold Builtin.Slice.sliceApplied Builtin.Slice.sliceFields
  refine wpAny_bind (wpAny_bind (wpAny_field hos hds (x := .none) rfl (wpAny_bind (wpAny_field hos hds (x := .none) rfl (wpAny_bind (wpAny_field hos hds (x := .int (-1) t) rfl (wpAny_pure ?_)))))))
  refine wpAny_bind (HT.slicePart_ (IsPart.int (-1) t) ?_)
  show wpAny _ _ (if ((-1 : Int) == 0) = true then _ else _) _ _ s
  rw [if_neg (by decide)]
  refine wpAny_bind (HT.slicePart_ IsPart.none (wpAny_bind (HT.slicePart_ IsPart.none (wpAny_bind (wpAny_pure ?_)))))
  show wpAny _ _ (match Builtin.Slice.sliceAdjust none none (-1) (n : Int) with | (lo, hi) => pure (lo, (-1 : Int), Builtin.Slice.slicePlaces lo hi (-1))) _ _ s
  rw [adjBack]
  show wpAny _ _ (pure ((n : Int) - 1, (-1 : Int), Builtin.Slice.slicePlaces ((n : Int) - 1) (-1) (-1))) _ _ s
  rw [plBack]
  exact wpAny_pure h
theorem pickBack (xs : List Value) (h : xs.length ≤ 2) : ((List.range xs.toArray.size).filterMap fun (k : Nat) => xs.toArray[(((xs.toArray.size : Nat) : Int) - 1 + (k : Int) * (-1)).toNat]?).toArray = xs.reverse.toArray := by
  match xs, h with
  | [], _ => rfl
  | [a], _ => rfl
  | [a, b], _ => rfl
theorem getBack {t sl : Addr} {items : List Value} {tk : Tok} {Q : Value → Shared → Prop} (ht : IsTup s.heap t items.toArray) (hs : s.heap.IsSliceOf sl .none .none (.int (-1) tk)) (few : items.length ≤ 2)
    (h : Q (.ref s.heap.objs.size) { s with heap := s.heap.push { cls := .type "tuple", data := .seq items.reverse.toArray } }) : wpAny (model prog w) A (getItem (.ref t) (.ref sl)) Q E s := by
  have fits : sizeOk (.seq items.reverse.toArray) := by
    show items.reverse.toArray.size ≤ sizeLine
    rw [List.size_toArray, List.length_reverse, sizeLine_eq]
    omega
  obtain ⟨os, hos, hcs, hds⟩ := id hs
  have isS : s.TypeIs (.ref sl) "slice" := ⟨os, hos, hcs⟩
  unfold getItem
  try with_reducible refine wpAny_holding ?_
  first | refine wpAny_bind (wpAny_pure ?_) | skip
  refine wpAny_bind (wpAny_sequenceKey ht.typeIs (by decide) ?_)
  refine wpAny_bind (wpAny_callSpecial?_slot (name := Str.ofString "__getitem__") ht.typeIs PyProof.Rows.slot_tuple_getitem (wpAny_call_entry PyProof.Rows.slot_tuple_getitem ht.typeIs entry_tuple_getitem ?_ (args_tuple_getitem _ _)))
  show wpAny _ _ (Builtin.Tuple.tupleItemsOf (.ref t) >>= _) _ _ s
  refine wpAny_bind (tupleItemsOf_ ht (wpAny_bind (wpAny_typeOf isS ?_)))
  rw [if_pos (by decide)]
  refine wpAny_bind (appBack hs ?_)
  have no : ¬ ((((((items.toArray.size : Nat) : Int) - 1) == 0) && ((-1 : Int) == 1) && (items.toArray.size == items.toArray.size)) = true) := by
    rw [show ((-1 : Int) == 1) = false from by decide, Bool.and_false, Bool.false_and]
    exact Bool.false_ne_true
  show wpAny _ _ (if (((((items.toArray.size : Nat) : Int) - 1) == 0) && ((-1 : Int) == 1) && (items.toArray.size == items.toArray.size)) = true then _ else _) _ _ s
  rw [if_neg no, pickBack items few]
  first
    | exact wpAny_bind (m := Builtin.Tuple.tupleExact _) (wpAny_newObj_type (wpAny_pure ⟨_, rfl, wpAny_pure h⟩) fits)
    | exact wpAny_bind (m := Builtin.Tuple.tupleExact _) (wpAny_newObj_type (wpAny_bind (wpAny_pure (wpAny_pure ⟨_, rfl, wpAny_pure h⟩))) fits)
    | exact wpAny_bind (wpAny_bind (m := Builtin.Tuple.tupleExact _) (wpAny_newObj_type (wpAny_pure (wpAny_pure ⟨_, rfl, wpAny_pure h⟩)) fits))
    | exact wpAny_bind (wpAny_bind (m := Builtin.Tuple.tupleExact _) (wpAny_newObj_type (wpAny_pure ⟨_, rfl, wpAny_pure h⟩) fits))
end
section
variable {X : Cx}
def tRevT (te : TE) : TE := fun σ H Q => te σ H fun x H1 => ∃ (a : Addr) (xs : List V), x = .ref a ∧ H1 a = some (.tup xs) ∧ xs.length ≤ 2 ∧ ∀ p, H1 p = none → Q (.ref p) (upd H1 p (.tup xs.reverse))
theorem pe_revT {e : Expr} {te : TE} {k : Nat} {p1 p2 p3 pos : Pos} (he : PE X e te) : PE X (.Subscript e (.Slice none none (some (.UnaryOp .USub (.Constant (.int 1) k p1) p2)) p3) pos) (tRevT te) := by
  refine ⟨fun pins s σ H Q I h => ?_⟩
  refine Subscript_ (thn (he.run pins s σ H _ I h) ?_)
  rintro v s1 ⟨x, H1, I1, r1, a, xs, rfl, hx, few, q⟩
  cases (show v = Value.ref a from r1)
  have hst : PE X (.UnaryOp .USub (.Constant (.int 1) k p1) p2) (tUn (rU fun i => .int (-i)) (tC (.int 1))) := pe_un un_neg pe_int
  refine wpAny_Slice (thn (po_none.run pins s1 σ H1 (fun o G => o = none ∧ G = H1) I1 ⟨rfl, rfl⟩) ?_)
  rintro vl s2 ⟨ol, G2, I2, pl, rfl, rfl⟩
  refine thn (po_none.run pins s2 σ G2 (fun o G => o = none ∧ G = G2) I2 ⟨rfl, rfl⟩) ?_
  rintro vu s3 ⟨ou, G3, I3, pu, rfl, rfl⟩
  cases pl
  cases pu
  rw [evalPart_some]
  refine thn (hst.run pins s3 σ G3 (fun y G => y = .int (-1) ∧ G = G3) I3 ⟨1, rfl, rfl, rfl⟩) ?_
  rintro vs s4 ⟨y, H4, I4, ry, rfl, rfl⟩
  obtain ⟨tk, rfl⟩ := ry
  have I5 : Inv X pins σ H4 { s4 with heap := s4.heap.push { cls := .type "slice", data := .fields #[.none, .none, .int (-1) tk] } } := I4.kept (t' := s4.toks) fun b ob z => Heap.get?_push_of_some _ z
  obtain ⟨its, rv, plain, small⟩ := I5.tuple (SqT.of hx)
  have same := rv.length
  show wpAny (model X.prog X.w) X.A (subscriptTail e (.Slice none none (some (.UnaryOp .USub (.Constant (.int 1) k p1) p2)) p3) (.ref a) (.ref s4.heap.objs.size)) (EP X pins σ Q) X.xe { s4 with heap := s4.heap.push { cls := .type "slice", data := .fields #[.none, .none, .int (-1) tk] } }
  refine tail_any (ops := [.ref a, .ref s4.heap.objs.size]) plain.typeIs (PyProof.Rows.slot_tuple_getitem.lookup) ?_ (by with_unfolding_all rfl)
  refine getBack plain (Heap.IsSliceOf.new _ _ _ _) (by omega) ?_
  refine ⟨.ref _, _, I5.laid (t' := s4.toks) (o := .tup xs.reverse) (fun b ob z => Heap.get?_push_of_some _ z) (Nat.le_refl _) ?_, rfl, q _ (I5.hok.fresh (Nat.le_refl _))⟩
  exact ⟨by rw [List.length_reverse]; exact small, its.reverse, rv.reverse, IsTup.new _ _⟩
/-- a slice of a tuple: some tuple of these items -/
def rSlW : V → Option Int → Option Int → Hp → VK → Prop := fun x lo hi H Q => ∃ (a : Addr) (xs : List V), x = .ref a ∧ H a = some (.tup xs) ∧ ∀ (r : Addr) (H' : Hp), Same H H' → H' r = some (.tup (cutV xs lo hi)) → Q (.ref r) H'
theorem sl_tupW : SlR X rSlW := by
  intro pins s σ H x v vl vu lo hi sl Q I rx hs pl pu h
  obtain ⟨a, xs, rfl, hx, q⟩ := h
  refine sl_tupA pins s σ H _ v vl vu lo hi sl Q I rx hs pl pu ⟨a, xs, rfl, SqT.of hx, fun hw => ?_, fun _ p np => q p _ (same_newT np) upd_same⟩
  refine q a H (Same.refl H) ?_
  unfold cutV
  rw [hw.1, hw.2, List.drop_zero, Nat.sub_zero, List.take_length]
  exact hx
/-- a sum of tuples: some tuple of these items -/
def rCatW : R2 := fun x y H Q => ∃ (a b : Addr) (xs ys : List V), x = .ref a ∧ y = .ref b ∧ H a = some (.tup xs) ∧ H b = some (.tup ys) ∧ xs.length + ys.length ≤ sizeLine ∧ ∀ (r : Addr) (H' : Hp), Same H H' → H' r = some (.tup (xs ++ ys)) → Q (.ref r) H'
theorem op_catW : OpR X (binaryOp .Add) rCatW := by
  intro pins s σ H x y v u Q I rx ry h
  obtain ⟨a, b, xs, ys, rfl, rfl, ha, hb, small, q⟩ := h
  refine op_catA pins s σ H _ _ v u Q I rx ry ⟨a, b, xs, ys, rfl, rfl, SqT.of ha, SqT.of hb, small, fun z => ?_, fun _ z => ?_, fun _ _ p np => q p _ (same_newT np) upd_same⟩
  · subst z
    exact q b H (Same.refl H) hb
  · subst z
    refine q a H (Same.refl H) ?_
    rw [List.append_nil]
    exact ha
/-- t == () -/
theorem op_eqE (hu : X.A.units < cLine) : OpR X (compareOp .Eq) (fun x y H Q => ∃ (a b : Addr) (xs : List V), x = .ref a ∧ y = .ref b ∧ SqT X.K H a xs ∧ H b = some (.tup []) ∧ Q (.bl xs.isEmpty) H) := by
  intro pins s σ H x y v u Q I rx ry h
  obtain ⟨a, b, xs, rfl, rfl, ha, hb, q⟩ := h
  cases (show v = Value.ref a from rx)
  cases (show u = Value.ref b from ry)
  obtain ⟨its, rv, ⟨o, ho, hc, n, hd⟩, _⟩ := I.tuple ha
  obtain ⟨jts, rw', ⟨o2, ho2, hc2, n2, hd2⟩, _⟩ := I.tuple (SqT.of hb)
  cases rw'
  have e : ((List.range (min its.toArray.size ([] : List Value).toArray.size)).all (fun _ => true) && its.toArray.size == ([] : List Value).toArray.size) = xs.isEmpty := by
    have same := rv.length
    cases xs with
    | nil =>
      cases rv
      rfl
    | cons x xs =>
      cases rv with
      | cons _ _ => rfl
  refine SeqAt.eq_tupleAt (e := fun _ => true) ⟨o, ho, hc, n, hd⟩ ⟨o2, ho2, hc2, n2, hd2⟩ hu (fun j _ h2 => absurd h2 (Nat.not_lt_zero j)) ?_
  rw [e]
  exact ⟨.bl _, H, I, rfl, q⟩
/-- repr of any data -/
theorem call_reprA (hs : ∃ o, X.base.get? sysModules = some o) (hg : X.A.guards = some []) (hu : X.A.units + 200 < cLine) :
    CallR X (.builtin "repr") (fun xs H Q => ∃ (v : V) (d : PyData), xs = [v] ∧ Rp H v d ∧ d.showable = true ∧ d.depth ≤ 100 ∧ d.shown.length ≤ sizeLine ∧ Q (.str d.shown) H) := by
  intro pins s σ H xs us Q I r h
  obtain ⟨v, d, rfl, hr, h1, h2, h3, q⟩ := h
  cases hr with
  | non =>
    obtain ⟨u, rfl, r1⟩ := vals1 r
    cases (show u = Value.none from r1)
    exact PySem.P.repr_of_none ⟨.str _, H, I.tok _, ⟨_, rfl⟩, q⟩
  | bl b =>
    obtain ⟨u, rfl, r1⟩ := vals1 r
    cases (show u = Value.bool b from r1)
    exact PySem.P.repr_of_bool ⟨.str _, H, I.tok _, ⟨_, rfl⟩, q⟩
  | int i =>
    obtain ⟨u, rfl, t, rfl⟩ := vals1 r
    exact PySem.P.repr_of_int (of_decide_eq_true h1) ⟨.str _, H, I.tok _, ⟨_, rfl⟩, q⟩
  | str x =>
    obtain ⟨u, rfl, t, rfl⟩ := vals1 r
    exact PySem.P.repr_of_str ⟨.str _, H, I.tok _, ⟨_, rfl⟩, q⟩ h3
  | lst e z => exact call_repr hs hg hu pins s σ H _ us Q I r ⟨_, _, rfl, .lst e z, h1, h2, h3, q⟩
  | tup e z => exact call_repr hs hg hu pins s σ H _ us Q I r ⟨_, _, rfl, .tup e z, h1, h2, h3, q⟩
  | ftp e z => exact call_repr hs hg hu pins s σ H _ us Q I r ⟨_, _, rfl, .ftp e z, h1, h2, h3, q⟩
  | dct e z => exact call_repr hs hg hu pins s σ H _ us Q I r ⟨_, _, rfl, .dct e z, h1, h2, h3, q⟩
end
/-! ### kinds -/
def tyD : PyData → String
  | .none => "NoneType"
  | .bool _ => "bool"
  | .int _ => "int"
  | .str _ => "str"
  | .list _ => "list"
  | .tuple _ => "tuple"
  | .dict _ => "dict"
theorem Rp.ty {K : PySem.W.Frag} {H : Hp} {v : V} {d : PyData} (h : Rp H v d) : TyX K H v (.type (tyD d)) := by
  cases h with
  | non => exact .base .non
  | bl b => exact .base (.bl b)
  | int i => exact .base (.int i)
  | str x => exact .base (.str x)
  | lst e _ => exact .base (.lst e)
  | tup e _ => exact .base (.tup e)
  | ftp e _ => exact .fTuple e
  | dct e _ => exact .base (.dK e)
theorem kInt {K : PySem.W.Frag} (d : PyData) : PySem.W.kitOne K (.type (tyD d)) (.type "int") = some (match d with | .int _ => true | .bool _ => true | _ => false) := by
  cases d with
  | none => exact kit_ty (show kitB "NoneType" "int" = some false by decide +kernel)
  | bool _ => exact kit_ty (show kitB "bool" "int" = some true by decide +kernel)
  | int _ => exact kit_ty (show kitB "int" "int" = some true by decide +kernel)
  | str _ => exact kit_ty (show kitB "str" "int" = some false by decide +kernel)
  | list _ => exact kit_ty (show kitB "list" "int" = some false by decide +kernel)
  | tuple _ => exact kit_ty (show kitB "tuple" "int" = some false by decide +kernel)
  | dict _ => exact kit_ty (show kitB "dict" "int" = some false by decide +kernel)
theorem kBool {K : PySem.W.Frag} (d : PyData) : PySem.W.kitOne K (.type (tyD d)) (.type "bool") = some (match d with | .bool _ => true | _ => false) := by
  cases d with
  | none => exact kit_ty (show kitB "NoneType" "bool" = some false by decide +kernel)
  | bool _ => exact kit_ty (show kitB "bool" "bool" = some true by decide +kernel)
  | int _ => exact kit_ty (show kitB "int" "bool" = some false by decide +kernel)
  | str _ => exact kit_ty (show kitB "str" "bool" = some false by decide +kernel)
  | list _ => exact kit_ty (show kitB "list" "bool" = some false by decide +kernel)
  | tuple _ => exact kit_ty (show kitB "tuple" "bool" = some false by decide +kernel)
  | dict _ => exact kit_ty (show kitB "dict" "bool" = some false by decide +kernel)
theorem kTup {K : PySem.W.Frag} (d : PyData) : PySem.W.kitOne K (.type (tyD d)) (.type "tuple") = some (match d with | .tuple _ => true | _ => false) := by
  cases d with
  | none => exact kit_ty (show kitB "NoneType" "tuple" = some false by decide +kernel)
  | bool _ => exact kit_ty (show kitB "bool" "tuple" = some false by decide +kernel)
  | int _ => exact kit_ty (show kitB "int" "tuple" = some false by decide +kernel)
  | str _ => exact kit_ty (show kitB "str" "tuple" = some false by decide +kernel)
  | list _ => exact kit_ty (show kitB "list" "tuple" = some false by decide +kernel)
  | tuple _ => exact kit_ty (show kitB "tuple" "tuple" = some true by decide +kernel)
  | dict _ => exact kit_ty (show kitB "dict" "tuple" = some false by decide +kernel)
end Lf
namespace Lf
open PySem PySem.Spec PyProof.Rows L2
/-! ### the first error: plain mathematics -/
def isInt : PyData → Bool
  | .int _ => true
  | _ => false
def isV (n : Nat) : PyData → Bool
  | .int i => decide (0 ≤ i) && decide (i < n)
  | _ => false
def unD : PyData → Nat
  | .int i => i.toNat
  | _ => 0
def it (fs : List Nat) : Nat → Nat → Nat
  | 0, v => v
  | k + 1, v => par fs (it fs k v)
def lead (fs : List Nat) (k v : Nat) : Bool := decide (par fs (it fs k v) = it fs k v)
def bad (ds : List PyData) (k : Nat) : Bool := !isV ds.length (ds.getD k .none)
def cyc (fs : List Nat) (v : Nat) : Bool := !lead fs fs.length v
def errD : PyData → PyData
  | .tuple ds => if ds.length = 0 ∨ 24 < ds.length then .tuple [.none, .str "length"] else
      match (List.range ds.length).find? (bad ds) with
      | some k => .tuple [.int (k : Nat), .str "parent"]
      | none => match (List.range ds.length).find? (cyc (ds.map unD)) with
        | some v => .tuple [.int (v : Nat), .str "cycle"]
        | none => .none
  | _ => .tuple [.none, .str "tuple"]
theorem find_first {p : Nat → Bool} {n i : Nat} (hi : i < n) (hp : p i = true) (h : ∀ j, j < i → p j = false) : (List.range n).find? p = some i := by
  rw [List.find?_range_eq_some]
  exact ⟨hp, List.mem_range.mpr hi, fun j hj => by rw [h j hj]; rfl⟩
theorem find_none {p : Nat → Bool} {n : Nat} (h : ∀ j, j < n → p j = false) : (List.range n).find? p = none := by
  rw [List.find?_eq_none]
  intro x hx
  rw [h x (List.mem_range.mp hx)]
  exact Bool.false_ne_true
theorem filter_find {p : Nat → Bool} {n : Nat} : ((List.range n).filter p)[0]? = (List.range n).find? p := by
  rw [← List.head?_filter, List.head?_eq_getElem?]
/-- steps taken the other way round -/
theorem it_par (fs : List Nat) (v : Nat) : ∀ k, it fs k (par fs v) = it fs (k + 1) v
  | 0 => rfl
  | k + 1 => by
    show par fs (it fs k (par fs v)) = par fs (it fs (k + 1) v)
    rw [it_par fs v k]
theorem lead_succ {fs : List Nat} {k v : Nat} : lead fs (k + 1) v = (lead fs k v || lead fs k (par fs v)) := by
  unfold lead
  rw [it_par]
  by_cases h : par fs (it fs k v) = it fs k v
  · have e : it fs (k + 1) v = it fs k v := h
    rw [e, decide_eq_true h]
    rfl
  · rw [decide_eq_false h]
    rfl
theorem it_lt {fs : List Nat} (rng : ∀ v, v < fs.length → par fs v < fs.length) {v : Nat} (h : v < fs.length) : ∀ k, it fs k v < fs.length
  | 0 => h
  | k + 1 => rng _ (it_lt rng h k)
end Lf
namespace Lf
open PySem PySem.Spec PyProof.Rows L2

/-! ### own errors as values -/
/-- C(e), C's own __init__ keeping its one argument under the name f -/
def spInit (K : PySem.W.Frag) (C : Addr) (f : Str) : Sp := fun vs H Q _ => ∃ (a : Addr) (v : V), vs = [.ref a, v] ∧ H a = some (exo a C none) ∧
  ∀ dx, H dx = none → dx ≠ a → Q .non (upd (upd H dx (exd dx [(f, v)])) a (exo a C (some dx)))
/-- what the class C must say, so that isinstance asks its instances rightly, and their fields are read -/
structure ExK (K : PySem.W.Frag) (C : Addr) : Prop where
  cl : (PySem.W.clsIn K C).isSome = true
  ga : PySem.W.findIn K (.ref C) "__getattribute__" = some (some (.builtin "BaseException.__getattribute__"))
  gg : PySem.W.findIn K (.ref C) "__getattr__" = some none
  sb : PySem.W.subIn K (.ref C) (.type "BaseException") = some true
  ca : PySem.W.findIn K (.ref C) "__class__" = some (some (.builtin "object.__class__"))
  cg : PySem.W.specialIn K (.builtin "object.__class__") "__get__" = some (some (.builtin "getset_descriptor.__get__"))
  ct : PySem.W.takesIn K (.builtin "object.__class__") = some true
  cm : PySem.W.mroIn K C (.type "object") = some true
  hd : PySem.W.hasDictIn K C = true
/-- an error of the class at C stands at a -/
def IsEx (H : Hp) (a C : Addr) : Prop := H a = some (exo a C none) ∨ ∃ (d : Addr) (fs : List (Str × V)), H a = some (exo a C (some d)) ∧ H d = some (exd d fs)
theorem IsEx.mono {H H' : Hp} {a C : Addr} (k : ∀ b o, H b = some o → H' b = some o) : IsEx H a C → IsEx H' a C
  | .inl h => .inl (k _ _ h)
  | .inr ⟨d, fs, h1, h2⟩ => .inr ⟨d, fs, k _ _ h1, k _ _ h2⟩
def rIsx (K : PySem.W.Frag) : List V → Hp → VK → Prop := fun xs H Q => ∃ (a C : Addr) (c : V) (u : Value) (b : Bool), xs = [.ref a, c] ∧ IsEx H a C ∧ ClsV c u ∧ ExK K C ∧ PySem.W.kitOne K (.ref C) u = some b ∧ Q (.bl b) H
section
variable {X : Cx} {x : Str} {p pos : Pos} {e : Expr} {te : TE}
/-- C(), an own error class without own __init__ -/
theorem pe_exc0 {C : Addr} {bmB : List Value} {B newId initId : String} (FB : ExcBaseFacts B newId initId bmB) (ex : PySem.W.excIn X.K C bmB newId = true) (gC : X.mg x = some (.ref C)) (kC : PySem.W.keepIn X.K (.ref C) = true) (hg : Gl X x)
    (hdb : (x == ("__debug__" : Str)) = false := by decide) :
    PE X (.Call (.Name x p) [] [] pos) (fun σ H Q => ∀ a, H a = none → Q (.ref a) (upd H a (exo a C none))) := by
  refine ⟨fun pins s σ H Q I h => ?_⟩
  refine wpAny_Call_Name_kw (ld_glob I hg gC ?_ hdb)
  apply PySem.W.callWith_K0 I.kIn kC
  obtain ⟨bm, N, nm, qn, bs, hdct, sn, sub, ab, col, dd, k0, k1, k2, k3, k5, mN, hC, hN, hni, tail⟩ := exc_obj I.kIn ex
  show wpAny _ _ (call (.ref C) []) _ _ _
  refine wpAny_call_exc_subT FB tail hC hN hni ?_ (by show 0 ≤ sizeLine; omega)
  intro h' a made
  have new : H a = none := I.hok.gone made.new
  obtain ⟨t, there, _, _⟩ := made.there
  exact ⟨.ref a, _, I.laidN made.keeps made.new new (exo_ok there), rfl, h a new⟩
/-- C(e): the new error and its own dict -/
theorem pe_excF {C fI : Addr} {k : Nat} {fd : FuncData} {f : Str} (T : OexC X.K C) (iC : PySem.W.findIn X.K (.ref C) "__init__" = some (some (.ref fI))) (tI : PySem.W.typeIn X.K (.ref fI) = some (.type "function"))
    (F1 : FnOk X.prog X.w X.K X.mg X.base CX0 k fI fd ["self", f] (spInit X.K C f)) (room : Room (k + 1) X.A) (hb : Binds X.K fd ["self", f] []) (hg : Gl X x) (hm : X.mg x = some (.ref C)) (he : PE X e te)
    (hdb : (x == ("__debug__" : Str)) = false := by decide) (hst : starEach [e] X.env = (false, eval e X.env) :: starEach [] X.env := by rfl) :
    PE X (.Call (.Name x p) [e] [] pos) (fun σ H Q => te σ H fun v H1 => ∀ a d, H1 a = none → H1 d = none → a ≠ d → Q (.ref a) (upd (upd H1 d (exd d [(f, v)])) a (exo a C (some d)))) := by
  refine ⟨fun pins s σ H Q I h => ?_⟩
  obtain ⟨nm, q, N, bs, bm, sn, sub, ab, col, dd, k0, k1, k2, k3, k5, hC, hbm⟩ := T.cls
  refine wpAny_Call_Name_kw (ld_glob I hg hm ?_ hdb)
  refine PySem.W.callWith_K (h₀ := X.base) I.ok.mod.kin T.kC ?_ hst (by rfl)
  rw [hst]
  show wpAny _ _ (spliced ((false, eval e X.env) :: backTo pos (starEach [] X.env))) _ _ s
  refine Calls.spliced_cons (thn (he.run pins s σ H _ I h) ?_)
  rintro u s1 ⟨v, H1, I1, r1, q1⟩
  refine Calls.spliced_nil ⟨I1.kIn, ?_⟩
  show wpAny _ _ (call (.ref C) [u]) _ _ _
  obtain ⟨hp, g, dr, tk, os⟩ := s1
  let a := hp.objs.size + 1
  let hp2 := (hp.push (PySem.W.kdv_tup [u])).push (PySem.HandSPX.excO C hp.objs.size)
  have up : hp.objs.size ≤ a := Nat.le_succ _
  have na : H1 a = none := I1.hok.fresh up
  have kept : ∀ b o, hp.get? b = some o → hp2.get? b = some o := fun b o z => Heap.get?_push_of_some _ (Heap.get?_push_of_some _ z)
  have there : hp2.get? a = some (PySem.HandSPX.excO C hp.objs.size) := by
    show ((hp.push (PySem.W.kdv_tup [u])).push (PySem.HandSPX.excO C hp.objs.size)).get? (hp.objs.size + 1) = _
    heap_get
  have I2 : Inv X pins σ (upd H1 a (exo a C none)) ⟨hp2, g, dr, tk, os⟩ := I1.laid (t' := tk) kept up (exo_ok there)
  have want : spInit X.K C f [.ref a, v] (upd H1 a (exo a C none)) (fun y H2 => y = .non ∧ ∃ d, H1 d = none ∧ a ≠ d ∧ H2 = upd (upd H1 d (exd d [(f, v)])) a (exo a C (some d))) (fun _ _ _ => False) := by
    refine ⟨a, v, rfl, upd_same, fun d hd hda => ⟨rfl, d, ?_, fun z => hda z.symm, ?_⟩⟩
    · rw [upd_ne hda] at hd
      exact hd
    · funext b
      by_cases h1 : b = a
      · rw [h1, upd_same, upd_same]
      · rw [upd_ne h1, upd_ne h1]
        by_cases h2 : b = d
        · rw [h2, upd_same, upd_same]
        · rw [upd_ne h2, upd_ne h2, upd_ne h1]
  have pairs : Vals [V.ref a, v] [Value.ref a, u] := .cons rfl (.cons r1 .nil)
  refine wpAny_call (PySem.HandSPX.call_own F.excBase_ValueError (fun Y => PySem.HandSPX.refsVE_contains Y bm hbm) (I1.kIn _ _ hC) (PySem.W.looks_findIn I1.kIn iC) (fun self => PySem.W.bind_fn I1.kIn self tI) (by show 1 ≤ sizeLine; rw [sizeLine_eq]; omega) ?_)
  have run := F1.run _ X.stack _ _ ⟨[Value.ref a, u], []⟩ [Value.ref a, u] _ _ (fun _ _ _ => False) (room.make C [u] []) (I2.env0.make C [u] []) (hb _ [Value.ref a, u] I2.kIn rfl) pairs want
  refine codeAny_mono run ?_
  intro r s' got
  cases r with
  | error er => exact False.elim got
  | ok fl =>
    cases fl with
    | next => exact False.elim got
    | brk => exact False.elim got
    | cont => exact False.elim got
    | ret y =>
      obtain ⟨yv, H2, hos, bare, un, held, ry, rfl, d, hd, had, rfl⟩ := got
      have U : Un (frs X.stack) [] H1 (upd (upd H1 d (exd d [(f, v)])) a (exo a C (some d))) hp s'.heap := (Un.laid kept up na).trans un
      refine ⟨ry, ⟨.ref a, _, I1.call' (ch := []) hos U held bare (fun b z => nomatch z), rfl, q1 a d na hd had⟩⟩
/-- isinstance(e, c), e an own error -/
theorem call_isx : CallR X (.builtin "isinstance") (rIsx X.K) := by
  intro pins s σ H xs us Q I r h
  obtain ⟨a, C, c, u, b, rfl, hx, hc, T, ek, q⟩ := h
  obtain ⟨u1, u2, rfl, r1, r2⟩ := vals2 r
  cases (show u1 = Value.ref a from r1)
  have e2 := hc.eq r2
  subst e2
  rcases hx with hx | ⟨d, fs, hx, hd⟩
  · obtain ⟨t1, ho⟩ := exo_at I.hok hx
    exact PySem.W.kia_one (PySem.W.kitx_exc (ox := { cls := .ref C, dict := none, data := .fields #[.ref t1, .none, .none, .none, .bool false, .none] }) (od := none) T.cl T.ga T.gg T.sb T.ca T.cg T.ct T.cm) I.kIn ⟨ho, rfl, rfl, trivial⟩ ek (fun z => nomatch z)
      fun tk => ⟨.bl b, H, I.tok tk, rfl, q⟩
  · obtain ⟨t1, ho⟩ := exo_at I.hok hx
    obtain ⟨mA, ⟨od, es, ep, hod, _⟩, _⟩ := exd_at I.hok hd
    exact PySem.W.kia_one (PySem.W.kitx_exc (ox := { cls := .ref C, dict := some d, data := .fields #[.ref t1, .none, .none, .none, .bool false, .none] }) (od := some od) T.cl T.ga T.gg T.sb T.ca T.cg T.ct T.cm) I.kIn ⟨ho, rfl, rfl, hod⟩ ek (fun z => nomatch z)
      fun tk => ⟨.bl b, H, I.tok tk, rfl, q⟩
/-- e.f, e an own error -/
theorem pe_exf {C : Addr} {f : Str} (T : ExK X.K C) (hno : PySem.W.findIn X.K (.ref C) f = some none) (he : PE X e te) (hb : attributeBase e f X.env (eval e X.env) = eval e X.env := by rfl) :
    PE X (.Attribute e f pos) (fun σ H Q => te σ H fun y H1 => ∃ (a d : Addr) (v : V), y = .ref a ∧ H1 a = some (exo a C (some d)) ∧ H1 d = some (exd d [(f, v)]) ∧ Q v H1) := by
  refine ⟨fun pins s σ H Q I h => ?_⟩
  refine attr_of hb (thn (he.run pins s σ H _ I h) ?_)
  rintro u s1 ⟨y, H1, I1, ry, a, d, v, rfl, ha, hd, q⟩
  cases (show u = Value.ref a from ry)
  obtain ⟨t1, ho⟩ := exo_at I1.hok ha
  obtain ⟨mA, hns, rel⟩ := exd_at I1.hok hd
  obtain ⟨od, hod, hl⟩ := lookIn_ns hns
  have lk : List.lookup f [(f, v)] = some v := by simp [List.lookup]
  obtain ⟨w, hw, rw'⟩ := RelO.some_of (v := v) (o := mA f) (by rw [← lk]; exact rel f)
  have J : PySem.W.InstAt s1.heap a { cls := .ref C, dict := some d, data := .fields #[.ref t1, .none, .none, .none, .bool false, .none] } C (some od) := ⟨ho, rfl, rfl, hod⟩
  exact HandSPX.exc_get I1.kIn J T.ga T.gg T.sb (PySem.W.findObj_own T.hd hno rfl (by rw [hl, hw])) (handed_of rw') ⟨v, H1, I1.tok _, rw', q⟩
end
/-- def __init__(self, f): self.f = f -/
theorem ok_init {P : Program} {w : World} {K : PySem.W.Frag} {mg : Str → Option Value} {base : Heap} {C fI : Addr} {fd : FuncData} {f qual : Str} {st : Stmt} (Fn : Fun K "__init__" qual st fI fd) (Sc : FnScope ["self", f] ["self", f] (defScope st)) (T : OexC K C) (hno : PySem.W.findIn K (.ref C) f = some none)
    (body : ∃ q1 q2 q3 q4, defBody st = [.Assign [.Attribute (.Name "self" q1) f q2] (.Name f q3) q4]) (v0 : Vis (defScope st) "self") (v1 : Vis (defScope st) f) (d1 : (f == Str.ofString "__debug__") = false) (d2 : (f == Str.ofString "__classdict__") = false) :
    FnOk P w K mg base CX0 1 fI fd ["self", f] (spInit K C f) := by
  refine Fn.ok Sc (fun vs H Q E h => ?_) (fun cdv A outer s H vs Q E hr h => ?_)
  · obtain ⟨a, v, rfl, _⟩ := h
    rfl
  · obtain ⟨a, v, rfl, ha, q⟩ := h
    obtain ⟨q1, q2, q3, q4, eb⟩ := body
    rw [eb]
    refine ⟨_, pss_one (ps_ost (pe_var (i := 0) rfl v0) (pe_var (i := 1) rfl v1 (hd := d1) (hcd := d2))), ?_⟩
    exact ⟨v, rfl, .ref a, rfl, a, C, rfl, T, hno, .inl ⟨ha, fun dx hd hne => q dx hd hne⟩⟩
end Lf
namespace Lf
open PySem PySem.Spec PyProof.Rows L2
/-! ### own errors with one field, raised and caught -/
section
variable {X : Cx}
theorem inst_caught {a D dd : Addr} {oe : Obj} {pn pins : List (Addr × Obj)} {σ : L2.St} {H : Hp} {s : Shared} {fs : List (Str × V)} (I : Inv (X.suite a ((a, oe) :: pn)) pins σ H s) (hz : Zc (.ref D) (some dd) oe) (hf : ∃ vs, oe.data = .fields vs) (hd : H dd = some (.xd fs)) :
    ∃ od, PySem.W.InstAt s.heap a oe D (some od) := by
  obtain ⟨ha, _⟩ := I.pin (a, oe) (List.mem_append_left _ List.mem_cons_self)
  obtain ⟨vs, hv⟩ := hf
  have hx : ObjOk X.prog X.w H s.heap dd (.xd fs) := I.hok dd _ hd
  obtain ⟨mA, hns, hr⟩ := hx
  obtain ⟨od, ho, hl⟩ := lookIn_ns hns
  exact ⟨od, ha, hz.1, by unfold PySem.W.notCls; rw [hv] <;> rfl, by rw [hz.2]; exact ho⟩
/-- isinstance(e, c), e the error that the suite holds, with its dict -/
def rIsD (K : PySem.W.Frag) (D a : Addr) (cls : Value) (d : Option Addr) : List V → Hp → VK → Prop := fun xs H Q => ∃ (c : V) (cv : Value) (b : Bool) (dd : Addr) (fs : List (Str × V)), xs = [.ref a, c] ∧ cls = .ref D ∧ d = some dd ∧ H dd = some (.xd fs) ∧ ClsV c cv ∧ PySem.W.kitOne K (.ref D) cv = some b ∧ Q (.bl b) H
theorem call_isD {a D : Addr} {cls : Value} {d : Option Addr} {oe : Obj} {pn : List (Addr × Obj)} (T : ExK X.K D) (hz : Zc cls d oe) (hf : ∃ vs, oe.data = .fields vs) : CallR (X.suite a ((a, oe) :: pn)) (.builtin "isinstance") (rIsD X.K D a cls d) := by
  intro pins s σ H xs us Q I r h
  obtain ⟨c, cv, b, dd, fs, rfl, rfl, rfl, hd, hc, ek, q⟩ := h
  obtain ⟨u1, u2, rfl, r1, r2⟩ := vals2 r
  cases (show u1 = Value.ref a from r1)
  have e2 := hc.eq r2
  subst e2
  obtain ⟨od, J⟩ := inst_caught I hz hf hd
  exact PySem.W.kia_one (PySem.W.kitx_exc T.cl T.ga T.gg T.sb T.ca T.cg T.ct T.cm) I.kIn J ek (fun z => nomatch z) fun tk => ⟨.bl b, H, I.kept (t' := tk) fun _ _ z => z, rfl, q⟩
/-- isinstance(e, (c1, c2, ..)) -/
def rIsDT (K : PySem.W.Frag) (D a : Addr) (cls : Value) (d : Option Addr) : List V → Hp → VK → Prop := fun xs H Q => ∃ (t : Addr) (cs : List V) (b : Bool) (dd : Addr) (fs : List (Str × V)), xs = [.ref a, .ref t] ∧ cls = .ref D ∧ d = some dd ∧ H dd = some (.xd fs) ∧ H t = some (.tup cs) ∧ (∀ its, Vals cs its → PySem.W.kitAny K (.ref D) its = some b) ∧ Q (.bl b) H
theorem call_isDT {a D : Addr} {cls : Value} {d : Option Addr} {oe : Obj} {pn : List (Addr × Obj)} (T : ExK X.K D) (hz : Zc cls d oe) (hf : ∃ vs, oe.data = .fields vs) : CallR (X.suite a ((a, oe) :: pn)) (.builtin "isinstance") (rIsDT X.K D a cls d) := by
  intro pins s σ H xs us Q I r h
  obtain ⟨t, cs, b, dd, fs, rfl, rfl, rfl, hd, ht, ek, q⟩ := h
  obtain ⟨u1, u2, rfl, r1, r2⟩ := vals2 r
  cases (show u1 = Value.ref a from r1)
  cases (show u2 = Value.ref t from r2)
  obtain ⟨od, J⟩ := inst_caught I hz hf hd
  obtain ⟨its, rv, ⟨⟨oc, odd, oda, osl⟩, ho, hc, n, hd'⟩, _⟩ := I.tuple (SqT.of ht)
  dsimp only at hc hd'
  subst hc hd'
  exact PySem.W.kia_tup (PySem.W.kitx_exc T.cl T.ga T.gg T.sb T.ca T.cg T.ct T.cm) I.kIn J ho (ek its rv) (fun z => nomatch z) fun tk => ⟨.bl b, H, I.kept (t' := tk) fun _ _ z => z, rfl, q⟩
/-- what raise C(v) leaves: some heap that keeps all, with the error's dict -/
theorem made_out {H H1 : Hp} {C : Addr} {f : Str} {v : V} {Q : XK} (sm : Same H H1) (q : ∀ (d : Addr) (H' : Hp), Same H H' → H d = none → H' d = some (.xd [(f, v)]) → Q (.ref C) (some d) H') (a : Addr) (na : H1 a = none) (d : Addr) (nd : (upd H1 a (exo a C none)) d = none) (ne : d ≠ a) :
    ∃ (d' : Addr) (fs : List (Str × V)), (upd (upd (upd H1 a (exo a C none)) d (exd d [(f, v)])) a (exo a C (some d))) a = some (exo a C (some d')) ∧ (upd (upd (upd H1 a (exo a C none)) d (exd d [(f, v)])) a (exo a C (some d))) d' = some (exd d' fs) ∧ H1 d' = none ∧
      Q (.ref C) (some d') (upd (del (upd (upd (upd H1 a (exo a C none)) d (exd d [(f, v)])) a (exo a C (some d))) a) d' (.xd fs)) := by
  have nd1 : H1 d = none := by
    rw [upd_ne ne] at nd
    exact nd
  refine ⟨d, [(f, v)], upd_same, by rw [upd_ne ne, upd_same], nd1, q d _ (fun b o e => ?_) (sm.free nd1) upd_same⟩
  have e1 := sm _ _ e
  have b1 : b ≠ a := ne_of_none e1 na
  have b2 : b ≠ d := ne_of_none e1 nd1
  rw [upd_ne b2, del_ne b1, upd_ne b1, upd_ne b2, upd_ne b1]
  exact e1
end
end Lf
namespace Lf
open PySem PySem.Spec PyProof.Rows L2
theorem flatNv : ∀ l : List Nat, (nv l).all flatV = true
  | [] => rfl
  | _ :: l => flatNv l
section
variable {X : Cx}
/-- xs[i] read ahead of xs[i] += e, i a place of the list -/
theorem get_listN : PGet X (fun x y H Q => ∃ (p : Addr) (xs : List V) (i : Nat) (v : V), x = .ref p ∧ y = .int (i : Nat) ∧ SqL X.K H p xs ∧ xs[i]? = some v ∧ Q v H) := by
  intro pins s σ H o i ov iv Q I ro ri h
  obtain ⟨p, xs, k, v, rfl, rfl, hq, hv, q⟩ := h
  cases (show ov = Value.ref p from ro)
  obtain ⟨t, rfl⟩ := ri
  obtain ⟨its, rv, plain, small⟩ := I.list hq
  obtain ⟨u, hu, ru⟩ := rv.get hv
  have same := rv.length
  have kl : k < its.length := by
    rcases Nat.lt_or_ge k its.length with z | z
    · exact z
    · rw [List.getElem?_eq_none z] at hu
      cases hu
  rw [sizeLine_eq] at small
  exact wpAny_getItem_list plain.isList (by omega) (by omega) (by simpa using hu) ⟨v, H, I, ru, q⟩
/-- t.index(x), a number's first place -/
theorem mt_tup_indexN : MtR X "tuple.index" (fun x xs H Q => ∃ (p : Addr) (ys : List Nat) (z j : Nat), x = .ref p ∧ xs = [.int (z : Nat)] ∧ SqT X.K H p (nv ys) ∧ ys[j]? = some z ∧ (∀ m, m < j → ys[m]? ≠ some z) ∧ Q (.int (j : Nat)) H) := by
  intro pins s σ H x xs v us Q I rx rs h
  obtain ⟨p, ys, z, j, rfl, rfl, hq, hy, hno, q⟩ := h
  cases (show v = Value.ref p from rx)
  obtain ⟨u, rfl, t, rfl⟩ := vals1 rs
  obtain ⟨its, rv, plain, small⟩ := I.tuple hq
  obtain ⟨⟨cls, dd, dt, sl⟩, ho, hc, n, hd⟩ := plain
  simp only at hc hd
  subst hc hd
  have size : its.toArray.size = ys.length := by rw [List.size_toArray, ← rv.length, nv_length]
  have hj : j < its.toArray.size := by
    rw [size]
    exact (List.getElem?_eq_some_iff.mp hy).1
  have place : ∀ (m : Nat) (hm : m < its.toArray.size), ∃ (y : Nat) (t' : Tok), ys[m]? = some y ∧ its.toArray[m] = Value.int (y : Nat) t' := by
    intro m hm
    have hm' : m < ys.length := by
      rw [← size]
      exact hm
    obtain ⟨w, hw, t', hw'⟩ := rv.get (i := m) (x := .int ((ys.getD m 0 : Nat) : Int)) (nv_get hm')
    refine ⟨ys.getD m 0, t', ?_, ?_⟩
    · rw [List.getD_eq_getElem?_getD, List.getElem?_eq_getElem hm']
      rfl
    · have e := (List.getElem?_eq_some_iff.mp hw).2
      rw [← hw', ← e]
      simp
  refine call_meets PySem.F.slot_tuple_index ⟨_, ho, rfl⟩ PySem.F.entry_tuple_index (PySem.F.args_tuple_index_2 _ _) (TI.tuple_indexAt p its.toArray n dd sl (.int (z : Nat) t) (eqU (.int (z : Nat))) j hj ?_ ?_)
    ⟨ho, fun w hw => mem_eqAt (x := .int (z : Nat)) ⟨t, rfl⟩ rfl rv (flatNv ys) w (by simpa using hw), ⟨.int (j : Nat), H, I.tok _, ⟨_, rfl⟩, q⟩⟩
  · obtain ⟨y, t', h1, h2⟩ := place j hj
    rw [hy] at h1
    cases h1
    rw [h2]
    show (((z : Nat) : Int) == ((z : Nat) : Int)) = true
    exact beq_self_eq_true _
  · intro m hm hmj
    obtain ⟨y, t', h1, h2⟩ := place m hm
    rw [h2]
    show (((y : Nat) : Int) == ((z : Nat) : Int)) = false
    refine beq_eq_false_iff_ne.mpr fun e => hno m hmj ?_
    rw [h1]
    have : y = z := by omega
    rw [this]
/-- tuple(a list), the new tuple known to the object -/
theorem call_tupleF : CallR X (.type "tuple") (fun xs H Q => ∃ (p : Addr) (ys : List V), xs = [.ref p] ∧ SqL X.K H p ys ∧ ∀ (l : Addr) (o : Obj), H l = none → o.cls = .type "tuple" → o.dict = none → Q (.ref l) (upd H l (.frz o (.tup ys)))) := by
  intro pins s σ H xs us Q I r h
  obtain ⟨p, ys, rfl, hq, q⟩ := h
  obtain ⟨u, rfl, rx⟩ := vals1 r
  cases (show u = Value.ref p from rx)
  obtain ⟨its, rv, plain, small⟩ := I.list hq
  have same := rv.length
  refine call_tuple_list plain.isList ?_ (by simp only [List.size_toArray] <;> omega)
  intro h1 kept
  have I1 : Inv X pins σ H { s with heap := h1 } := I.kept (t' := s.toks) kept
  have at1 : (h1.push { cls := .type "tuple", data := .seq its.toArray }).get? h1.objs.size = some { cls := .type "tuple", data := .seq its.toArray } := Heap.get?_push_size _ rfl
  refine ⟨.ref h1.objs.size, _, I1.laid (t' := s.toks) (o := .frz { cls := .type "tuple", data := .seq its.toArray } (.tup ys)) (fun b o z => Heap.get?_push_of_some _ z) (Nat.le_refl _) ?_, rfl, q _ _ (I1.hok.fresh (Nat.le_refl _)) rfl rfl⟩
  exact ⟨at1, small, its, rv, IsTup.new _ _⟩
/-- the call of a method of such a tuple -/
def tTM (r : V → List V → Hp → VK → Prop) (to : TE) (t : TA) : TE := fun σ H Q => to σ H fun x H1 => (∃ (p : Addr) (o : Obj) (xs : List V), x = .ref p ∧ H1 p = some (.frz o (.tup xs)) ∧ o.cls = .type "tuple" ∧ o.dict = none) ∧ t σ H1 fun ys H2 => r x ys H2 Q
theorem pe_tm {o e : Expr} {to : TE} {t : TA} {name : Str} {apos cpos : Pos} {id : String} {r : V → List V → Hp → VK → Prop} (pa : PlainAttrs "tuple") (slot : Slot "tuple" name id) (hty : typeOf (.builtin id) = pure (.type "method_descriptor")) (hm : MtR X id r) (ho : PE X o to) (ha : PA X [e] t)
    (hbase : attributeBase o name X.env (eval o X.env) = eval o X.env := by rfl)
    (hfew : ((backTo cpos (starEach [e] X.env)).all (fun x => !x.1) && (backToKw cpos (keywordEach [] X.env)).all (fun x => x.1.isSome) && decide ([e].length + ([] : List Keyword).length + (if ([] : List Keyword).isEmpty then 0 else 1) < 30)) = true := by rfl)
    (hline : (apos.endLine == cpos.line) = true := by rfl) (hs : starEach [e] X.env = (false, eval e X.env) :: starEach [] X.env := by rfl) :
    PE X (.Call (.Attribute o name apos) [e] [] cpos) (tTM r to t) := by
  refine ⟨fun pins s σ H Q I h => ?_⟩
  refine wpAny_Call_method_late hbase hfew hline rfl (thn (ho.run pins s σ H _ I h) ?_)
  rintro v s1 ⟨x, H1, I1, r1, ⟨p, ob, xs, rfl, hp, hc, hd⟩, q1⟩
  cases (show v = Value.ref p from r1)
  have at1 : s1.heap.get? p = some ob := (I1.hok p _ hp).1
  refine ⟨"tuple", id, pa, slot, hty, ⟨ob, at1, hc⟩, ?_, ?_⟩
  · intro b z
    cases z
    exact ⟨ob, at1, hd⟩
  · have args := ha.run cpos pins s1 σ H1 _ I1 q1
    rw [hs] at args ⊢
    refine Calls.callWith_builtin (by rfl) (Calls.evalArgs_plain (thn args ?_))
    rintro us s2 ⟨vs, H2, I2, r2, q2⟩
    exact hm pins s2 σ H2 (.ref p) vs (.ref p) us Q I2 rfl r2 q2
end
end Lf
namespace Lf
open PySem PySem.Spec PyProof.Rows L2
/-! ### the drawing well: a list of great numbers at l and a state below 2 ^ 64, both in the list at w -/
def Well (w l : Addr) (H : Hp) : Prop := w ≠ l ∧ ∃ (xs : List Int) (st : Int), H w = some (.lst [.ref l, .int st]) ∧ H l = some (.lst (xs.map V.int)) ∧ xs.length ≤ 63 ∧ 0 ≤ st ∧ st < 18446744073709551616
def Keep (w l : Addr) (H H' : Hp) : Prop := ∀ b o, b ≠ w → b ≠ l → H b = some o → H' b = some o
theorem Keep.refl {w l : Addr} {H : Hp} : Keep w l H H := fun _ _ _ _ h => h
theorem Keep.trans {w l : Addr} {H H1 H2 : Hp} (a : Keep w l H H1) (b : Keep w l H1 H2) : Keep w l H H2 := fun c o h1 h2 h => b c o h1 h2 (a c o h1 h2 h)
theorem Keep.of {w l : Addr} {H H1 : Hp} (a : Same H H1) : Keep w l H H1 := fun c o _ _ h => a c o h
theorem same_new {H : Hp} {p : Addr} {o : HO} (h : H p = none) : Same H (upd H p o) := fun b u e => by
  rw [upd_ne (ne_of_none e h)]
  exact e
theorem Well.same {w l : Addr} {H H' : Hp} (a : Well w l H) (s : Same H H') : Well w l H' := by
  obtain ⟨n, xs, st, h1, h2, h3⟩ := a
  exact ⟨n, xs, st, s _ _ h1, s _ _ h2, h3⟩

theorem dpInts {K : PySem.W.Frag} {H : Hp} : ∀ xs : List Int, DpAll K H (xs.map V.int) (xs.map PyData.int)
  | [] => .nil
  | x :: xs => .cons (.int x) (dpInts xs)
theorem layInts : ∀ xs : List Int, PyData.canLayAll0 (xs.map PyData.int) = true
  | [] => rfl
  | x :: xs => by
    show (PyData.canLay0 (.int x) && PyData.canLayAll0 (xs.map PyData.int)) = true
    rw [layInts xs]
    rfl
theorem deepInts : ∀ xs : List Int, PyData.depthAll (xs.map PyData.int) = 0
  | [] => rfl
  | x :: xs => by
    show max (PyData.depth (.int x)) (PyData.depthAll (xs.map PyData.int)) = 0
    rw [deepInts xs]
    rfl
theorem shInts (xs : List Int) : SeqAt.shaped (.list (xs.map PyData.int)) = true := by
  show (PyData.canLayAll0 (xs.map PyData.int) && decide (PyData.depthAll (xs.map PyData.int) + 1 ≤ 64)) = true
  rw [layInts, deepInts]
  rfl
theorem get_last {α : Type} (ys : List α) (y : α) : (ys ++ [y])[(ys ++ [y]).length - 1]? = some y := by
  rw [List.length_append]
  show (ys ++ [y])[ys.length]? = some y
  simp

theorem nil_or_snoc {α : Type} (xs : List α) : xs = [] ∨ ∃ ys y, xs = ys ++ [y] := by
  rcases List.eq_nil_or_concat xs with h | ⟨ys, y, h⟩
  · exact .inl h
  · exact .inr ⟨ys, y, by rw [h, List.concat_eq_append]⟩

def spWell (K : PySem.W.Frag) : Sp := fun vs H Q _ => ∃ (a : Addr) (ns : List Int), vs = [.ref a] ∧ SqL K H a (ns.map V.int) ∧ ns.length ≤ 63 ∧
  ∀ H' w l, Same H H' → Well w l H' → H w = none → H l = none → Q (.ref w) H'
def spPull : Sp := fun vs H Q _ => ∃ (w l : Addr) (many : Int), vs = [.ref w, .int many] ∧ Well w l H ∧ 0 < many ∧ many < 1073741824 ∧
  ∀ r H', 0 ≤ r → r < many → Well w l H' → Keep w l H H' → Q (.int r) H'
def spItem : Sp := fun vs H Q _ => ∃ (w l p : Addr) (xs : List V), vs = [.ref w, .ref p] ∧ Well w l H ∧ H p = some (.lst xs) ∧ p ≠ w ∧ p ≠ l ∧ xs ≠ [] ∧ xs.length < 1073741824 ∧
  ∀ v H', v ∈ xs → Well w l H' → Keep w l H H' → Q v H'

end Lf
namespace Lf
open PySem PySem.Spec PyProof.Rows L2
/-! ### walking a tuple, a list, a range, whatever the body does -/
theorem it_tup {K : PySem.W.Frag} {a : Addr} {xs : List V} {H0 : Hp} {Qd : Hp → Prop} {body : V → Hp → (Hp → Prop) → Prop} (Pv : Nat → Hp → Prop) (h0 : Pv 0 H0) (hl : ∀ i H, i ≤ xs.length → Pv i H → SqT K H a xs)
    (hs : ∀ i x H, xs[i]? = some x → Pv i H → body x H (Pv (i + 1))) (hd : ∀ H, Pv xs.length H → Qd H) :
    ∃ W : Nat → Nat → Hp → Prop, (∃ m, W 0 m H0) ∧ ∀ i m H, W i m H →
      ((Itt K a).stop i H ∧ Qd H) ∨ ((Itt K a).go i H ∧ ∃ Nx : Hp → Prop, (∀ H', Nx H' → ∃ m', m' < m ∧ W (i + 1) m' H') ∧ ∀ x H', (Itt K a).yld i H x H' → body x H' Nx) := by
  refine ⟨fun i m H => m = xs.length - i ∧ i ≤ xs.length ∧ Pv i H, ⟨xs.length, by simp, Nat.zero_le _, h0⟩, ?_⟩
  rintro i m H ⟨rfl, hi, p⟩
  have q := hl i H hi p
  by_cases hlt : i < xs.length
  · refine .inr ⟨⟨xs, xs[i], q, by simp [hlt]⟩, Pv (i + 1), fun H' p' => ⟨xs.length - (i + 1), by omega, rfl, hlt, p'⟩, fun x H' y => ?_⟩
    obtain ⟨e, y⟩ := y
    subst e
    exact hs i x _ (y xs q) p
  · have e : i = xs.length := by omega
    exact .inl ⟨⟨xs, q, by omega⟩, hd H (e ▸ p)⟩
theorem it_list {K : PySem.W.Frag} {a : Addr} {xs : List V} {H0 : Hp} {Qd : Hp → Prop} {body : V → Hp → (Hp → Prop) → Prop} (Pv : Nat → Hp → Prop) (h0 : Pv 0 H0) (hl : ∀ i H, i ≤ xs.length → Pv i H → SqL K H a xs)
    (hs : ∀ i x H, xs[i]? = some x → Pv i H → body x H (Pv (i + 1))) (hd : ∀ H, Pv xs.length H → Qd H) :
    ∃ W : Nat → Nat → Hp → Prop, (∃ m, W 0 m H0) ∧ ∀ i m H, W i m H →
      ((Itl K a).stop i H ∧ Qd H) ∨ ((Itl K a).go i H ∧ ∃ Nx : Hp → Prop, (∀ H', Nx H' → ∃ m', m' < m ∧ W (i + 1) m' H') ∧ ∀ x H', (Itl K a).yld i H x H' → body x H' Nx) := by
  refine ⟨fun i m H => m = xs.length - i ∧ i ≤ xs.length ∧ Pv i H, ⟨xs.length, by simp, Nat.zero_le _, h0⟩, ?_⟩
  rintro i m H ⟨rfl, hi, p⟩
  have q := hl i H hi p
  by_cases hlt : i < xs.length
  · refine .inr ⟨⟨xs, xs[i], q, by simp [hlt]⟩, Pv (i + 1), fun H' p' => ⟨xs.length - (i + 1), by omega, rfl, hlt, p'⟩, fun x H' y => ?_⟩
    obtain ⟨e, y⟩ := y
    subst e
    exact hs i x _ (y xs q) p
  · have e : i = xs.length := by omega
    exact .inl ⟨⟨xs, q, by omega⟩, hd H (e ▸ p)⟩
/-! ### defs by name -/
/-- the def st stands under its name, with these parameters -/
def Mk (K : PySem.W.Frag) (mg : Str → Option Value) (x : Str) (st : Stmt) (ps : List Str) : Prop := ∃ (f : Addr) (fd : FuncData), Fun K x x st f fd ∧ Binds K fd ps [] ∧ mg x = some (.ref f)
/-- .. and keeps its promise, at level k -/
def Df (P : Program) (w : World) (K : PySem.W.Frag) (mg : Str → Option Value) (base : Heap) (CX : CXT) (k : Nat) (x : Str) (ps : List Str) (sp : Sp) : Prop :=
  ∃ (f : Addr) (fd : FuncData), FnOk P w K mg base CX k f fd ps sp ∧ Binds K fd ps [] ∧ mg x = some (.ref f) ∧ PySem.W.keepIn K (.ref f) = true
/-- the same for a caller whose repr guard is empty -/
def DfG (P : Program) (w : World) (K : PySem.W.Frag) (mg : Str → Option Value) (base : Heap) (k : Nat) (x : Str) (ps : List Str) (sp : Sp) : Prop :=
  ∃ (f : Addr) (fd : FuncData), RunG P w K mg base k f fd ps sp ∧ Binds K fd ps [] ∧ mg x = some (.ref f) ∧ PySem.W.keepIn K (.ref f) = true ∧ ∀ vs H Q E, sp vs H Q E → vs.length = ps.length
theorem Df.of {P : Program} {w : World} {K : PySem.W.Frag} {mg : Str → Option Value} {base : Heap} {CX : CXT} {k : Nat} {x : Str} {ps : List Str} {sp : Sp} {st : Stmt} {f : Addr} {fd : FuncData} (F : Fun K x x st f fd) (b : Binds K fd ps []) (g : mg x = some (.ref f)) (G : FnOk P w K mg base CX k f fd ps sp) : Df P w K mg base CX k x ps sp := ⟨f, fd, G, b, g, F.kp⟩
section
variable {X : Cx} {k : Nat} {ps : List Str} {sp : Sp} {x : Str} {p pos : Pos} {e : Expr} {es : List Expr} {t : TA} {j : Nat} {CX : CXT} {E : XK}
/-- x(e, ..), x lets nothing out -/
theorem pe_dD (D : Df X.prog X.w X.K X.mg X.base CX k x ps sp) (hx : Passes CX X E) (hr : Room j X.A) (ha : PA X (e :: es) t) (hj : k ≤ j := by decide) (hg : Gl X x := by rfl)
    (hdb : (x == ("__debug__" : Str)) = false := by decide) (he : starEach (e :: es) X.env = (false, eval e X.env) :: starEach es X.env := by rfl) (hpl : (backTo pos (starEach es X.env)).any (·.1) = false := by rfl) :
    PE X (.Call (.Name x p) (e :: es) [] pos) (tCall sp [] E t) := by
  obtain ⟨f, fd, G, b, g, kp⟩ := D
  exact pe_call G (hr.mono hj) hg g kp b .nil hx ha hdb he hpl
theorem pe_d (D : Df X.prog X.w X.K X.mg X.base CX0 k x ps sp) (hr : Room j X.A) (ha : PA X (e :: es) t) (hj : k ≤ j := by decide) (hg : Gl X x := by rfl)
    (hdb : (x == ("__debug__" : Str)) = false := by decide) (he : starEach (e :: es) X.env = (false, eval e X.env) :: starEach es X.env := by rfl) (hpl : (backTo pos (starEach es X.env)).any (·.1) = false := by rfl) :
    PE X (.Call (.Name x p) (e :: es) [] pos) (tCall sp [] E0 t) := pe_dD D pass0 hr ha hj hg hdb he hpl
/-- x(e, ..), x may raise: the error goes on -/
theorem pe_dS {E : L2.St → XK} (D : Df X.prog X.w X.K X.mg X.base CX k x ps sp) (hr : Room j X.A) (hx : ∀ σ, PassesAt CX X σ (E σ)) (ha : PA X (e :: es) t) (hj : k ≤ j := by decide) (hg : Gl X x := by rfl)
    (hdb : (x == ("__debug__" : Str)) = false := by decide) (he : starEach (e :: es) X.env = (false, eval e X.env) :: starEach es X.env := by rfl) (hpl : (backTo pos (starEach es X.env)).any (·.1) = false := by rfl) :
    PE X (.Call (.Name x p) (e :: es) [] pos) (tCallS sp E t) := by
  obtain ⟨f, fd, G, b, g, kp⟩ := D
  exact pe_callS G (hr.mono hj) hg g kp b hx ha hdb he hpl
/-- x(e, ..), x shows data -/
theorem pe_dG (D : DfG X.prog X.w X.K X.mg X.base k x ps sp) (hgu : X.A.guards = some []) (hr : Room j X.A) (ha : PA X (e :: es) t) (hj : k ≤ j := by decide) (hg : Gl X x := by rfl)
    (hdb : (x == ("__debug__" : Str)) = false := by decide) (he : starEach (e :: es) X.env = (false, eval e X.env) :: starEach es X.env := by rfl) (hpl : (backTo pos (starEach es X.env)).any (·.1) = false := by rfl) :
    PE X (.Call (.Name x p) (e :: es) [] pos) (tCall sp [] E0 t) := by
  obtain ⟨f, fd, G, b, g, kp, len⟩ := D
  refine ⟨fun pins s σ H Q I h => ?_⟩
  refine wpAny_Call_Name_kw (ld_glob I hg g ?_ hdb)
  refine PySem.W.callWith_K (h₀ := X.base) I.ok.mod.kin kp (thn (ha.run pos pins s σ H _ I h) fun us s1 ⟨vs, H1, I1, r, q⟩ => ⟨I1.kIn, ?_⟩) he hpl
  have r2 : Vals (vs ++ []) (us ++ []) := r.append .nil
  have hl : (us ++ []).length = ps.length := by rw [← r2.length]; exact len _ _ _ _ q
  refine wpAny_call (codeAny_mono (G X.A X.stack s1 H1 ⟨us, []⟩ (us ++ []) (vs ++ []) Q E0 hgu (hr.mono hj) I1.env0 (b s1 us I1.kIn hl) r2 q) fun r s' hq => ?_)
  cases r with
  | error e => exact hq.elim
  | ok fl =>
    cases fl with
    | ret u => exact I1.after hq
    | next => exact False.elim hq
    | brk => exact False.elim hq
    | cont => exact False.elim hq
end
/-! ### an own error class with one field -/
structure ErrF (P : Program) (w : World) (K : PySem.W.Frag) (mg : Str → Option Value) (base : Heap) (nm f : Str) (C : Addr) : Prop where
  ex : ∃ (fI : Addr) (fdI : FuncData), PySem.W.findIn K (.ref C) "__init__" = some (some (.ref fI)) ∧ PySem.W.typeIn K (.ref fI) = some (.type "function") ∧ FnOk P w K mg base CX0 1 fI fdI ["self", f] (spInit K C f) ∧ Binds K fdI ["self", f] []
  T : OexC K C
  g : mg nm = some (.ref C)
section
variable {X : Cx} {nm f : Str} {p pos : Pos} {e : Expr} {es : List Expr} {ta : TA} {j : Nat} {C : Addr}
theorem pmk_err (R : ErrF X.prog X.w X.K X.mg X.base nm f C) (hr : Room j X.A) (ha : PA X (e :: es) ta) (hj : 2 ≤ j := by decide) (hg : Gl X nm := by rfl)
    (hdb : (nm == ("__debug__" : Str)) = false := by decide) (he : starEach (e :: es) X.env = (false, eval e X.env) :: starEach es X.env := by rfl) (hpl : (backTo pos (starEach es X.env)).any (·.1) = false := by rfl) :
    PMk X (.Call (.Name nm p) (e :: es) [] pos) (tMkO C (spInit X.K C f) [] ta) := by
  obtain ⟨fI, fdI, iC, tI, G, b⟩ := R.ex
  exact pmk_oex R.T iC tI G (hr.mono hj) b .nil pass0 hg R.g ha hdb he hpl
end
/-- the error with the value in its field f leaves -/
def OutF (f : Str) (C : Addr) (H : Hp) (v : V) (E : XK) : Prop := ∀ (dx : Addr) (H' : Hp), Same H H' → H dx = none → H' dx = some (.xd [(f, v)]) → E (.ref C) (some dx) H'
theorem OutF.same {f : Str} {C : Addr} {H H' : Hp} {v : V} {E : XK} (h : OutF f C H v E) (s : Same H H') : OutF f C H' v E := fun dx G sG n e => h dx G (s.trans sG) (s.free n) e
/-! ### tuples of numbers in a list under way -/
/-- tuples stand as they stood -/
def TK (H H' : Hp) : Prop := ∀ b xs, H b = some (.tup xs) → H' b = some (.tup xs)
theorem TK.refl {H : Hp} : TK H H := fun _ _ h => h
theorem TK.trans {H H1 H2 : Hp} (a : TK H H1) (b : TK H1 H2) : TK H H2 := fun c xs h => b c xs (a c xs h)
theorem TK.of {H H' : Hp} (s : Same H H') : TK H H' := fun b xs h => s _ _ h
theorem TK.lst {H : Hp} {D : Addr} {l : List V} {o : HO} (h : H D = some (.lst l)) : TK H (upd H D o) := fun b xs e => by
  rw [upd_ne fun z => by rw [z, h] at e; cases e]
  exact e
theorem TK.keep {w l : Addr} {H H' : Hp} (W : Well w l H) (k : Keep w l H H') : TK H H' := fun b xs e => by
  obtain ⟨_, _, _, hw, hl, _⟩ := W
  exact k b _ (fun z => by rw [z, hw] at e; cases e) (fun z => by rw [z, hl] at e; cases e) e
/-- rows of numbers, each a tuple -/
inductive Rows (H : Hp) : List V → List (List Nat) → Prop
  | nil : Rows H [] []
  | cons {q : Addr} {r : List Nat} {vs : List V} {rs : List (List Nat)} : H q = some (.tup (nv r)) → Rows H vs rs → Rows H (.ref q :: vs) (r :: rs)
theorem Rows.mono {H H' : Hp} (k : TK H H') : ∀ {vs : List V} {rs : List (List Nat)}, Rows H vs rs → Rows H' vs rs
  | _, _, .nil => .nil
  | _, _, .cons h q => .cons (k _ _ h) (q.mono k)
theorem Rows.append {H : Hp} : ∀ {vs us : List V} {rs ts : List (List Nat)}, Rows H vs rs → Rows H us ts → Rows H (vs ++ us) (rs ++ ts)
  | _, _, _, _, .nil, q => q
  | _, _, _, _, .cons h q, q' => .cons h (q.append q')
theorem Rows.snoc {H : Hp} {vs : List V} {rs : List (List Nat)} {q : Addr} {r : List Nat} (h : Rows H vs rs) (e : H q = some (.tup (nv r))) : Rows H (vs ++ [.ref q]) (rs ++ [r]) := h.append (.cons e .nil)
theorem Rows.length {H : Hp} : ∀ {vs : List V} {rs : List (List Nat)}, Rows H vs rs → vs.length = rs.length
  | _, _, .nil => rfl
  | _, _, .cons _ q => congrArg (· + 1) q.length
theorem Rows.get {H : Hp} : ∀ {vs : List V} {rs : List (List Nat)} {i : Nat} {v : V}, Rows H vs rs → vs[i]? = some v → ∃ q r, v = .ref q ∧ rs[i]? = some r ∧ H q = some (.tup (nv r))
  | _, _, 0, _, .cons h q, e => by cases e; exact ⟨_, _, rfl, rfl, h⟩
  | _, _, i + 1, _, .cons h q, e => q.get (i := i) e
  | _, _, 0, _, .nil, e => by cases e
  | _, _, _ + 1, _, .nil, e => by cases e
def nD (l : List Nat) : List PyData := l.map fun x => PyData.int ((x : Nat) : Int)
theorem rpN {H : Hp} : ∀ l : List Nat, RpAll H (nv l) (nD l)
  | [] => .nil
  | _ :: l => .cons (.int _) (rpN l)
def rowD (r : List Nat) : PyData := .tuple (nD r)
theorem Rows.rp {H : Hp} : ∀ {vs : List V} {rs : List (List Nat)}, Rows H vs rs → RpAll H vs (rs.map rowD)
  | _, _, .nil => .nil
  | _, _, .cons h q => .cons (.tup h (rpN _)) q.rp
theorem Rows.dp {K : PySem.W.Frag} {H : Hp} : ∀ {vs : List V} {rs : List (List Nat)}, Rows H vs rs → DpAll K H vs (rs.map rowD)
  | _, _, .nil => .nil
  | _, _, .cons (r := r) h q => .cons (.tup (SqT.of h) (by have := dpNv (K := K) (H := H) r; rw [List.map_map] at this; exact this)) q.dp
/-! ### a caught own error -/
structure CauN (K : PySem.W.Frag) (mg : Str → Option Value) (nm fld n1 n2 n3 : Str) (C L A1 A2 A3 : Addr) : Prop where
  ex : ExK K C
  no : PySem.W.findIn K (.ref C) fld = some none
  gC : mg nm = some (.ref C)
  gL : mg "LinkError" = some (.ref L)
  g1 : mg n1 = some (.ref A1)
  g2 : mg n2 = some (.ref A2)
  g3 : mg n3 = some (.ref A3)
  te : PySem.W.exmOne K (.ref C) (.ref L) = some true
  kV : PySem.W.kitOne K (.ref C) (.type "ValueError") = some true
  kC : PySem.W.kitOne K (.ref C) (.ref C) = some true
  k1 : PySem.W.kitOne K (.ref C) (.ref A1) = some false
  k2 : PySem.W.kitOne K (.ref C) (.ref A2) = some false
  k3 : PySem.W.kitOne K (.ref C) (.ref A3) = some false
theorem ExK.xf {K : PySem.W.Frag} {C : Addr} (T : ExK K C) : XfC K C := ⟨T.ga, T.gg, T.sb, T.hd⟩
theorem CauN.any3 {K : PySem.W.Frag} {mg : Str → Option Value} {nm fld n1 n2 n3 : Str} {C L A1 A2 A3 : Addr} (T : CauN K mg nm fld n1 n2 n3 C L A1 A2 A3) : ∀ its, Vals [V.ref A1, V.ref A2, V.ref A3] its → PySem.W.kitAny K (.ref C) its = some false := fun its r => by
  rw [ClsV.all (.cons (.own _) (.cons (.own _) (.cons (.own _) .nil))) r]
  simp only [PySem.W.kitAny, T.k1, T.k2, T.k3]
def exB (K : PySem.W.Frag) (C : Addr) : Bool :=
  (PySem.W.clsIn K C).isSome && (decide (PySem.W.findIn K (.ref C) "__getattribute__" = some (some (.builtin "BaseException.__getattribute__"))) && (decide (PySem.W.findIn K (.ref C) "__getattr__" = some none) && (decide (PySem.W.subIn K (.ref C) (.type "BaseException") = some true) &&
  (decide (PySem.W.findIn K (.ref C) "__class__" = some (some (.builtin "object.__class__"))) && (decide (PySem.W.specialIn K (.builtin "object.__class__") "__get__" = some (some (.builtin "getset_descriptor.__get__"))) && (decide (PySem.W.takesIn K (.builtin "object.__class__") = some true) && (decide (PySem.W.mroIn K C (.type "object") = some true) && PySem.W.hasDictIn K C)))))))
theorem exB_ok {K : PySem.W.Frag} {C : Addr} (h : exB K C = true) : ExK K C := by
  obtain ⟨h1, h⟩ := Bool.and_eq_true_iff.mp h
  obtain ⟨h2, h⟩ := Bool.and_eq_true_iff.mp h
  obtain ⟨h3, h⟩ := Bool.and_eq_true_iff.mp h
  obtain ⟨h4, h⟩ := Bool.and_eq_true_iff.mp h
  obtain ⟨h5, h⟩ := Bool.and_eq_true_iff.mp h
  obtain ⟨h6, h⟩ := Bool.and_eq_true_iff.mp h
  obtain ⟨h7, h⟩ := Bool.and_eq_true_iff.mp h
  obtain ⟨h8, h9⟩ := Bool.and_eq_true_iff.mp h
  exact ⟨h1, of_decide_eq_true h2, of_decide_eq_true h3, of_decide_eq_true h4, of_decide_eq_true h5, of_decide_eq_true h6, of_decide_eq_true h7, of_decide_eq_true h8, h9⟩
def cauB (K : PySem.W.Frag) (C L A1 A2 A3 : Addr) : Bool := exB K C && (decide (PySem.W.exmOne K (.ref C) (.ref L) = some true) && (decide (PySem.W.kitOne K (.ref C) (.type "ValueError") = some true) && (decide (PySem.W.kitOne K (.ref C) (.ref C) = some true) && (decide (PySem.W.kitOne K (.ref C) (.ref A1) = some false) && (decide (PySem.W.kitOne K (.ref C) (.ref A2) = some false) && decide (PySem.W.kitOne K (.ref C) (.ref A3) = some false))))))
theorem cau_ok {K : PySem.W.Frag} {mg : Str → Option Value} {nm fld n1 n2 n3 : Str} {C L A1 A2 A3 : Addr} (h : cauB K C L A1 A2 A3 = true) (no : PySem.W.findIn K (.ref C) fld = some none) (gC : mg nm = some (.ref C)) (gL : mg "LinkError" = some (.ref L)) (g1 : mg n1 = some (.ref A1)) (g2 : mg n2 = some (.ref A2)) (g3 : mg n3 = some (.ref A3)) : CauN K mg nm fld n1 n2 n3 C L A1 A2 A3 := by
  obtain ⟨h1, h⟩ := Bool.and_eq_true_iff.mp h
  obtain ⟨h2, h⟩ := Bool.and_eq_true_iff.mp h
  obtain ⟨h3, h⟩ := Bool.and_eq_true_iff.mp h
  obtain ⟨h4, h⟩ := Bool.and_eq_true_iff.mp h
  obtain ⟨h5, h⟩ := Bool.and_eq_true_iff.mp h
  obtain ⟨h6, h7⟩ := Bool.and_eq_true_iff.mp h
  exact ⟨exB_ok h1, no, gC, gL, g1, g2, g3, of_decide_eq_true h2, of_decide_eq_true h3, of_decide_eq_true h4, of_decide_eq_true h5, of_decide_eq_true h6, of_decide_eq_true h7⟩
theorem RpAll.get {H : Hp} : ∀ {vs : List V} {ds : List PyData} {i : Nat} {v : V}, RpAll H vs ds → vs[i]? = some v → ∃ d, ds[i]? = some d ∧ Rp H v d
  | _, _, 0, _, .cons h q, e => by cases e; exact ⟨_, rfl, h⟩
  | _, _, i + 1, _, .cons h q, e => q.get (i := i) e
  | _, _, 0, _, .nil, e => by cases e
  | _, _, _ + 1, _, .nil, e => by cases e
theorem RpAll.length {H : Hp} : ∀ {vs : List V} {ds : List PyData}, RpAll H vs ds → vs.length = ds.length
  | _, _, .nil => rfl
  | _, _, .cons _ q => congrArg (· + 1) q.length
/-- a value that is a tuple -/
theorem Rp.tupOf {K : PySem.W.Frag} {H : Hp} {v : V} {ds : List PyData} (h : Rp H v (.tuple ds)) : ∃ (a : Addr) (xs : List V), v = .ref a ∧ SqT K H a xs ∧ RpAll H xs ds := by
  cases h with
  | tup e q => exact ⟨_, _, rfl, SqT.of e, q⟩
  | ftp e q => exact ⟨_, _, rfl, .inl (.inr ⟨_, e⟩), q⟩
def kdI : PyData → Bool
  | .int _ => true
  | .bool _ => true
  | _ => false
def kdB : PyData → Bool
  | .bool _ => true
  | _ => false
def kdT : PyData → Bool
  | .tuple _ => true
  | _ => false
theorem m1_kit {K : PySem.W.Frag} (d : PyData) : PySem.W.kitOne K (.type (tyD d)) (.type "int") = some (kdI d) := by
  rw [kInt]
  cases d <;> rfl
theorem m2_kit {K : PySem.W.Frag} (d : PyData) : PySem.W.kitOne K (.type (tyD d)) (.type "bool") = some (kdB d) := by
  rw [kBool]
  cases d <;> rfl
theorem m3_kit {K : PySem.W.Frag} (d : PyData) : PySem.W.kitOne K (.type (tyD d)) (.type "tuple") = some (kdT d) := by
  rw [kTup]
  cases d <;> rfl
theorem m12 {d : PyData} (h : kdI d = true) (g : kdB d = false) : ∃ i, d = .int i := by
  cases d with
  | int i => exact ⟨i, rfl⟩
  | bool _ => cases g
  | _ => cases h
theorem RpAll.two {H : Hp} {xs : List V} {ds : List PyData} (h : RpAll H xs ds) (e : ds.length = 2) : ∃ x0 x1 d0 d1, xs = [x0, x1] ∧ ds = [d0, d1] ∧ Rp H x0 d0 ∧ Rp H x1 d1 := by
  match ds, e, h with
  | [_, _], _, .cons r0 (.cons r1 .nil) => exact ⟨_, _, _, _, rfl, rfl, r0, r1⟩
theorem kdT_of {d : PyData} (h : kdT d = true) : ∃ ds, d = .tuple ds := by
  cases d with
  | tuple ds => exact ⟨ds, rfl⟩
  | _ => cases h
theorem nat_ne {a b : Nat} (h : (!decide (V.int (a : Int) = V.int (b : Int))) = true) : a ≠ b := fun z => by
  rw [z, decide_eq_true rfl] at h
  cases h
theorem nat_eq {a b : Nat} (h : ¬ (!decide (V.int (a : Int) = V.int (b : Int))) = true) : a = b := Classical.byContradiction fun z => h (by rw [decide_eq_false (fun y => z (by have := V.int.inj y; omega))]; rfl)
theorem take_snoc {α : Type} {l : List α} {i : Nat} {x : α} (h : l[i]? = some x) : l.take (i + 1) = l.take i ++ [x] := by
  rw [List.take_add_one, h]
  rfl
end Lf
namespace Lf
open PySem PySem.Spec PyProof.Rows L2
/-! ## readings over data: a def's body without addresses -/
/-- a region that a def may change, with its state -/
structure Zn where
  S : Type
  at_ : Addr → Prop
  ok : S → Hp → Prop
  trk : ∀ {s : S} {H : Hp} {a : Addr}, ok s H → at_ a → H a ≠ none
  nt : ∀ {s : S} {H : Hp} {a : Addr} {xs : List V}, ok s H → at_ a → H a ≠ some (.tup xs)
  nf : ∀ {s : S} {H : Hp} {a : Addr} {o : Obj} {u : HO}, ok s H → at_ a → H a ≠ some (.frz o u)
  st : ∀ {s : S} {H H' : Hp}, ok s H → (∀ a o, at_ a → H a = some o → H' a = some o) → (∀ b xs, H b = some (.tup xs) → H' b = some (.tup xs)) → (∀ b o u, H b = some (.frz o u) → H' b = some (.frz o u)) → ok s H'
def Z0 : Zn := ⟨Unit, fun _ => False, fun _ _ => True, fun _ h => h.elim, fun _ h => h.elim, fun _ h => h.elim, fun _ _ _ _ => trivial⟩
mutual
inductive Im (B : Addr → Prop) (H : Hp) : V → PyData → Prop
  | non : Im B H .non .none
  | bl (b : Bool) : Im B H (.bl b) (.bool b)
  | int (i : Int) : Im B H (.int i) (.int i)
  | str (x : Str) : Im B H (.str x) (.str x)
  | lst {a : Addr} {xs : List V} {ds : List PyData} : H a = some (.lst xs) → ¬ B a → ImAll B H xs ds → Im B H (.ref a) (.list ds)
  | tup {a : Addr} {xs : List V} {ds : List PyData} : H a = some (.tup xs) → ImAll B H xs ds → Im B H (.ref a) (.tuple ds)
  | ftp {a : Addr} {o : Obj} {xs : List V} {ds : List PyData} : H a = some (.frz o (.tup xs)) → ImAll B H xs ds → Im B H (.ref a) (.tuple ds)
  | dct {a : Addr} {kvs : List (Key × V)} {es : List (PyData × PyData)} : H a = some (.dK kvs) → ¬ B a → ImKv B H kvs es → Im B H (.ref a) (.dict es)
inductive ImAll (B : Addr → Prop) (H : Hp) : List V → List PyData → Prop
  | nil : ImAll B H [] []
  | cons {v : V} {vs : List V} {d : PyData} {ds : List PyData} : Im B H v d → ImAll B H vs ds → ImAll B H (v :: vs) (d :: ds)
inductive ImKv (B : Addr → Prop) (H : Hp) : List (Key × V) → List (PyData × PyData) → Prop
  | nil : ImKv B H [] []
  | cons {k : Key} {v : V} {r : List (Key × V)} {d : PyData} {es : List (PyData × PyData)} : Im B H v d → ImKv B H r es → ImKv B H ((k, v) :: r) ((keyD k, d) :: es)
end
section
variable {B B' : Addr → Prop} {H H' : Hp}
mutual
theorem Im.mono (kl : ∀ b o, H b = some o → ¬ B b → H' b = some o ∧ ¬ B' b) (kt : ∀ b xs, H b = some (.tup xs) → H' b = some (.tup xs)) (kf : ∀ b o u, H b = some (.frz o u) → H' b = some (.frz o u)) : ∀ {v : V} {d : PyData}, Im B H v d → Im B' H' v d
  | _, _, .non => .non
  | _, _, .bl b => .bl b
  | _, _, .int i => .int i
  | _, _, .str x => .str x
  | _, _, .lst e n q => .lst (kl _ _ e n).1 (kl _ _ e n).2 (ImAll.mono kl kt kf q)
  | _, _, .tup e q => .tup (kt _ _ e) (ImAll.mono kl kt kf q)
  | _, _, .ftp e q => .ftp (kf _ _ _ e) (ImAll.mono kl kt kf q)
  | _, _, .dct e n q => .dct (kl _ _ e n).1 (kl _ _ e n).2 (ImKv.mono kl kt kf q)
theorem ImAll.mono (kl : ∀ b o, H b = some o → ¬ B b → H' b = some o ∧ ¬ B' b) (kt : ∀ b xs, H b = some (.tup xs) → H' b = some (.tup xs)) (kf : ∀ b o u, H b = some (.frz o u) → H' b = some (.frz o u)) : ∀ {vs : List V} {ds : List PyData}, ImAll B H vs ds → ImAll B' H' vs ds
  | _, _, .nil => .nil
  | _, _, .cons q1 q2 => .cons (Im.mono kl kt kf q1) (ImAll.mono kl kt kf q2)
theorem ImKv.mono (kl : ∀ b o, H b = some o → ¬ B b → H' b = some o ∧ ¬ B' b) (kt : ∀ b xs, H b = some (.tup xs) → H' b = some (.tup xs)) (kf : ∀ b o u, H b = some (.frz o u) → H' b = some (.frz o u)) : ∀ {vs : List (Key × V)} {ds : List (PyData × PyData)}, ImKv B H vs ds → ImKv B' H' vs ds
  | _, _, .nil => .nil
  | _, _, .cons q1 q2 => .cons (Im.mono kl kt kf q1) (ImKv.mono kl kt kf q2)
end
mutual
theorem Im.rp : ∀ {v : V} {d : PyData}, Im B H v d → Rp H v d
  | _, _, .non => .non
  | _, _, .bl b => .bl b
  | _, _, .int i => .int i
  | _, _, .str x => .str x
  | _, _, .lst e _ q => .lst e q.rp
  | _, _, .tup e q => .tup e q.rp
  | _, _, .ftp e q => .ftp e q.rp
  | _, _, .dct e _ q => .dct e q.rp
theorem ImAll.rp : ∀ {vs : List V} {ds : List PyData}, ImAll B H vs ds → RpAll H vs ds
  | _, _, .nil => .nil
  | _, _, .cons q1 q2 => .cons q1.rp q2.rp
theorem ImKv.rp : ∀ {vs : List (Key × V)} {ds : List (PyData × PyData)}, ImKv B H vs ds → RpKv H vs ds
  | _, _, .nil => .nil
  | _, _, .cons q1 q2 => .cons q1.rp q2.rp
end
mutual
def noL : PyData → Bool
  | .list _ => false
  | .dict _ => false
  | .tuple ds => noLs ds
  | _ => true
def noLs : List PyData → Bool
  | [] => true
  | d :: ds => noL d && noLs ds
end
mutual
theorem Im.free : ∀ {v : V} {d : PyData}, noL d = true → Im B H v d → Im B' H v d
  | _, _, _, .non => .non
  | _, _, _, .bl b => .bl b
  | _, _, _, .int i => .int i
  | _, _, _, .str x => .str x
  | _, _, h, .lst _ _ _ => by cases h
  | _, _, h, .tup e q => .tup e (ImAll.free h q)
  | _, _, h, .ftp e q => .ftp e (ImAll.free h q)
  | _, _, h, .dct _ _ _ => by cases h
theorem ImAll.free : ∀ {vs : List V} {ds : List PyData}, noLs ds = true → ImAll B H vs ds → ImAll B' H vs ds
  | _, _, _, .nil => .nil
  | _, _, h, .cons q1 q2 => .cons (Im.free (Bool.and_eq_true_iff.mp h).1 q1) (ImAll.free (Bool.and_eq_true_iff.mp h).2 q2)
end
theorem ImAll.length : ∀ {vs : List V} {ds : List PyData}, ImAll B H vs ds → vs.length = ds.length
  | _, _, .nil => rfl
  | _, _, .cons _ q => congrArg (· + 1) q.length
theorem ImAll.get : ∀ {vs : List V} {ds : List PyData} {i : Nat} {d : PyData}, ImAll B H vs ds → ds[i]? = some d → ∃ v, vs[i]? = some v ∧ Im B H v d
  | _, _, 0, _, .cons h q, e => by cases e; exact ⟨_, rfl, h⟩
  | _, _, i + 1, _, .cons h q, e => q.get (i := i) e
  | _, _, 0, _, .nil, e => by cases e
  | _, _, _ + 1, _, .nil, e => by cases e
theorem ImAll.gets : ∀ {vs : List V} {ds : List PyData} {i : Nat} {v : V}, ImAll B H vs ds → vs[i]? = some v → ∃ d, ds[i]? = some d ∧ Im B H v d
  | _, _, 0, _, .cons h q, e => by cases e; exact ⟨_, rfl, h⟩
  | _, _, i + 1, _, .cons h q, e => q.gets (i := i) e
  | _, _, 0, _, .nil, e => by cases e
  | _, _, _ + 1, _, .nil, e => by cases e
theorem ImAll.append : ∀ {vs us : List V} {ds es : List PyData}, ImAll B H vs ds → ImAll B H us es → ImAll B H (vs ++ us) (ds ++ es)
  | _, _, _, _, .nil, q => q
  | _, _, _, _, .cons h q, q' => .cons h (q.append q')
theorem ImAll.snoc {vs : List V} {ds : List PyData} {v : V} {d : PyData} (q : ImAll B H vs ds) (h : Im B H v d) : ImAll B H (vs ++ [v]) (ds ++ [d]) := q.append (.cons h .nil)
theorem ImAll.set : ∀ {vs : List V} {ds : List PyData} (i : Nat) {v : V} {d : PyData}, ImAll B H vs ds → Im B H v d → ImAll B H (vs.set i v) (ds.set i d)
  | _, _, _, _, _, .nil, _ => .nil
  | _, _, 0, _, _, .cons _ q, h => .cons h q
  | _, _, i + 1, _, _, .cons h q, h' => .cons h (q.set i h')
theorem ImAll.take : ∀ {vs : List V} {ds : List PyData} (n : Nat), ImAll B H vs ds → ImAll B H (vs.take n) (ds.take n)
  | _, _, 0, _ => .nil
  | _, _, _ + 1, .nil => .nil
  | _, _, n + 1, .cons h q => .cons h (q.take n)
theorem ImAll.drop : ∀ {vs : List V} {ds : List PyData} (n : Nat), ImAll B H vs ds → ImAll B H (vs.drop n) (ds.drop n)
  | _, _, 0, q => q
  | _, _, _ + 1, .nil => .nil
  | _, _, n + 1, .cons _ q => q.drop n
theorem ImAll.reverse : ∀ {vs : List V} {ds : List PyData}, ImAll B H vs ds → ImAll B H vs.reverse ds.reverse
  | _, _, .nil => .nil
  | _, _, .cons h q => by
    rw [List.reverse_cons, List.reverse_cons]
    exact q.reverse.snoc h
end
/-! ### dicts -/
inductive ImPs {κ : Type} (B : Addr → Prop) (H : Hp) : List (κ × V) → List (κ × PyData) → Prop
  | nil : ImPs B H [] []
  | cons {k : κ} {v : V} {r : List (κ × V)} {d : PyData} {es : List (κ × PyData)} : Im B H v d → ImPs B H r es → ImPs B H ((k, v) :: r) ((k, d) :: es)
theorem ImPs.mono {κ : Type} {B B' : Addr → Prop} {H H' : Hp} (kl : ∀ b o, H b = some o → ¬ B b → H' b = some o ∧ ¬ B' b) (kt : ∀ b xs, H b = some (.tup xs) → H' b = some (.tup xs)) (kf : ∀ b o u, H b = some (.frz o u) → H' b = some (.frz o u)) : ∀ {r : List (κ × V)} {es : List (κ × PyData)}, ImPs B H r es → ImPs B' H' r es
  | _, _, .nil => .nil
  | _, _, .cons q1 q2 => .cons (Im.mono kl kt kf q1) (ImPs.mono kl kt kf q2)
/-! ### slots -/
inductive Sl where
  | no
  | im (d : PyData)
  | ow (a : Addr) (l : List PyData)
  | od (a : Addr) (es : List (Key × PyData))
  | ot (a : Addr) (es : List (List Key × PyData))
  | raw (v : V)
def ownOf : Sl → Option Addr
  | .ow a _ => some a
  | .od a _ => some a
  | .ot a _ => some a
  | _ => none
def own (ρ : List Sl) : List Addr := ρ.filterMap ownOf
def Bad (Z : Zn) (B0 : Addr → Prop) (ρ : List Sl) (a : Addr) : Prop := Z.at_ a ∨ B0 a ∨ a ∈ own ρ
def SlR (B : Addr → Prop) (H : Hp) : Sl → Option V → Prop
  | .no, _ => True
  | .im d, o => ∃ v, o = some v ∧ Im B H v d
  | .ow a l, o => o = some (.ref a) ∧ ∃ xs, H a = some (.lst xs) ∧ ImAll B H xs l
  | .od a es, o => o = some (.ref a) ∧ ∃ kvs, H a = some (.dK kvs) ∧ ImPs B H kvs es
  | .ot a es, o => o = some (.ref a) ∧ ∃ kvs, H a = some (.dT kvs) ∧ ImPs B H kvs es
  | .raw v, o => o = some v
structure Rel (Z : Zn) (B0 : Addr → Prop) (H0 : Hp) (ρ : List Sl) (s : Z.S) (σ : L2.St) (H : Hp) : Prop where
  ok : Z.ok s H
  len : σ.length = ρ.length
  sl : ∀ (i : Nat) (x : Sl), ρ[i]? = some x → ∃ o, σ[i]? = some o ∧ SlR (Bad Z B0 ρ) H x o
  nd : (own ρ).Nodup
  fr : ∀ a ∈ own ρ, H0 a = none ∧ ¬ Z.at_ a ∧ ¬ B0 a
  btr : ∀ a, B0 a → H a ≠ none
  frm : ∀ b o, H0 b = some o → ¬ Z.at_ b → H b = some o
def Gr (Z : Zn) (H H' : Hp) : Prop := ∀ b o, H b = some o → ¬ Z.at_ b → H' b = some o
theorem Gr.refl {Z : Zn} {H : Hp} : Gr Z H H := fun _ _ h _ => h
theorem Gr.trans {Z : Zn} {H H1 H2 : Hp} (a : Gr Z H H1) (b : Gr Z H1 H2) : Gr Z H H2 := fun c o h n => b c o (a c o h n) n
theorem Gr.of {Z : Zn} {H H' : Hp} (s : Same H H') : Gr Z H H' := fun b o h _ => s b o h
inductive Rv where
  | im (d : PyData)
  | bo (l : List PyData)
  | fr (l : List PyData)
  | rw (v : V)
def Rv.dat : Rv → PyData
  | .im d => d
  | .bo l => .list l
  | .fr l => .list l
  | .rw _ => .none
def RvR (Z : Zn) (B0 : Addr → Prop) (ρ : List Sl) (H H' : Hp) (v : V) : Rv → Prop
  | .im d => Im (Bad Z B0 ρ) H' v d
  | .bo l => ∃ a xs, a ∈ own ρ ∧ v = .ref a ∧ H' a = some (.lst xs) ∧ ImAll (Bad Z B0 ρ) H' xs l
  | .fr l => ∃ p xs, v = .ref p ∧ H p = none ∧ ¬ Z.at_ p ∧ H' p = some (.lst xs) ∧ ImAll (fun a => Bad Z B0 ρ a ∨ a = p) H' xs l
  | .rw u => v = u
section
variable {Z : Zn} {B0 : Addr → Prop} {H0 H H1 H2 : Hp} {ρ : List Sl} {s s1 s2 : Z.S} {σ : L2.St} {v : V} {r : Rv} {d : PyData} {vs : List V} {ds : List PyData} {B : Addr → Prop}
theorem Zn.ntup (ok : Z.ok s H) {b : Addr} {xs : List V} (h : H b = some (.tup xs)) : ¬ Z.at_ b := fun z => Z.nt ok z h
theorem Zn.nfrz (ok : Z.ok s H) {b : Addr} {o : Obj} {u : HO} (h : H b = some (.frz o u)) : ¬ Z.at_ b := fun z => Z.nf ok z h
theorem Im.grow (hB : ∀ a, Z.at_ a → B a) (ok : Z.ok s H) (g : Gr Z H H1) (h : Im B H v d) : Im B H1 v d := h.mono (fun b o e n => ⟨g b o e fun z => n (hB b z), n⟩) (fun b xs e => g b _ e (Zn.ntup ok e)) (fun b o u e => g b _ e (Zn.nfrz ok e))
theorem ImAll.grow (hB : ∀ a, Z.at_ a → B a) (ok : Z.ok s H) (g : Gr Z H H1) (h : ImAll B H vs ds) : ImAll B H1 vs ds := h.mono (fun b o e n => ⟨g b o e fun z => n (hB b z), n⟩) (fun b xs e => g b _ e (Zn.ntup ok e)) (fun b o u e => g b _ e (Zn.nfrz ok e))
theorem ImPs.grow {κ : Type} {r : List (κ × V)} {es : List (κ × PyData)} (hB : ∀ a, Z.at_ a → B a) (ok : Z.ok s H) (g : Gr Z H H1) (h : ImPs B H r es) : ImPs B H1 r es := h.mono (fun b o e n => ⟨g b o e fun z => n (hB b z), n⟩) (fun b xs e => g b _ e (Zn.ntup ok e)) (fun b o u e => g b _ e (Zn.nfrz ok e))
theorem own_mem {i : Nat} {a : Addr} {l : List PyData} (h : ρ[i]? = some (Sl.ow a l)) : a ∈ own ρ := List.mem_filterMap.mpr ⟨Sl.ow a l, List.mem_of_getElem? h, rfl⟩
theorem own_memG {i : Nat} {a : Addr} {x : Sl} (h : ρ[i]? = some x) (hx : ownOf x = some a) : a ∈ own ρ := List.mem_filterMap.mpr ⟨x, List.mem_of_getElem? h, hx⟩
theorem mem_own {a : Addr} (h : a ∈ own ρ) : ∃ (i : Nat) (x : Sl), ρ[i]? = some x ∧ ownOf x = some a := by
  obtain ⟨x, hx, e⟩ := List.mem_filterMap.mp h
  obtain ⟨i, hi, ei⟩ := List.getElem_of_mem hx
  exact ⟨i, x, by rw [List.getElem?_eq_getElem hi, ei], e⟩
/-- what stands at an owned address -/
theorem Rel.ob (R : Rel Z B0 H0 ρ s σ H) {i : Nat} {x : Sl} {a : Addr} (e : ρ[i]? = some x) (h : ownOf x = some a) : ∃ o, H a = some o ∧ (∀ ys, o ≠ .tup ys) ∧ ∀ u v, o ≠ .frz u v := by
  obtain ⟨o, _, h2⟩ := R.sl i _ e
  cases x with
  | no => cases h
  | im d => cases h
  | raw v => cases h
  | ow b l =>
    cases h
    obtain ⟨_, xs, hx, _⟩ := h2
    exact ⟨_, hx, (fun _ z => nomatch z), (fun _ _ z => nomatch z)⟩
  | od b l =>
    cases h
    obtain ⟨_, xs, hx, _⟩ := h2
    exact ⟨_, hx, (fun _ z => nomatch z), (fun _ _ z => nomatch z)⟩
  | ot b l =>
    cases h
    obtain ⟨_, xs, hx, _⟩ := h2
    exact ⟨_, hx, (fun _ z => nomatch z), (fun _ _ z => nomatch z)⟩
theorem Rel.otr (R : Rel Z B0 H0 ρ s σ H) {a : Addr} (h : a ∈ own ρ) : H a ≠ none := by
  obtain ⟨i, x, e, hx⟩ := mem_own h
  obtain ⟨o, ho, _⟩ := R.ob e hx
  rw [ho]
  exact fun z => nomatch z
/-- what is bad is tracked -/
theorem Rel.bad (R : Rel Z B0 H0 ρ s σ H) {a : Addr} (h : Bad Z B0 ρ a) : H a ≠ none := by
  rcases h with h | h | h
  · exact Z.trk R.ok h
  · exact R.btr a h
  · exact R.otr h
theorem badZ : ∀ a, Z.at_ a → Bad Z B0 ρ a := fun _ h => .inl h
theorem Rel.h0 (R : Rel Z B0 H0 ρ s σ H) {a : Addr} (h : H a = none) : H0 a = none := by
  cases e : H0 a with
  | none => rfl
  | some o =>
    have nz : ¬ Z.at_ a := fun z => Z.trk R.ok z h
    have := R.frm a o e nz
    rw [h] at this
    cases this
theorem Rel.grow (R : Rel Z B0 H0 ρ s σ H) (ok : Z.ok s1 H1) (g : Gr Z H H1) : Rel Z B0 H0 ρ s1 σ H1 := by
  refine ⟨ok, R.len, fun i x e => ?_, R.nd, R.fr, fun a h z => ?_, fun b o e n => g b o (R.frm b o e n) n⟩
  · obtain ⟨o, h1, h2⟩ := R.sl i x e
    refine ⟨o, h1, ?_⟩
    cases x with
    | no => trivial
    | im d =>
      obtain ⟨v, h3, h4⟩ := h2
      exact ⟨v, h3, h4.grow badZ R.ok g⟩
    | ow a l =>
      obtain ⟨h3, xs, h4, h5⟩ := h2
      exact ⟨h3, xs, g a _ h4 (R.fr a (own_mem e)).2.1, h5.grow badZ R.ok g⟩
    | od a l =>
      obtain ⟨h3, xs, h4, h5⟩ := h2
      exact ⟨h3, xs, g a _ h4 (R.fr a (own_memG e rfl)).2.1, h5.grow badZ R.ok g⟩
    | ot a l =>
      obtain ⟨h3, xs, h4, h5⟩ := h2
      exact ⟨h3, xs, g a _ h4 (R.fr a (own_memG e rfl)).2.1, h5.grow badZ R.ok g⟩
    | raw v => exact h2
  · by_cases hz : Z.at_ a
    · exact Z.trk ok hz z
    · cases e : H a with
      | none => exact R.btr a h e
      | some o =>
        rw [g a o e hz] at z
        cases z
theorem none_back (ok : Z.ok s1 H1) (g : Gr Z H H1) {p : Addr} (h : H1 p = none) : H p = none := by
  cases e : H p with
  | none => rfl
  | some o =>
    rw [g p o e fun z => Z.trk ok z h] at h
    cases h
theorem RvR.grow (R : Rel Z B0 H0 ρ s1 σ H1) (g : Gr Z H1 H2) (h : RvR Z B0 ρ H H1 v r) : RvR Z B0 ρ H H2 v r := by
  cases r with
  | im d => exact Im.grow badZ R.ok g h
  | bo l =>
    obtain ⟨a, xs, h1, h2, h3, h4⟩ := h
    exact ⟨a, xs, h1, h2, g a _ h3 (R.fr a h1).2.1, h4.grow badZ R.ok g⟩
  | fr l =>
    obtain ⟨p, xs, h1, h2, hz, h3, h4⟩ := h
    exact ⟨p, xs, h1, h2, hz, g p _ h3 hz, h4.grow (fun a z => .inl (badZ a z)) R.ok g⟩
  | rw u => exact h
theorem RvR.back (ok : Z.ok s1 H1) (g : Gr Z H H1) (h : RvR Z B0 ρ H1 H2 v r) : RvR Z B0 ρ H H2 v r := by
  cases r with
  | fr l =>
    obtain ⟨p, xs, h1, h2, hz, h3, h4⟩ := h
    exact ⟨p, xs, h1, none_back ok g h2, hz, h3, h4⟩
  | _ => exact h
end
end Lf
namespace Lf
open PySem PySem.Spec PyProof.Rows L2
/-! ### tuples of numbers compared -/
theorem eqv_nD : ∀ r s : List Nat, PyData.eqvAll (nD r) (nD s) = decide (r = s)
  | [], [] => rfl
  | [], _ :: _ => rfl
  | _ :: _, [] => rfl
  | x :: r, y :: s => by
    show ((((x : Nat) : Int) == ((y : Nat) : Int)) && PyData.eqvAll (nD r) (nD s)) = _
    rw [eqv_nD r s]
    by_cases h : x = y
    · subst h
      simp
    · have : (((x : Nat) : Int) == ((y : Nat) : Int)) = false := beq_eq_false_iff_ne.mpr fun e => h (by omega)
      rw [this]
      simp [h]
theorem any_rows (r : List Nat) : ∀ rs : List (List Nat), ((rs.map rowD).any fun z => PyData.eqv z (rowD r)) = decide (r ∈ rs)
  | [] => rfl
  | s :: rs => by
    rw [List.map_cons, List.any_cons, any_rows r rs]
    show (PyData.eqvAll (nD s) (nD r) || _) = _
    rw [eqv_nD]
    by_cases h : s = r
    · subst h
      simp
    · rw [decide_eq_false h, Bool.false_or]
      exact decide_eq_decide.mpr ⟨List.mem_cons_of_mem _, fun z => (List.mem_cons.mp z).elim (fun e => absurd e.symm h) id⟩
theorem layRow (r : List Nat) : PyData.canLayAll0 (nD r) = true := by
  have := layInts (r.map fun x => ((x : Nat) : Int))
  rw [List.map_map] at this
  exact this
theorem deepRow (r : List Nat) : PyData.depthAll (nD r) = 0 := by
  have := deepInts (r.map fun x => ((x : Nat) : Int))
  rw [List.map_map] at this
  exact this
theorem shRow (r : List Nat) : SeqAt.shaped (rowD r) = true := by
  show (PyData.canLayAll0 (nD r) && decide (PyData.depthAll (nD r) + 1 ≤ 64)) = true
  rw [layRow, deepRow]
  rfl
theorem layRows : ∀ rs : List (List Nat), PyData.canLayAll0 (rs.map rowD) = true
  | [] => rfl
  | r :: rs => by
    show (PyData.canLayAll0 (nD r) && PyData.canLayAll0 (rs.map rowD)) = true
    rw [layRows rs, layRow]
    rfl
theorem deepRows : ∀ rs : List (List Nat), PyData.depthAll (rs.map rowD) ≤ 1
  | [] => Nat.zero_le _
  | r :: rs => by
    show max (PyData.depthAll (nD r) + 1) (PyData.depthAll (rs.map rowD)) ≤ 1
    rw [deepRow]
    exact Nat.max_le.mpr ⟨Nat.le_refl _, deepRows rs⟩
theorem shRows (rs : List (List Nat)) : SeqAt.shaped (.list (rs.map rowD)) = true := by
  show (PyData.canLayAll0 (rs.map rowD) && decide (PyData.depthAll (rs.map rowD) + 1 ≤ 64)) = true
  rw [layRows, decide_eq_true (by have := deepRows rs; omega)]
  rfl
theorem dpRow {K : PySem.W.Frag} {H : Hp} {p : Addr} {r : List Nat} (h : SqT K H p (nv r)) : Dp K H (.ref p) (rowD r) := .tup h (by have := dpNv (K := K) (H := H) r; rw [List.map_map] at this; exact this)
theorem Rows.unsnoc {H : Hp} : ∀ {vs : List V} {rs : List (List Nat)} {r : List Nat}, Rows H vs (rs ++ [r]) → ∃ us q, vs = us ++ [.ref q] ∧ Rows H us rs ∧ H q = some (.tup (nv r))
  | _, [], _, .cons h .nil => ⟨[], _, rfl, .nil, h⟩
  | _, _ :: rs, _, .cons h q => by
    obtain ⟨us, q', e, h1, h2⟩ := Rows.unsnoc (rs := rs) q
    subst e
    exact ⟨_ :: us, q', rfl, .cons h h1, h2⟩
theorem eqv_row (r s : List Nat) : PyData.eqv (rowD r) (rowD s) = decide (r = s) := eqv_nD r s
theorem eqv_nil (l : List Nat) : PyData.eqv (.list ((l.map fun x => ((x : Nat) : Int)).map PyData.int)) (.list []) = l.isEmpty := by cases l <;> rfl
theorem Rows.dropLast {H : Hp} : ∀ {vs : List V} {rs : List (List Nat)}, Rows H vs rs → Rows H vs.dropLast rs.dropLast
  | _, _, .nil => .nil
  | _, _, .cons _ .nil => .nil
  | _, _, .cons h (.cons h2 q) => .cons h (Rows.dropLast (.cons h2 q))
def rInDT (K : PySem.W.Frag) : R2 := fun x y H Q => ∃ d ds, Dp K H x d ∧ Dp K H y (.tuple ds) ∧ SeqAt.shaped d = true ∧ SeqAt.shaped (.tuple ds) = true ∧ Q (.bl (ds.any fun z => PyData.eqv z d)) H
theorem op_inDT {X : Cx} (hu : X.A.units + 65 < cLine) : OpR X (compareOp .In) (rInDT X.K) := by
  intro pins s σ H x y v u Q I rx ry h
  obtain ⟨d, ds, hd, he, sd, se, q⟩ := h
  obtain ⟨as, r1⟩ := Dp.reads I d x v hd rx
  obtain ⟨bs, r2⟩ := Dp.reads I (.tuple ds) y u he ry
  exact SeqAt.in_tuple_reads r2 r1 (SeqAt.canLay_of_shaped se) (SeqAt.canLay_of_shaped sd) (room_in_shaped sd hu) ⟨.bl _, H, I, rfl, q⟩
theorem shRowsT (rs : List (List Nat)) : SeqAt.shaped (.tuple (rs.map rowD)) = true := shRows rs
end Lf
namespace Lf
open PySem PySem.Spec PyProof.Rows L2
/-! ### t[::-1] of a tuple of any length; str of any data -/
theorem range_pick {α : Type} (l : List α) : ∀ n, (List.range n).filterMap (fun k => l[k]?) = l.take n
  | 0 => rfl
  | n + 1 => by
    rw [List.range_succ, List.filterMap_append, range_pick l n, List.take_add_one]
    cases h : l[n]? <;> simp [h]
theorem fm_congr {α β : Type} {f g : α → Option β} : ∀ {l : List α}, (∀ a ∈ l, f a = g a) → l.filterMap f = l.filterMap g
  | [], _ => rfl
  | a :: l, h => by
    rw [List.filterMap_cons, List.filterMap_cons, h a List.mem_cons_self, fm_congr fun b hb => h b (List.mem_cons_of_mem _ hb)]
theorem pickBackA (xs : List Value) : ((List.range xs.toArray.size).filterMap fun (k : Nat) => xs.toArray[(((xs.toArray.size : Nat) : Int) - 1 + (k : Int) * (-1)).toNat]?).toArray = xs.reverse.toArray := by
  congr 1
  have e : (List.range xs.toArray.size).filterMap (fun (k : Nat) => xs.toArray[(((xs.toArray.size : Nat) : Int) - 1 + (k : Int) * (-1)).toNat]?) = (List.range xs.reverse.length).filterMap (fun k => xs.reverse[k]?) := by
    rw [List.size_toArray, List.length_reverse]
    refine fm_congr fun k hk => ?_
    have hk : k < xs.length := List.mem_range.mp hk
    rw [List.getElem?_reverse hk, List.getElem?_toArray]
    congr 1
    omega
  rw [e, range_pick, List.take_length]
section
variable {prog : Program} {w : World} {A : Around} {E : Value → Shared → Prop} {s : Shared}
theorem getBackA {t sl : Addr} {items : List Value} {tk : Tok} {Q : Value → Shared → Prop} (ht : IsTup s.heap t items.toArray) (hs : s.heap.IsSliceOf sl .none .none (.int (-1) tk)) (few : items.length ≤ sizeLine)
    (h : Q (.ref s.heap.objs.size) { s with heap := s.heap.push { cls := .type "tuple", data := .seq items.reverse.toArray } }) : wpAny (model prog w) A (getItem (.ref t) (.ref sl)) Q E s := by
  have fits : sizeOk (.seq items.reverse.toArray) := by
    show items.reverse.toArray.size ≤ sizeLine
    rw [List.size_toArray, List.length_reverse]
    exact few
  obtain ⟨os, hos, hcs, hds⟩ := id hs
  have isS : s.TypeIs (.ref sl) "slice" := ⟨os, hos, hcs⟩
  unfold getItem
  try with_reducible refine wpAny_holding ?_
  first | refine wpAny_bind (wpAny_pure ?_) | skip
  refine wpAny_bind (wpAny_sequenceKey ht.typeIs (by decide) ?_)
  refine wpAny_bind (wpAny_callSpecial?_slot (name := Str.ofString "__getitem__") ht.typeIs PyProof.Rows.slot_tuple_getitem (wpAny_call_entry PyProof.Rows.slot_tuple_getitem ht.typeIs entry_tuple_getitem ?_ (args_tuple_getitem _ _)))
  show wpAny _ _ (Builtin.Tuple.tupleItemsOf (.ref t) >>= _) _ _ s
  refine wpAny_bind (tupleItemsOf_ ht (wpAny_bind (wpAny_typeOf isS ?_)))
  rw [if_pos (by decide)]
  refine wpAny_bind (appBack hs ?_)
  have no : ¬ ((((((items.toArray.size : Nat) : Int) - 1) == 0) && ((-1 : Int) == 1) && (items.toArray.size == items.toArray.size)) = true) := by
    rw [show ((-1 : Int) == 1) = false from by decide, Bool.and_false, Bool.false_and]
    exact Bool.false_ne_true
  show wpAny _ _ (if (((((items.toArray.size : Nat) : Int) - 1) == 0) && ((-1 : Int) == 1) && (items.toArray.size == items.toArray.size)) = true then _ else _) _ _ s
  rw [if_neg no, pickBackA items]
  first
    | exact wpAny_bind (m := Builtin.Tuple.tupleExact _) (wpAny_newObj_type (wpAny_pure ⟨_, rfl, wpAny_pure h⟩) fits)
    | exact wpAny_bind (m := Builtin.Tuple.tupleExact _) (wpAny_newObj_type (wpAny_bind (wpAny_pure (wpAny_pure ⟨_, rfl, wpAny_pure h⟩))) fits)
    | exact wpAny_bind (wpAny_bind (m := Builtin.Tuple.tupleExact _) (wpAny_newObj_type (wpAny_pure (wpAny_pure ⟨_, rfl, wpAny_pure h⟩)) fits))
    | exact wpAny_bind (wpAny_bind (m := Builtin.Tuple.tupleExact _) (wpAny_newObj_type (wpAny_pure ⟨_, rfl, wpAny_pure h⟩) fits))
end
section
variable {X : Cx}
def tRevA (te : TE) : TE := fun σ H Q => te σ H fun x H1 => ∃ (a : Addr) (xs : List V), x = .ref a ∧ H1 a = some (.tup xs) ∧ ∀ p, H1 p = none → Q (.ref p) (upd H1 p (.tup xs.reverse))
theorem pe_revA {e : Expr} {te : TE} {k : Nat} {p1 p2 p3 pos : Pos} (he : PE X e te) : PE X (.Subscript e (.Slice none none (some (.UnaryOp .USub (.Constant (.int 1) k p1) p2)) p3) pos) (tRevA te) := by
  refine ⟨fun pins s σ H Q I h => ?_⟩
  refine Subscript_ (thn (he.run pins s σ H _ I h) ?_)
  rintro v s1 ⟨x, H1, I1, r1, a, xs, rfl, hx, q⟩
  cases (show v = Value.ref a from r1)
  have hst : PE X (.UnaryOp .USub (.Constant (.int 1) k p1) p2) (tUn (rU fun i => .int (-i)) (tC (.int 1))) := pe_un un_neg pe_int
  refine wpAny_Slice (thn (po_none.run pins s1 σ H1 (fun o G => o = none ∧ G = H1) I1 ⟨rfl, rfl⟩) ?_)
  rintro vl s2 ⟨ol, G2, I2, pl, rfl, rfl⟩
  refine thn (po_none.run pins s2 σ G2 (fun o G => o = none ∧ G = G2) I2 ⟨rfl, rfl⟩) ?_
  rintro vu s3 ⟨ou, G3, I3, pu, rfl, rfl⟩
  cases pl
  cases pu
  rw [evalPart_some]
  refine thn (hst.run pins s3 σ G3 (fun y G => y = .int (-1) ∧ G = G3) I3 ⟨1, rfl, rfl, rfl⟩) ?_
  rintro vs s4 ⟨y, H4, I4, ry, rfl, rfl⟩
  obtain ⟨tk, rfl⟩ := ry
  have I5 : Inv X pins σ H4 { s4 with heap := s4.heap.push { cls := .type "slice", data := .fields #[.none, .none, .int (-1) tk] } } := I4.kept (t' := s4.toks) fun b ob z => Heap.get?_push_of_some _ z
  obtain ⟨its, rv, plain, small⟩ := I5.tuple (SqT.of hx)
  have same := rv.length
  show wpAny (model X.prog X.w) X.A (subscriptTail e (.Slice none none (some (.UnaryOp .USub (.Constant (.int 1) k p1) p2)) p3) (.ref a) (.ref s4.heap.objs.size)) (EP X pins σ Q) X.xe { s4 with heap := s4.heap.push { cls := .type "slice", data := .fields #[.none, .none, .int (-1) tk] } }
  refine tail_any (ops := [.ref a, .ref s4.heap.objs.size]) plain.typeIs (PyProof.Rows.slot_tuple_getitem.lookup) ?_ (by with_unfolding_all rfl)
  refine getBackA plain (Heap.IsSliceOf.new _ _ _ _) (same ▸ small) ?_
  refine ⟨.ref _, _, I5.laid (t' := s4.toks) (o := .tup xs.reverse) (fun b ob z => Heap.get?_push_of_some _ z) (Nat.le_refl _) ?_, rfl, q _ (I5.hok.fresh (Nat.le_refl _))⟩
  exact ⟨by rw [List.length_reverse]; exact small, its.reverse, rv.reverse, IsTup.new _ _⟩
/-- str of a number or of a tuple -/
theorem call_strA (hs : ∃ o, X.base.get? sysModules = some o) (hg : X.A.guards = some []) (hu : X.A.units + 200 < cLine) :
    CallR X (.type "str") (fun xs H Q => ∃ (v : V) (d : PyData), xs = [v] ∧ Rp H v d ∧ d.showable = true ∧ d.depth ≤ 100 ∧ d.shown.length ≤ sizeLine ∧ ((∃ i, d = .int i) ∨ ∃ ds, d = .tuple ds) ∧ Q (.str d.shown) H) := by
  intro pins s σ H xs us Q I r h
  obtain ⟨v, d, rfl, hr, h1, h2, h3, h4, q⟩ := h
  rcases h4 with ⟨i, rfl⟩ | ⟨ds, rfl⟩
  · cases hr
    obtain ⟨u, rfl, t, rfl⟩ := vals1 r
    exact PySem.P.str_of_int (of_decide_eq_true h1) ⟨.str _, H, I.tok _, ⟨_, rfl⟩, q⟩
  · obtain ⟨a, xs, rfl, _, _⟩ := hr.tupOf (K := X.K)
    obtain ⟨u, rfl, r1⟩ := vals1 r
    cases (show u = Value.ref a from r1)
    obtain ⟨as, rd, na⟩ := Rp.reads I hs hr _ rfl
    exact str_of_reads rd h1 (fun _ => na) hg (by omega) (fun _ _ e => e) (fun h' t tk k => ⟨.str _, H, I.kept k, ⟨t, rfl⟩, q⟩) h3
end
end Lf
namespace Lf
open PySem PySem.Spec PyProof.Rows L2
/-! ### sorted of a tuple of ints -/
section
variable {prog : Program} {w : World} {A : Around} {E : Value → Shared → Prop} {s : Shared}
theorem collect_tup {l : Addr} {vs : List Value} {Q : List Value → Shared → Prop} (hl : IsTup s.heap l vs.toArray) (hsz : vs.length ≤ sizeLine)
    (h : Q vs { s with heap := (s.heap.push (seqObj "list" #[] 0)).update s.heap.objs.size (Obj.mapSeq (· ++ vs.toArray)) }) : wpAny (model prog w) A (collect (.ref l)) Q E s := by
  obtain ⟨o, ho, hc, n, hd⟩ := hl
  have ho' : (s.heap.push (seqObj "list" #[] 0)).get? l = some o := Heap.get?_push_of_some _ ho
  unfold collect
  refine wpAny_bind (wpAny_runValue (codeAny_builtin entry_proto_collect' ?_))
  show wpAny _ _ (do again (.builtin "list.__iadd__" ⟨[← newList [], .ref l], []⟩)) _ _ s
  refine wpAny_bind (wpAny_newList (wpAny_pure ⟨Code.quiet_builtin _ (by decide +kernel), codeAny_builtin entry_list_iadd' ?_⟩))
  show wpAny _ _ (Builtin.List.listExtendWith (.ref s.heap.objs.size) (.ref l) (.ref s.heap.objs.size)) _ _ { s with heap := s.heap.push (seqObj "list" #[] 0) }
  unfold Builtin.List.listExtendWith
  refine wpAny_bind (wpAny_typeOf (T := "tuple") ⟨o, ho', hc⟩ ?_)
  rw [if_pos (by rw [show (Value.type "tuple" == Value.type "tuple") = true from rfl, Bool.or_true])]
  refine wpAny_bind (listItems_at ho' hd ?_)
  refine wpAny_bind (listItems_at (xs := #[]) (n := 0) (Heap.get?_push_size _ rfl) rfl ?_)
  rw [if_neg (by simp)]
  refine wpAny_bind (listUpdate_at (xs := #[]) (n := 0) (Heap.get?_push_size _ rfl) rfl ?_ (Nat.zero_le _) (by show (#[] ++ vs.toArray).size ≤ sizeLine + 1; simp only [Array.size_append, List.size_toArray, List.length_nil]; omega))
  refine wpAny_pure ?_
  refine wpAny_bind (wpAny_load (get?_update_seq (Heap.get?_push_size _ rfl) _) ?_)
  show wpAny _ _ (pure ((#[] : Array Value) ++ vs.toArray).toList) Q E _
  rw [show ((#[] : Array Value) ++ vs.toArray).toList = vs by simp]
  exact wpAny_pure h
theorem sorted_tupI {l : Addr} {vs : List Value} {ns : List Int} {Q : Value → Shared → Prop} (hl : IsTup s.heap l vs.toArray) (hI : IntsAre vs ns) (hL : vs.length ≤ sizeLine)
    (h : ∀ (out : Array Value) (ns' : List Int), IntsAre out.toList ns' → ns'.Perm ns → ns'.Pairwise (· ≤ ·) → Q (.ref (s.heap.objs.size + 1)) { s with heap := sortedAll s.heap vs out }) :
    wpAny (model prog w) A (call (.builtin "sorted") [.ref l]) Q E s := by
  refine Calls.call_function_entry kind_sorted plain_sorted entry_sorted (args_sorted1 _) ?_
  unfold Builtin.«sorted»
  refine wpAny_bind (m := checkCount "sorted" 1 1 _) (wpAny_pure ?_)
  refine wpAny_bind (collect_tup hl hL ?_)
  refine wpAny_bind (wpAny_newList ?_)
  have hsz : ((s.heap.push (seqObj "list" #[] 0)).update s.heap.objs.size (Obj.mapSeq (· ++ vs.toArray))).objs.size = s.heap.objs.size + 1 := by
    rw [Heap.size_update, size_push']
  have hoL : (((s.heap.push (seqObj "list" #[] 0)).update s.heap.objs.size (Obj.mapSeq (· ++ vs.toArray))).push (seqObj "list" vs.toArray 0)).get? (s.heap.objs.size + 1) = some (seqObj "list" vs.toArray 0) := by
    rw [← hsz]
    exact Heap.get?_push_size _ rfl
  show wpAny _ _ _ _ _ { s with heap := ((s.heap.push (seqObj "list" #[] 0)).update s.heap.objs.size (Obj.mapSeq (· ++ vs.toArray))).push (seqObj "list" vs.toArray 0) }
  rw [hsz]
  refine wpAny_bind (wpAny_holding (wpAny_call_entry slot_list_sort ⟨_, hoL, rfl⟩ entry_list_sort (list_sort_treeAny hoL hI hL fun out ns' a1 a2 a3 => ⟨_, rfl, ?_⟩) (args_list_sort _)))
  exact wpAny_pure ⟨_, rfl, h out ns' a1 a2 a3⟩
end
section
variable {X : Cx}
theorem cr_sortedTI : CallR X (.builtin "sorted") (fun vs H Q => ∃ (a : Addr) (ns : List Int), vs = [V.ref a] ∧ SqT X.K H a (ns.map V.int) ∧ ∀ (ns' : List Int) (p : Addr), ns'.Perm ns → ns'.Pairwise (· ≤ ·) → H p = none → Q (.ref p) (upd H p (.lst (ns'.map V.int)))) := by
  intro pins s σ H vs us Q I r h
  obtain ⟨a, ns, rfl, hs, q⟩ := h
  obtain ⟨its, rv, hl, hz⟩ := I.tuple hs
  rw [Vals.ref1 r]
  have hi := rv.ints
  refine sorted_tupI hl hi (by rw [← rv.length]; exact hz) fun out ns' h1 h2 h3 => ?_
  obtain ⟨ep, he'⟩ := PyProof.Rows.sortedAll_at s.heap its out
  have hlen : (ns'.map V.int).length ≤ sizeLine := by
    rw [List.length_map, h2.length_eq]
    rw [List.length_map] at hz
    exact hz
  exact ⟨.ref _, upd H (s.heap.objs.size + 1) (.lst (ns'.map V.int)), I.laid (t' := s.toks) (fun _ _ => PyProof.Rows.sortedAll_old) (Nat.le_succ _) ⟨hlen, out.toList, ep, vals_of_ints h1, he'⟩, rfl, q ns' _ h2 h3 (I.hok.fresh (Nat.le_succ _))⟩
/-- xs != [], any items -/
theorem op_neEL (hu : X.A.units < cLine) : OpR X (compareOp .NotEq) (fun x y H Q => ∃ (a b : Addr) (xs : List V), x = .ref a ∧ y = .ref b ∧ SqL X.K H a xs ∧ H b = some (.lst []) ∧ Q (.bl (!xs.isEmpty)) H) := by
  intro pins s σ H x y v u Q I rx ry h
  obtain ⟨a, b, xs, rfl, rfl, ha, hb, q⟩ := h
  cases (show v = Value.ref a from rx)
  cases (show u = Value.ref b from ry)
  obtain ⟨its, rv, pl, _⟩ := I.list ha
  obtain ⟨jts, rw', pl2, _⟩ := I.list (SqL.of hb)
  cases rw'
  cases rv with
  | nil => exact SeqAt.RcNeAt.lists (e := fun _ => true) pl.isList pl2.isList rfl hu (fun j j1 _ => absurd j1 (Nat.not_lt_zero j)) _ _ _ _ ⟨.bl _, H, I, rfl, q⟩
  | cons _ _ => exact SeqAt.RcNeAt.lists_lengths pl.isList pl2.isList (by simp) hu _ _ _ _ ⟨.bl _, H, I, rfl, q⟩
end
end Lf
namespace Lf
open PySem PySem.Spec PyProof.Rows L2
abbrev DX (Z : Zn) := Z.S → List Sl → (Rv → Z.S → Prop) → Prop
abbrev DT (Z : Zn) := Z.S → List Sl → (Bool → Z.S → Prop) → Prop
abbrev DA (Z : Zn) := Z.S → List Sl → (List Rv → Z.S → Prop) → Prop
def Rv.D : Rv → Option PyData
  | .im d => some d
  | .bo l => some (.list l)
  | .fr l => some (.list l)
  | .rw _ => none
/-- what may be kept -/
def Rv.st : Rv → Option PyData
  | .im d => some d
  | .fr l => some (.list l)
  | _ => none
def liftE (Z : Zn) (d : DX Z) : TE := fun σ H Q => ∃ (B0 : Addr → Prop) (H0 : Hp) (ρ : List Sl) (s : Z.S) (Qd : Rv → Z.S → Prop), Rel Z B0 H0 ρ s σ H ∧ d s ρ Qd ∧
  ∀ r s' v H', Qd r s' → Rel Z B0 H0 ρ s' σ H' → Gr Z H H' → RvR Z B0 ρ H H' v r → Q v H'
def liftT (Z : Zn) (d : DT Z) : TT := fun σ H Q => ∃ (B0 : Addr → Prop) (H0 : Hp) (ρ : List Sl) (s : Z.S) (Qd : Bool → Z.S → Prop), Rel Z B0 H0 ρ s σ H ∧ d s ρ Qd ∧
  ∀ b s' H', Qd b s' → Rel Z B0 H0 ρ s' σ H' → Gr Z H H' → Q b H'
inductive RvRs (Z : Zn) (B0 : Addr → Prop) (ρ : List Sl) (H H' : Hp) : List V → List Rv → Prop
  | nil : RvRs Z B0 ρ H H' [] []
  | cons {v : V} {vs : List V} {r : Rv} {rs : List Rv} : RvR Z B0 ρ H H' v r → RvRs Z B0 ρ H H' vs rs → RvRs Z B0 ρ H H' (v :: vs) (r :: rs)
def liftA (Z : Zn) (d : DA Z) : TA := fun σ H Q => ∃ (B0 : Addr → Prop) (H0 : Hp) (ρ : List Sl) (s : Z.S) (Qd : List Rv → Z.S → Prop), Rel Z B0 H0 ρ s σ H ∧ d s ρ Qd ∧
  ∀ rs s' vs H', Qd rs s' → Rel Z B0 H0 ρ s' σ H' → Gr Z H H' → RvRs Z B0 ρ H H' vs rs → Q vs H'
abbrev DE (Z : Zn) (X : Cx) (e : Expr) (d : DX Z) : Prop := PE X e (liftE Z d)
abbrev DTs (Z : Zn) (X : Cx) (e : Expr) (d : DT Z) : Prop := PT X e (liftT Z d)
abbrev DAs (Z : Zn) (X : Cx) (es : List Expr) (d : DA Z) : Prop := PA X es (liftA Z d)
section
variable {Z : Zn} {X : Cx} {B0 : Addr → Prop} {H0 H H1 H2 : Hp} {ρ : List Sl} {s s1 s2 : Z.S} {σ : L2.St} {v u : V} {r x y : Rv} {e a b c : Expr} {da db dc : DX Z} {pos p : Pos}
theorem PE.of {t t' : TE} (h : PE X e t) (w : ∀ σ H Q, t' σ H Q → t σ H Q) : PE X e t' := ⟨fun pins s σ H Q I q => h.run pins s σ H Q I (w σ H Q q)⟩
theorem PT.of {t t' : TT} (h : PT X e t) (w : ∀ σ H Q, t' σ H Q → t σ H Q) : PT X e t' := ⟨fun pins s σ H Q I q => h.run pins s σ H Q I (w σ H Q q)⟩
theorem PA.of {es : List Expr} {t t' : TA} (h : PA X es t) (w : ∀ σ H Q, t' σ H Q → t σ H Q) : PA X es t' := ⟨fun po pins s σ H Q I q => h.run po pins s σ H Q I (w σ H Q q)⟩
theorem RvRs.grow (R : Rel Z B0 H0 ρ s1 σ H1) (g : Gr Z H1 H2) : ∀ {vs : List V} {rs : List Rv}, RvRs Z B0 ρ H H1 vs rs → RvRs Z B0 ρ H H2 vs rs
  | _, _, .nil => .nil
  | _, _, .cons h q => .cons (h.grow R g) (q.grow R g)
theorem RvRs.back (ok : Z.ok s1 H1) (g : Gr Z H H1) : ∀ {vs : List V} {rs : List Rv}, RvRs Z B0 ρ H1 H2 vs rs → RvRs Z B0 ρ H H2 vs rs
  | _, _, .nil => .nil
  | _, _, .cons h q => .cons (h.back ok g) (q.back ok g)
theorem Rel.same (R : Rel Z B0 H0 ρ s σ H) (sm : Same H H1) : Rel Z B0 H0 ρ s σ H1 := R.grow (Z.st R.ok (fun a o _ e => sm a o e) (fun b _ e => sm b _ e) (fun b _ _ e => sm b _ e)) (Gr.of sm)
/-! ### names, constants -/
def dVar (i : Nat) : DX Z := fun s ρ Q => match ρ[i]? with
  | some (.im d) => Q (.im d) s
  | some (.ow _ l) => Q (.bo l) s
  | some (.raw v) => Q (.rw v) s
  | _ => False
theorem de_var {i : Nat} {n : Str} (hN : X.N[i]? = some n) (hv : Vis X.env.scope n) (hd : (n == ("__debug__" : Str)) = false := by decide) (hcd : (n == ("__classdict__" : Str)) = false := by decide) : DE Z X (.Name n pos) (dVar i) := by
  refine PE.of (pe_var hN hv hd hcd) fun σ H Q h => ?_
  obtain ⟨B0, H0, ρ, s, Qd, R, hd, hq⟩ := h
  unfold dVar at hd
  cases e : ρ[i]? with
  | none => rw [e] at hd; exact hd.elim
  | some z =>
    obtain ⟨o, h1, h2⟩ := R.sl i z e
    rw [e] at hd
    cases z with
    | no => exact hd.elim
    | im d =>
      obtain ⟨v, rfl, h3⟩ := h2
      exact ⟨v, h1, hq _ s v H hd R Gr.refl h3⟩
    | ow a l =>
      obtain ⟨rfl, xs, h3, h4⟩ := h2
      exact ⟨.ref a, h1, hq _ s _ H hd R Gr.refl ⟨a, xs, own_mem e, rfl, h3, h4⟩⟩
    | od a l => exact hd.elim
    | ot a l => exact hd.elim
    | raw v =>
      cases h2
      exact ⟨v, h1, hq _ s v H hd R Gr.refl rfl⟩
def dC (d : PyData) : DX Z := fun s _ Q => Q (.im d) s
theorem de_c {d : PyData} (h : PE X e (tC v)) (hv : ∀ B H, Im B H v d) : DE Z X e (dC d) := by
  refine PE.of h fun σ H Q ⟨B0, H0, ρ, s, Qd, R, hd, hq⟩ => ?_
  exact hq _ s v H hd R Gr.refl (hv _ _)
theorem de_int {i j pos} : DE Z X (.Constant (.int i) j pos) (dC (.int i)) := de_c pe_int fun _ _ => .int i
theorem de_bl {i j pos} : DE Z X (.Constant (.bool i) j pos) (dC (.bool i)) := de_c pe_bl fun _ _ => .bl i
theorem de_non {j pos} : DE Z X (.Constant .none j pos) (dC .none) := de_c pe_non fun _ _ => .non
theorem de_str {i j pos} : DE Z X (.Constant (.str i) j pos) (dC (.str i)) := de_c pe_str fun _ _ => .str i
/-! ### reading a result -/
theorem ImAll.bot {B : Addr → Prop} {vs : List V} {ds : List PyData} (h : ImAll B H vs ds) : ImAll (fun _ => False) H vs ds := h.mono (fun _ _ e _ => ⟨e, fun z => z⟩) (fun _ _ e => e) (fun _ _ _ e => e)
theorem Im.bot {B : Addr → Prop} {v : V} {d : PyData} (h : Im B H v d) : Im (fun _ => False) H v d := h.mono (fun _ _ e _ => ⟨e, fun z => z⟩) (fun _ _ e => e) (fun _ _ _ e => e)
theorem RvR.rd {d : PyData} (h : RvR Z B0 ρ H H1 v r) (e : r.D = some d) : Im (fun _ => False) H1 v d := by
  cases r with
  | im d' =>
    cases e
    exact Im.bot h
  | bo l =>
    cases e
    obtain ⟨a, xs, _, rfl, h3, h4⟩ := h
    exact .lst h3 (fun z => z) h4.bot
  | fr l =>
    cases e
    obtain ⟨a, xs, rfl, _, _, h3, h4⟩ := h
    exact .lst h3 (fun z => z) h4.bot
  | rw u => cases e
theorem RvR.st {d : PyData} (R : Rel Z B0 H0 ρ s σ H) (h : RvR Z B0 ρ H H1 v r) (e : r.st = some d) : Im (Bad Z B0 ρ) H1 v d := by
  cases r with
  | im d' =>
    cases e
    exact h
  | fr l =>
    cases e
    obtain ⟨a, xs, rfl, h1, h2, h3, h4⟩ := h
    exact .lst h3 (fun z => R.bad z h1) (h4.mono (fun _ _ e n => ⟨e, fun z => n (.inl z)⟩) (fun _ _ e => e) (fun _ _ _ e => e))
  | _ => cases e
/-- a list -/
theorem RvR.lst {l : List PyData} (h : RvR Z B0 ρ H H1 v r) (e : r.D = some (.list l)) : ∃ a xs, v = .ref a ∧ H1 a = some (.lst xs) ∧ ImAll (Bad Z B0 ρ) H1 xs l := by
  cases r with
  | im d' =>
    cases e
    cases h with
    | lst h1 _ h2 => exact ⟨_, _, rfl, h1, h2⟩
  | bo l =>
    cases e
    obtain ⟨a, xs, _, rfl, h3, h4⟩ := h
    exact ⟨a, xs, rfl, h3, h4⟩
  | fr l =>
    cases e
    obtain ⟨a, xs, rfl, _, _, h3, h4⟩ := h
    exact ⟨a, xs, rfl, h3, h4.mono (fun _ _ e n => ⟨e, fun z => n (.inl z)⟩) (fun _ _ e => e) (fun _ _ _ e => e)⟩
  | rw u => cases e
theorem RvR.tup {K : PySem.W.Frag} {l : List PyData} (h : RvR Z B0 ρ H H1 v r) (e : r.D = some (.tuple l)) : ∃ a xs, v = .ref a ∧ SqT K H1 a xs ∧ ImAll (Bad Z B0 ρ) H1 xs l := by
  cases r with
  | im d' =>
    cases e
    cases h with
    | tup h1 h2 => exact ⟨_, _, rfl, SqT.of h1, h2⟩
    | ftp h1 h2 => exact ⟨_, _, rfl, .inl (.inr ⟨_, h1⟩), h2⟩
  | bo l => cases e
  | fr l => cases e
  | rw u => cases e
theorem RvR.vI {i : Int} (h : RvR Z B0 ρ H H1 v r) (e : r.D = some (.int i)) : v = .int i := by cases h.rd e; rfl
theorem RvR.vB {i : Bool} (h : RvR Z B0 ρ H H1 v r) (e : r.D = some (.bool i)) : v = .bl i := by cases h.rd e; rfl
theorem RvR.vS {i : Str} (h : RvR Z B0 ρ H H1 v r) (e : r.D = some (.str i)) : v = .str i := by cases h.rd e; rfl
theorem RvR.vN (h : RvR Z B0 ρ H H1 v r) (e : r.D = some .none) : v = .non := by cases h.rd e; rfl
mutual
theorem dp_of {K : PySem.W.Frag} {B : Addr → Prop} : ∀ {v : V} {d : PyData}, PyData.canLay0 d = true → Im B H v d → Dp K H v d
  | _, _, _, .non => .non
  | _, _, _, .bl b => .bl b
  | _, _, _, .int i => .int i
  | _, _, _, .str x => .str x
  | _, _, h, .lst e _ q => .lst (SqL.of e) (dps_of (by simpa [PyData.canLay0] using h) q)
  | _, _, h, .tup e q => .tup (SqT.of e) (dps_of (by simpa [PyData.canLay0] using h) q)
  | _, _, h, .ftp e q => .tup (.inl (.inr ⟨_, e⟩)) (dps_of (by simpa [PyData.canLay0] using h) q)
  | _, _, h, .dct _ _ _ => by simp [PyData.canLay0] at h
theorem dps_of {K : PySem.W.Frag} {B : Addr → Prop} : ∀ {vs : List V} {ds : List PyData}, PyData.canLayAll0 ds = true → ImAll B H vs ds → DpAll K H vs ds
  | _, _, _, .nil => .nil
  | _, _, h, .cons q1 q2 => by
    simp only [PyData.canLayAll0, Bool.and_eq_true] at h
    exact .cons (dp_of h.1 q1) (dps_of h.2 q2)
end
/-! ### operators -/
abbrev Op := Rv → Rv → (Rv → Prop) → Prop
def dBin (op : Op) (da db : DX Z) : DX Z := fun s ρ Q => da s ρ fun x s1 => db s1 ρ fun y s2 => op x y fun r => Q r s2
def Op2 (K : PySem.W.Frag) (r : R2) (op : Op) : Prop := ∀ (Z : Zn) (B0 : Addr → Prop) (ρ : List Sl) (s : Z.S) (H0 : Hp) (σ : L2.St) (Ha Hb H : Hp) (v u : V) (x y : Rv) (Qd : Rv → Prop) (Q : VK), Rel Z B0 H0 ρ s σ H → RvR Z B0 ρ Ha H v x → RvR Z B0 ρ Hb H u y → op x y Qd →
  (∀ r' v' H', Qd r' → Same H H' → RvR Z B0 ρ H H' v' r' → Q v' H') → r v u H Q
theorem lift_bin {op : Op} {r : R2} {K : PySem.W.Frag} (h2 : Op2 K r op) {σ : L2.St} {H : Hp} {Q : VK} (h : liftE Z (dBin op da db) σ H Q) : tOp r (liftE Z da) (liftE Z db) σ H Q := by
  obtain ⟨B0, H0, ρ, s, Qd, R, hd, hq⟩ := h
  refine ⟨B0, H0, ρ, s, _, R, hd, fun x s1 v H1 qx R1 g1 r1 => ?_⟩
  refine ⟨B0, H0, ρ, s1, _, R1, qx, fun y s2 u H2 qy R2 g2 r2 => ?_⟩
  exact h2 Z B0 ρ s2 H0 σ _ _ H2 v u x y _ Q R2 (r1.grow R1 g2) r2 qy fun r' v' H' q sm rr => hq r' s2 v' H' q (R2.same sm) (g1.trans (g2.trans (Gr.of sm))) (rr.back R2.ok (g1.trans g2))
theorem Op2.or {K : PySem.W.Frag} {r r' : R2} {op op' : Op} (h : Op2 K r op) (h' : Op2 K r' op') : Op2 K (fun x y H Q => r x y H Q ∨ r' x y H Q) (fun x y Q => op x y Q ∨ op' x y Q) := fun Z B0 ρ s H0 σ Ha Hb H v u x y Qd Q R rx ry q k => by
  rcases q with q | q
  · exact .inl (h Z B0 ρ s H0 σ Ha Hb H v u x y Qd Q R rx ry q k)
  · exact .inr (h' Z B0 ρ s H0 σ Ha Hb H v u x y Qd Q R rx ry q k)
/-- two ints -/
def opI (C : Int → Int → Prop) (g : Int → Int → PyData) : Op := fun x y Q => match x.D, y.D with
  | some (.int i), some (.int j) => C i j ∧ Q (.im (g i j))
  | _, _ => False
theorem opI_get {C : Int → Int → Prop} {g : Int → Int → PyData} {Q : Rv → Prop} (h : opI C g x y Q) : ∃ i j, x.D = some (.int i) ∧ y.D = some (.int j) ∧ C i j ∧ Q (.im (g i j)) := by
  unfold opI at h
  split at h
  · rename_i i j e1 e2
    exact ⟨i, j, e1, e2, h⟩
  · exact h.elim
theorem op2_I {K : PySem.W.Frag} {C : Int → Int → Prop} {g : Int → Int → PyData} {gv : Int → Int → V} (hg : ∀ i j B H, Im B H (gv i j) (g i j)) : Op2 K (rI C gv) (opI C g) := fun Z B0 ρ s H0 σ Ha Hb H v u x y Qd Q R rx ry q k => by
  obtain ⟨i, j, e1, e2, hc, q⟩ := opI_get q
  exact ⟨i, j, rx.vI e1, ry.vI e2, hc, k _ _ _ q (Same.refl H) (hg i j _ _)⟩
def opI0 (g : Int → Int → PyData) : Op := fun x y Q => match x.D, y.D with
  | some (.int i), some (.int j) => Q (.im (g i j))
  | _, _ => False
theorem opI0_get {g : Int → Int → PyData} {Q : Rv → Prop} (h : opI0 g x y Q) : ∃ i j, x.D = some (.int i) ∧ y.D = some (.int j) ∧ Q (.im (g i j)) := by
  unfold opI0 at h
  split at h
  · rename_i i j e1 e2
    exact ⟨i, j, e1, e2, h⟩
  · exact h.elim
theorem op2_I0 {K : PySem.W.Frag} {g : Int → Int → PyData} {gv : Int → Int → V} (hg : ∀ i j B H, Im B H (gv i j) (g i j)) : Op2 K (rI0 gv) (opI0 g) := fun Z B0 ρ s H0 σ Ha Hb H v u x y Qd Q R rx ry q k => by
  obtain ⟨i, j, e1, e2, q⟩ := opI0_get q
  exact ⟨i, j, rx.vI e1, ry.vI e2, k _ _ _ q (Same.refl H) (hg i j _ _)⟩
end
end Lf
namespace Lf
open PySem PySem.Spec PyProof.Rows L2
section
variable {Z : Zn} {X : Cx} {B0 : Addr → Prop} {H0 H H1 H2 : Hp} {ρ : List Sl} {s s1 s2 : Z.S} {σ : L2.St} {v u : V} {r x y : Rv} {e a b c : Expr} {da db dc : DX Z} {pos p : Pos} {K : PySem.W.Frag} {B : Addr → Prop}
theorem ImAll.same {vs : List V} {ds : List PyData} (h : ImAll B H vs ds) (sm : Same H H1) : ImAll B H1 vs ds := h.mono (fun b o e n => ⟨sm b o e, n⟩) (fun b xs e => sm b _ e) (fun b o u e => sm b _ e)
theorem Im.same {d : PyData} (h : Im B H v d) (sm : Same H H1) : Im B H1 v d := h.mono (fun b o e n => ⟨sm b o e, n⟩) (fun b xs e => sm b _ e) (fun b o u e => sm b _ e)
theorem ImAll.fresh {vs : List V} {ds : List PyData} {q : Addr} {o : HO} (h : ImAll B H vs ds) (hq : H q = none) : ImAll (fun a => B a ∨ a = q) (upd H q o) vs ds :=
  h.mono (fun b o e n => ⟨by rw [upd_ne (ne_of_none e hq)]; exact e, fun z => z.elim n (ne_of_none e hq)⟩) (fun b xs e => by rw [upd_ne (ne_of_none e hq)]; exact e) (fun b o u e => by rw [upd_ne (ne_of_none e hq)]; exact e)
/-- a new list -/
theorem Rel.newL (R : Rel Z B0 H0 ρ s σ H) {q : Addr} {xs : List V} {l : List PyData} (hq : H q = none) (h : ImAll (Bad Z B0 ρ) H xs l) : RvR Z B0 ρ H (upd H q (.lst xs)) (.ref q) (.fr l) :=
  ⟨q, xs, rfl, hq, fun z => Z.trk R.ok z hq, upd_same, h.fresh hq⟩
theorem newT {q : Addr} {xs : List V} {l : List PyData} (hq : H q = none) (h : ImAll (Bad Z B0 ρ) H xs l) : RvR Z B0 ρ H (upd H q (.tup xs)) (.ref q) (.im (.tuple l)) := Im.tup upd_same (h.same (same_new hq))
theorem smB {n : Nat} (h : n ≤ 1000000) : n ≤ sizeLine := by rw [sizeLine_eq]; omega
/-! ### + -/
def opAdd : Op := fun x y Q => match x.D, y.D with
  | some (.int i), some (.int j) => Q (.im (.int (i + j)))
  | some (.list l), some (.list m) => l.length + m.length ≤ 1000000 ∧ Q (.fr (l ++ m))
  | some (.tuple l), some (.tuple m) => l.length + m.length ≤ 1000000 ∧ Q (.im (.tuple (l ++ m)))
  | some (.str i), some (.str j) => i.length + j.length ≤ 1000000 ∧ Q (.im (.str (i ++ j)))
  | _, _ => False
def rCatB (K : PySem.W.Frag) : R2 := fun x y H Q => ∃ (a b : Addr) (xs ys : List V), x = .ref a ∧ y = .ref b ∧ SqT K H a xs ∧ SqT K H b ys ∧ xs.length + ys.length ≤ sizeLine ∧ (ys = [] → Q (.ref a) H) ∧ (xs = [] → Q (.ref b) H) ∧ (∀ p, H p = none → Q (.ref p) (upd H p (.tup (xs ++ ys))))
theorem op_catB : OpR X (binaryOp .Add) (rCatB X.K) := by
  intro pins s σ H x y v u Q I rx ry h
  obtain ⟨a, b, xs, ys, rfl, rfl, h1, h2, h3, h4, h5, h6⟩ := h
  exact op_catA pins s σ H _ _ v u Q I rx ry ⟨a, b, xs, ys, rfl, rfl, h1, h2, h3, h5, fun _ => h4, fun _ _ => h6⟩
theorem de_add (ha : DE Z X a da) (hb : DE Z X b db) : DE Z X (.BinOp a .Add b pos) (dBin opAdd da db) := by
  refine PE.of (pe_op ((op_add.or op_cat).or (op_catB.or op_add_str)) ha hb) fun σ H Q h => lift_bin (K := X.K) ?_ h
  intro Z B0 ρ s H0 σ Ha Hb H v u x y Qd Q R rx ry q k
  unfold opAdd at q
  split at q
  · rename_i i j e1 e2
    exact .inl (.inl ⟨i, j, rx.vI e1, ry.vI e2, k _ _ _ q (Same.refl H) (Im.int _)⟩)
  · rename_i l m e1 e2
    obtain ⟨a, xs, rfl, h1, h2⟩ := rx.lst e1
    obtain ⟨b, ys, rfl, h3, h4⟩ := ry.lst e2
    refine .inl (.inr ⟨a, b, xs, ys, rfl, rfl, h1, h3, by rw [h2.length, h4.length]; exact smB q.1, fun p hp => k _ _ _ q.2 (same_new hp) (R.newL hp (h2.append h4))⟩)
  · rename_i l m e1 e2
    obtain ⟨a, xs, rfl, h1, h2⟩ := rx.tup (K := X.K) e1
    obtain ⟨b, ys, rfl, h3, h4⟩ := ry.tup (K := X.K) e2
    refine .inr (.inl ⟨a, b, xs, ys, rfl, rfl, h1, h3, by rw [h2.length, h4.length]; exact smB q.1, fun e => ?_, fun e => ?_, fun p hp => k _ _ _ q.2 (same_new hp) (newT hp (h2.append h4))⟩)
    · subst e
      have e : m = [] := List.length_eq_zero_iff.mp h4.length.symm
      subst e
      rw [List.append_nil] at q
      refine k _ _ _ q.2 (Same.refl H) ?_
      cases x with
      | im d => cases e1; exact rx
      | _ => cases e1
    · subst e
      have e : l = [] := List.length_eq_zero_iff.mp h2.length.symm
      subst e
      rw [List.nil_append] at q
      refine k _ _ _ q.2 (Same.refl H) ?_
      cases y with
      | im d => cases e2; exact ry
      | _ => cases e2
  · rename_i i j e1 e2
    exact .inr (.inr ⟨i, j, rx.vS e1, ry.vS e2, smB q.1, k _ _ _ q.2 (Same.refl H) (Im.str _)⟩)
  · exact q.elim
/-! ### ints -/
abbrev opSub : Op := opI0 fun i j => .int (i - j)
theorem de_sub (ha : DE Z X a da) (hb : DE Z X b db) : DE Z X (.BinOp a .Sub b pos) (dBin opSub da db) := PE.of (pe_op op_sub ha hb) fun σ H Q h => lift_bin (K := X.K) (op2_I0 fun _ _ _ _ => .int _) h
/-- // by a positive number below 2 ^ 9000 -/
abbrev opDiv : Op := opI CDivW fun i j => .int (i / j)
theorem de_div (ha : DE Z X a da) (hb : DE Z X b db) : DE Z X (.BinOp a .FloorDiv b pos) (dBin opDiv da db) := PE.of (pe_op op_fdivW ha hb) fun σ H Q h => lift_bin (K := X.K) (op2_I fun _ _ _ _ => .int _) h
abbrev opMod : Op := opI (fun _ j => 0 < j) fun i j => .int (i % j)
theorem de_mod (ha : DE Z X a da) (hb : DE Z X b db) : DE Z X (.BinOp a .Mod b pos) (dBin opMod da db) := PE.of (pe_op op_mod ha hb) fun σ H Q h => lift_bin (K := X.K) (op2_I fun _ _ _ _ => .int _) h
abbrev opPow : Op := opI CPow fun i j => .int (i ^ j.toNat)
theorem de_pow (ha : DE Z X a da) (hb : DE Z X b db) : DE Z X (.BinOp a .Pow b pos) (dBin opPow da db) := PE.of (pe_op op_pow ha hb) fun σ H Q h => lift_bin (K := X.K) (op2_I fun _ _ _ _ => .int _) h
abbrev opShl : Op := opI CPow fun i j => .int (i * 2 ^ j.toNat)
theorem de_shl (ha : DE Z X a da) (hb : DE Z X b db) : DE Z X (.BinOp a .LShift b pos) (dBin opShl da db) := PE.of (pe_op op_shl ha hb) fun σ H Q h => lift_bin (K := X.K) (op2_I fun _ _ _ _ => .int _) h
abbrev opBand : Op := opI0 fun i j => .int (Builtin.bitAnd i j)
theorem de_band (ha : DE Z X a da) (hb : DE Z X b db) : DE Z X (.BinOp a .BitAnd b pos) (dBin opBand da db) := PE.of (pe_op op_and ha hb) fun σ H Q h => lift_bin (K := X.K) (op2_I0 fun _ _ _ _ => .int _) h
/-! ### * -/
def opMul : Op := fun x y Q => match x.D, y.D with
  | some (.int i), some (.int j) => CMulW i j ∧ Q (.im (.int (i * j)))
  | some (.list l), some (.int k) => -(2 ^ 63) ≤ k ∧ k < 2 ^ 63 ∧ l.length * k.toNat ≤ 1000000 ∧ Q (.fr (List.replicate k.toNat l).flatten)
  | _, _ => False
theorem ImAll.rep {vs : List V} {ds : List PyData} (h : ImAll B H vs ds) : ∀ n : Nat, ImAll B H (List.replicate n vs).flatten (List.replicate n ds).flatten
  | 0 => .nil
  | n + 1 => by
    rw [List.replicate_succ, List.replicate_succ, List.flatten_cons, List.flatten_cons]
    exact h.append (h.rep n)
theorem de_mul (ha : DE Z X a da) (hb : DE Z X b db) : DE Z X (.BinOp a .Mult b pos) (dBin opMul da db) := by
  refine PE.of (pe_op (op_mulW.or op_rep) ha hb) fun σ H Q h => lift_bin (K := X.K) ?_ h
  intro Z B0 ρ s H0 σ Ha Hb H v u x y Qd Q R rx ry q k
  unfold opMul at q
  split at q
  · rename_i i j e1 e2
    exact .inl ⟨i, j, rx.vI e1, ry.vI e2, q.1, k _ _ _ q.2 (Same.refl H) (Im.int _)⟩
  · rename_i l m e1 e2
    obtain ⟨a, xs, rfl, h1, h2⟩ := rx.lst e1
    exact .inr ⟨a, m, xs, rfl, ry.vI e2, h1, q.1, q.2.1, by rw [h2.length]; exact smB q.2.2.1, fun p hp => k _ _ _ q.2.2.2 (same_new hp) (R.newL hp (h2.rep _))⟩
  · exact q.elim
/-! ### comparisons -/
def cmpI (g : Int → Int → Bool) : Op := opI0 fun i j => .bool (g i j)
theorem de_lt (ha : DE Z X a da) (hb : DE Z X b db) : DE Z X (.Compare a [.Lt] [b] pos) (dBin (cmpI fun i j => decide (i < j)) da db) := PE.of (pe_cmpR op_lt ha hb (nomark _)) fun σ H Q h => lift_bin (K := X.K) (op2_I0 fun _ _ _ _ => .bl _) h
theorem de_le (ha : DE Z X a da) (hb : DE Z X b db) : DE Z X (.Compare a [.LtE] [b] pos) (dBin (cmpI fun i j => decide (i ≤ j)) da db) := PE.of (pe_cmpR op_le ha hb (nomark _)) fun σ H Q h => lift_bin (K := X.K) (op2_I0 fun _ _ _ _ => .bl _) h
theorem de_gt (ha : DE Z X a da) (hb : DE Z X b db) : DE Z X (.Compare a [.Gt] [b] pos) (dBin (cmpI fun i j => decide (j < i)) da db) := PE.of (pe_cmpR op_gt ha hb (nomark _)) fun σ H Q h => lift_bin (K := X.K) (op2_I0 fun _ _ _ _ => .bl _) h
theorem de_ge (ha : DE Z X a da) (hb : DE Z X b db) : DE Z X (.Compare a [.GtE] [b] pos) (dBin (cmpI fun i j => decide (j ≤ i)) da db) := PE.of (pe_cmpR op_ge ha hb (nomark _)) fun σ H Q h => lift_bin (K := X.K) (op2_I0 fun _ _ _ _ => .bl _) h
/-- == of data -/
def opEq : Op := fun x y Q => match x.D, y.D with
  | some (.int i), some (.int j) => Q (.im (.bool (decide (i = j))))
  | some (.str i), some (.str j) => Q (.im (.bool (decide (i = j))))
  | some d, some e => SeqAt.shaped d = true ∧ SeqAt.shaped e = true ∧ Q (.im (.bool (PyData.eqv d e)))
  | _, _ => False
def opNe : Op := fun x y Q => match x.D, y.D with
  | some (.int i), some (.int j) => Q (.im (.bool (!decide (i = j))))
  | some (.str i), some (.str j) => Q (.im (.bool (!decide (i = j))))
  | some d, some e => SeqAt.shaped d = true ∧ SeqAt.shaped e = true ∧ Q (.im (.bool (!PyData.eqv d e)))
  | _, _ => False
theorem decI {i j : Int} : decide (V.int i = V.int j) = decide (i = j) := decide_eq_decide.mpr ⟨fun z => V.int.inj z, fun z => by rw [z]⟩
theorem decS {i j : Str} : decide (V.str i = V.str j) = decide (i = j) := decide_eq_decide.mpr ⟨fun z => V.str.inj z, fun z => by rw [z]⟩
theorem de_eq (hu : X.A.units + 65 < cLine) (ha : DE Z X a da) (hb : DE Z X b db) : DE Z X (.Compare a [.Eq] [b] pos) (dBin opEq da db) := by
  refine PE.of (pe_cmpR (op_eq.or (op_eqD (by omega))) ha hb (nomark _)) fun σ H Q h => lift_bin (K := X.K) ?_ h
  intro Z B0 ρ s H0 σ Ha Hb H v u x y Qd Q R rx ry q k
  unfold opEq at q
  split at q
  · rename_i i j e1 e2
    rw [rx.vI e1, ry.vI e2]
    exact .inl ⟨rfl, by rw [decI]; exact k _ _ _ q (Same.refl H) (Im.bl _)⟩
  · rename_i i j e1 e2
    rw [rx.vS e1, ry.vS e2]
    exact .inl ⟨rfl, by rw [decS]; exact k _ _ _ q (Same.refl H) (Im.bl _)⟩
  · rename_i d e _ _ e1 e2
    exact .inr ⟨d, e, dp_of (SeqAt.canLay_of_shaped q.1) (rx.rd e1), dp_of (SeqAt.canLay_of_shaped q.2.1) (ry.rd e2), q.1, q.2.1, k _ _ _ q.2.2 (Same.refl H) (Im.bl _)⟩
  · exact q.elim
theorem de_ne (hu : X.A.units + 65 < cLine) (ha : DE Z X a da) (hb : DE Z X b db) : DE Z X (.Compare a [.NotEq] [b] pos) (dBin opNe da db) := by
  refine PE.of (pe_cmpR (op_ne.or (op_neD (by omega))) ha hb (nomark _)) fun σ H Q h => lift_bin (K := X.K) ?_ h
  intro Z B0 ρ s H0 σ Ha Hb H v u x y Qd Q R rx ry q k
  unfold opNe at q
  split at q
  · rename_i i j e1 e2
    rw [rx.vI e1, ry.vI e2]
    exact .inl ⟨rfl, by rw [decI]; exact k _ _ _ q (Same.refl H) (Im.bl _)⟩
  · rename_i i j e1 e2
    rw [rx.vS e1, ry.vS e2]
    exact .inl ⟨rfl, by rw [decS]; exact k _ _ _ q (Same.refl H) (Im.bl _)⟩
  · rename_i d e _ _ e1 e2
    exact .inr ⟨d, e, dp_of (SeqAt.canLay_of_shaped q.1) (rx.rd e1), dp_of (SeqAt.canLay_of_shaped q.2.1) (ry.rd e2), q.1, q.2.1, k _ _ _ q.2.2 (Same.refl H) (Im.bl _)⟩
  · exact q.elim
/-- x in a list or a tuple -/
def opIn (neg : Bool) : Op := fun x y Q => match x.D, y.D with
  | some d, some (.list l) => SeqAt.shaped d = true ∧ SeqAt.shaped (.list l) = true ∧ Q (.im (.bool (neg != l.any fun z => PyData.eqv z d)))
  | some d, some (.tuple l) => SeqAt.shaped d = true ∧ SeqAt.shaped (.list l) = true ∧ Q (.im (.bool (neg != l.any fun z => PyData.eqv z d)))
  | _, _ => False
theorem op_notInDT {X : Cx} (hu : X.A.units + 65 < cLine) : OpR X (compareOp .NotIn) (fun x y H Q => ∃ d ds, Dp X.K H x d ∧ Dp X.K H y (.tuple ds) ∧ SeqAt.shaped d = true ∧ SeqAt.shaped (.tuple ds) = true ∧ Q (.bl (!ds.any fun z => PyData.eqv z d)) H) := by
  intro pins s σ H x y v u Q I rx ry h
  obtain ⟨d, ds, h1, h2, h3, h4, q⟩ := h
  obtain ⟨as, ra⟩ := Dp.reads I _ _ _ h1 rx
  obtain ⟨bs, rb⟩ := Dp.reads I _ _ _ h2 ry
  exact SeqAt.notIn_tuple_reads rb ra (SeqAt.canLay_of_shaped h4) (SeqAt.canLay_of_shaped h3) (room_in_shaped h3 hu) ⟨.bl _, H, I, rfl, q⟩
theorem shT (l : List PyData) : SeqAt.shaped (.tuple l) = SeqAt.shaped (.list l) := rfl
theorem de_in (hu : X.A.units + 65 < cLine) (ha : DE Z X a da) (hb : DE Z X b db) (hm : behindInMarks .In b = false := by rfl) : DE Z X (.Compare a [.In] [b] pos) (dBin (opIn false) da db) := by
  refine PE.of (pe_cmpR ((op_inD hu).or (op_inDT hu)) ha hb hm) fun σ H Q h => lift_bin (K := X.K) ?_ h
  intro Z B0 ρ s H0 σ Ha Hb H v u x y Qd Q R rx ry q k
  unfold opIn at q
  split at q
  · rename_i d l e1 e2
    refine .inl ⟨d, l, dp_of (SeqAt.canLay_of_shaped q.1) (rx.rd e1), dp_of (SeqAt.canLay_of_shaped q.2.1) (ry.rd e2), q.1, q.2.1, ?_⟩
    refine k _ _ _ q.2.2 (Same.refl H) ?_
    rw [Bool.false_bne]
    exact Im.bl _
  · rename_i d l e1 e2
    refine .inr ⟨d, l, dp_of (SeqAt.canLay_of_shaped q.1) (rx.rd e1), dp_of (SeqAt.canLay_of_shaped q.2.1) (ry.rd e2), q.1, q.2.1, ?_⟩
    refine k _ _ _ q.2.2 (Same.refl H) ?_
    rw [Bool.false_bne]
    exact Im.bl _
  · exact q.elim
theorem de_notin (hu : X.A.units + 65 < cLine) (ha : DE Z X a da) (hb : DE Z X b db) (hm : behindInMarks .NotIn b = false := by rfl) : DE Z X (.Compare a [.NotIn] [b] pos) (dBin (opIn true) da db) := by
  refine PE.of (pe_cmpR ((op_notInD hu).or (op_notInDT hu)) ha hb hm) fun σ H Q h => lift_bin (K := X.K) ?_ h
  intro Z B0 ρ s H0 σ Ha Hb H v u x y Qd Q R rx ry q k
  unfold opIn at q
  split at q
  · rename_i d l e1 e2
    refine .inl ⟨d, l, dp_of (SeqAt.canLay_of_shaped q.1) (rx.rd e1), dp_of (SeqAt.canLay_of_shaped q.2.1) (ry.rd e2), q.1, q.2.1, ?_⟩
    refine k _ _ _ q.2.2 (Same.refl H) ?_
    rw [Bool.true_bne]
    exact Im.bl _
  · rename_i d l e1 e2
    refine .inr ⟨d, l, dp_of (SeqAt.canLay_of_shaped q.1) (rx.rd e1), dp_of (SeqAt.canLay_of_shaped q.2.1) (ry.rd e2), q.1, q.2.1, ?_⟩
    refine k _ _ _ q.2.2 (Same.refl H) ?_
    rw [Bool.true_bne]
    exact Im.bl _
  · exact q.elim
/-! ### x[i] -/
def opIx : Op := fun x y Q => match x.D, y.D with
  | some (.list l), some (.int i) => ∃ d, atI l i = some d ∧ Q (.im d)
  | some (.tuple l), some (.int i) => ∃ d, atI l i = some d ∧ Q (.im d)
  | _, _ => False
theorem ImAll.atI {vs : List V} {ds : List PyData} {i : Int} {d : PyData} (h : ImAll B H vs ds) (e : L2.atI ds i = some d) : ∃ v, L2.atI vs i = some v ∧ Im B H v d := by
  unfold L2.atI at e ⊢
  rw [h.length]
  cases z : ixN ds.length i with
  | none => rw [z] at e; cases e
  | some j =>
    rw [z] at e
    exact h.get (i := j) e
theorem IxR.or {r r' : R2} (h : IxR X r) (h' : IxR X r') : IxR X (fun x y H Q => r x y H Q ∨ r' x y H Q) := by
  intro value slice pins s σ H x y v u Q I rx ry q hs
  rcases q with q | q
  · exact h value slice pins s σ H x y v u Q I rx ry q hs
  · exact h' value slice pins s σ H x y v u Q I rx ry q hs
theorem de_ix (ha : DE Z X a da) (hb : DE Z X b db) (hs : PlainIx b := by exact fun _ _ => rfl) : DE Z X (.Subscript a b pos) (dBin opIx da db) := by
  refine PE.of (pe_ix (IxR.or ix_list ix_tup) ha hb hs) fun σ H Q h => lift_bin (K := X.K) ?_ h
  intro Z B0 ρ s H0 σ Ha Hb H v u x y Qd Q R rx ry q k
  unfold opIx at q
  split at q
  · rename_i l i e1 e2
    obtain ⟨d, hd, q⟩ := q
    obtain ⟨a, xs, rfl, h1, h2⟩ := rx.lst e1
    obtain ⟨w, hw, h3⟩ := h2.atI hd
    exact .inl ⟨a, xs, i, w, rfl, ry.vI e2, SqL.of h1, hw, k _ _ _ q (Same.refl H) h3⟩
  · rename_i l i e1 e2
    obtain ⟨d, hd, q⟩ := q
    obtain ⟨a, xs, rfl, h1, h2⟩ := rx.tup (K := X.K) e1
    obtain ⟨w, hw, h3⟩ := h2.atI hd
    exact .inr ⟨a, xs, i, w, rfl, ry.vI e2, h1, hw, k _ _ _ q (Same.refl H) h3⟩
  · exact q.elim
end
end Lf
namespace Lf
open PySem PySem.Spec PyProof.Rows L2
section
variable {Z : Zn} {X : Cx} {B0 : Addr → Prop} {H0 H H1 H2 : Hp} {ρ : List Sl} {s s1 s2 : Z.S} {σ : L2.St} {v u : V} {r x y : Rv} {e a b c : Expr} {es : List Expr} {de da db dc : DX Z} {das : DA Z} {pos p : Pos} {K : PySem.W.Frag} {B : Addr → Prop}
/-! ### arguments -/
def dANil : DA Z := fun s _ Q => Q [] s
def dACons (de : DX Z) (da : DA Z) : DA Z := fun s ρ Q => de s ρ fun r s1 => da s1 ρ fun rs s2 => Q (r :: rs) s2
theorem da_nil : DAs Z X [] dANil := PA.of pa_nil fun σ H Q ⟨B0, H0, ρ, s, Qd, R, hd, hq⟩ => hq [] s [] H hd R Gr.refl .nil
theorem da_cons (he : DE Z X e de) (ha : DAs Z X es das) (hs : starEach (e :: es) X.env = (false, eval e X.env) :: starEach es X.env := by rfl) : DAs Z X (e :: es) (dACons de das) := by
  refine PA.of (pa_cons he ha hs) fun σ H Q ⟨B0, H0, ρ, s, Qd, R, hd, hq⟩ => ?_
  refine ⟨B0, H0, ρ, s, _, R, hd, fun r s1 v H1 qx R1 g1 r1 => ?_⟩
  refine ⟨B0, H0, ρ, s1, _, R1, qx, fun rs s2 vs H2 qy R2 g2 r2 => ?_⟩
  exact hq _ s2 _ H2 qy R2 (g1.trans g2) (.cons (r1.grow R1 g2) (r2.back R1.ok g1))
/-- what is kept -/
def sts : List Rv → Option (List PyData)
  | [] => some []
  | r :: rs => match r.st, sts rs with
    | some d, some ds => some (d :: ds)
    | _, _ => none
theorem sts_get {r : Rv} {rs : List Rv} {ds : List PyData} (h : sts (r :: rs) = some ds) : ∃ d es, r.st = some d ∧ sts rs = some es ∧ ds = d :: es := by
  unfold sts at h
  split at h
  · rename_i d es h1 h2
    cases h
    exact ⟨d, es, h1, h2, rfl⟩
  · cases h
theorem RvRs.st (R : Rel Z B0 H0 ρ s σ H) : ∀ {vs : List V} {rs : List Rv} {ds : List PyData}, RvRs Z B0 ρ H H1 vs rs → sts rs = some ds → ImAll (Bad Z B0 ρ) H1 vs ds
  | _, _, _, .nil, h => by cases h; exact .nil
  | _, _, _, .cons q1 q2, h => by
    obtain ⟨d, es, h1, h2, rfl⟩ := sts_get h
    exact .cons (RvR.st R q1 h1) (RvRs.st R q2 h2)
def dLst (da : DA Z) : DX Z := fun s ρ Q => da s ρ fun rs s1 => ∃ ds, sts rs = some ds ∧ ds.length ≤ 1000000 ∧ Q (.fr ds) s1
def dTup (da : DA Z) : DX Z := fun s ρ Q => da s ρ fun rs s1 => ∃ ds, sts rs = some ds ∧ ds.length ≤ 1000000 ∧ Q (.im (.tuple ds)) s1
theorem de_lst (ha : DAs Z X es das) : DE Z X (.List es pos) (dLst das) := by
  refine PE.of (pe_lst ha) fun σ H Q ⟨B0, H0, ρ, s, Qd, R, hd, hq⟩ => ?_
  refine ⟨B0, H0, ρ, s, _, R, hd, fun rs s1 vs H1 qx R1 g1 r1 => ?_⟩
  obtain ⟨ds, h1, h2, q⟩ := qx
  have im := RvRs.st R r1 h1
  refine ⟨by rw [im.length]; exact smB h2, fun p hp => hq _ s1 _ _ q (R1.same (same_new hp)) (g1.trans (Gr.of (same_new hp))) ((R1.newL hp im).back R1.ok g1)⟩
theorem de_tup {x1} (ha : DAs Z X es das) : DE Z X (.Tuple es x1 pos) (dTup das) := by
  refine PE.of (pe_tup ha) fun σ H Q ⟨B0, H0, ρ, s, Qd, R, hd, hq⟩ => ?_
  refine ⟨B0, H0, ρ, s, _, R, hd, fun rs s1 vs H1 qx R1 g1 r1 => ?_⟩
  obtain ⟨ds, h1, h2, q⟩ := qx
  have im := RvRs.st R r1 h1
  exact ⟨by rw [im.length]; exact smB h2, fun p hp => hq _ s1 _ _ q (R1.same (same_new hp)) (g1.trans (Gr.of (same_new hp))) (newT hp im)⟩
/-! ### calls of built-ins -/
abbrev Cb := List Rv → (Rv → Prop) → Prop
def dCB (f : Cb) (da : DA Z) : DX Z := fun s ρ Q => da s ρ fun rs s1 => f rs fun r => Q r s1
def Cb2 (rr : List V → Hp → VK → Prop) (f : Cb) : Prop := ∀ (Z : Zn) (B0 : Addr → Prop) (ρ : List Sl) (s : Z.S) (H0 : Hp) (σ : L2.St) (Ha H : Hp) (vs : List V) (xs : List Rv) (Qd : Rv → Prop) (Q : VK), Rel Z B0 H0 ρ s σ H → RvRs Z B0 ρ Ha H vs xs → f xs Qd →
  (∀ r' v' H', Qd r' → Same H H' → RvR Z B0 ρ H H' v' r' → Q v' H') → rr vs H Q
theorem lift_cb {rr : List V → Hp → VK → Prop} {f : Cb} (h2 : Cb2 rr f) {σ : L2.St} {H : Hp} {Q : VK} (h : liftE Z (dCB f das) σ H Q) : tCB rr (liftA Z das) σ H Q := by
  obtain ⟨B0, H0, ρ, s, Qd, R, hd, hq⟩ := h
  refine ⟨B0, H0, ρ, s, _, R, hd, fun rs s1 vs H1 qx R1 g1 r1 => ?_⟩
  exact h2 Z B0 ρ s1 H0 σ _ H1 vs rs _ Q R1 r1 qx fun r' v' H' q sm rr => hq r' s1 v' H' q (R1.same sm) (g1.trans (Gr.of sm)) (rr.back R1.ok g1)
theorem CallR.or {f : Value} {r r' : List V → Hp → VK → Prop} (h : CallR X f r) (h' : CallR X f r') : CallR X f (fun xs H Q => r xs H Q ∨ r' xs H Q) := by
  intro pins s σ H xs us Q I rs q
  rcases q with q | q
  · exact h pins s σ H xs us Q I rs q
  · exact h' pins s σ H xs us Q I rs q
theorem RvRs.one {vs : List V} {x : Rv} (h : RvRs Z B0 ρ H H1 vs [x]) : ∃ v, vs = [v] ∧ RvR Z B0 ρ H H1 v x := by
  cases h with
  | cons q1 q2 =>
    cases q2
    exact ⟨_, rfl, q1⟩
theorem RvRs.two {vs : List V} {x y : Rv} (h : RvRs Z B0 ρ H H1 vs [x, y]) : ∃ v u, vs = [v, u] ∧ RvR Z B0 ρ H H1 v x ∧ RvR Z B0 ρ H H1 u y := by
  cases h with
  | cons q1 q2 =>
    obtain ⟨u, rfl, q3⟩ := q2.one
    exact ⟨_, u, rfl, q1, q3⟩
def opLen : Cb := fun rs Q => match rs with
  | [x] => match x.D with
    | some (.list l) => Q (.im (.int (l.length : Nat)))
    | some (.tuple l) => Q (.im (.int (l.length : Nat)))
    | some (.str z) => z.length ≤ 1000000 ∧ Q (.im (.int (z.length : Nat)))
    | _ => False
  | _ => False
theorem de_len (hg : Gl X "len") (hm : X.mg "len" = none) (ha : DAs Z X (e :: es) das) (he : starEach (e :: es) X.env = (false, eval e X.env) :: starEach es X.env := by rfl) (hpl : (backTo pos (starEach es X.env)).any (·.1) = false := by rfl) : DE Z X (.Call (.Name "len" p) (e :: es) [] pos) (dCB opLen das) := by
  refine PE.of (pe_callB call_len hg hm PySem.boot_len ha (by decide) (by decide) he hpl) fun σ H Q h => lift_cb ?_ h
  intro Z B0 ρ s H0 σ Ha H vs xs Qd Q R rr q k
  unfold opLen at q
  split at q
  · rename_i x
    obtain ⟨v, rfl, r1⟩ := rr.one
    split at q
    · rename_i l e1
      obtain ⟨a, ys, rfl, h1, h2⟩ := r1.lst e1
      exact ⟨_, _, rfl, .inl ⟨ys, SqL.of h1, rfl⟩, by rw [h2.length]; exact k _ _ _ q (Same.refl H) (Im.int _)⟩
    · rename_i l e1
      obtain ⟨a, ys, rfl, h1, h2⟩ := r1.tup (K := X.K) e1
      exact ⟨_, _, rfl, .inr ⟨ys, h1, rfl⟩, by rw [h2.length]; exact k _ _ _ q (Same.refl H) (Im.int _)⟩
    · rename_i z e1
      rw [r1.vS e1]
      exact ⟨_, _, rfl, ⟨smB q.1, rfl⟩, k _ _ _ q.2 (Same.refl H) (Im.int _)⟩
    · exact q.elim
  · exact q.elim
def opAbs : Cb := fun rs Q => match rs with
  | [x] => match x.D with
    | some (.int i) => Q (.im (.int (if i < 0 then -i else i)))
    | _ => False
  | _ => False
theorem de_abs (hg : Gl X "abs") (hm : X.mg "abs" = none) (ha : DAs Z X (e :: es) das) (he : starEach (e :: es) X.env = (false, eval e X.env) :: starEach es X.env := by rfl) (hpl : (backTo pos (starEach es X.env)).any (·.1) = false := by rfl) : DE Z X (.Call (.Name "abs" p) (e :: es) [] pos) (dCB opAbs das) := by
  refine PE.of (pe_callB call_abs hg hm (by decide +kernel) ha (by decide) (by decide) he hpl) fun σ H Q h => lift_cb ?_ h
  intro Z B0 ρ s H0 σ Ha H vs xs Qd Q R rr q k
  unfold opAbs at q
  split at q
  · obtain ⟨v, rfl, r1⟩ := rr.one
    split at q
    · rename_i i e1
      rw [r1.vI e1]
      exact ⟨i, rfl, k _ _ _ q (Same.refl H) (Im.int _)⟩
    · exact q.elim
  · exact q.elim
theorem nums_of {vs : List V} : ∀ {ns : List Int}, ImAll B H vs (ns.map PyData.int) → vs = ns.map V.int := fun {ns} h => by
  induction ns generalizing vs with
  | nil => cases h; rfl
  | cons n ns ih =>
    cases h with
    | cons q1 q2 =>
      cases q1
      rw [ih q2]
      rfl
theorem im_nums : ∀ ns : List Int, ImAll B H (ns.map V.int) (ns.map PyData.int)
  | [] => .nil
  | n :: ns => .cons (.int n) (im_nums ns)
/-- max, min of a list of ints, a tuple of ints, of two ints -/
def opMax : Cb := fun rs Q => match rs with
  | [x] => match x.D with
    | some (.list l) => ∃ ns : List Int, l = ns.map .int ∧ 0 < ns.length ∧ ∀ m, m ∈ ns → (∀ y ∈ ns, y ≤ m) → Q (.im (.int m))
    | some (.tuple l) => ∃ ns : List Int, l = ns.map .int ∧ 0 < ns.length ∧ ∀ m, m ∈ ns → (∀ y ∈ ns, y ≤ m) → Q (.im (.int m))
    | _ => False
  | [x, y] => match x.D, y.D with
    | some (.int i), some (.int j) => Q (.im (.int (if j > i then j else i)))
    | _, _ => False
  | _ => False
def opMin : Cb := fun rs Q => match rs with
  | [x] => match x.D with
    | some (.list l) => ∃ ns : List Int, l = ns.map .int ∧ 0 < ns.length ∧ ∀ m, m ∈ ns → (∀ y ∈ ns, m ≤ y) → Q (.im (.int m))
    | _ => False
  | [x, y] => match x.D, y.D with
    | some (.int i), some (.int j) => Q (.im (.int (if j < i then j else i)))
    | _, _ => False
  | _ => False
theorem foldl_max (n : Int) : ∀ ns : List Int, ns.foldl max n ∈ n :: ns ∧ ∀ y ∈ n :: ns, y ≤ ns.foldl max n := fun ns => by
  induction ns generalizing n with
  | nil => exact ⟨List.mem_cons_self, fun y hy => by rw [List.mem_singleton.mp hy]; exact Int.le_refl _⟩
  | cons m ns ih =>
    rw [List.foldl_cons]
    obtain ⟨h1, h2⟩ := ih (max n m)
    refine ⟨?_, fun y hy => ?_⟩
    · rcases List.mem_cons.mp h1 with h | h
      · rw [h]
        rcases Int.le_total n m with z | z
        · rw [Int.max_eq_right z]; simp
        · rw [Int.max_eq_left z]; simp
      · exact List.mem_cons_of_mem _ (List.mem_cons_of_mem _ h)
    · have h3 := h2 (max n m) List.mem_cons_self
      rcases List.mem_cons.mp hy with rfl | hy
      · exact Int.le_trans (Int.le_max_left _ _) h3
      · rcases List.mem_cons.mp hy with rfl | hy
        · exact Int.le_trans (Int.le_max_right _ _) h3
        · exact h2 y (List.mem_cons_of_mem _ hy)
theorem alike_ints : ∀ ns : List Int, PySem.W.AlikeAll (ns.map PyData.int) := fun ns => by
  refine ⟨fun x hx y hy => ?_, fun x hx => ?_⟩
  · obtain ⟨i, _, rfl⟩ := List.mem_map.mp hx
    obtain ⟨j, _, rfl⟩ := List.mem_map.mp hy
    rfl
  · obtain ⟨i, _, rfl⟩ := List.mem_map.mp hx
    exact fun z => nomatch z
theorem cr_maxT (hc : X.calm = true) (hu : X.A.units + 65 < cLine) : CallR X (.builtin "max") (fun vs H Q => ∃ (a : Addr) (ns : List Int), vs = [V.ref a] ∧ SqT X.K H a (ns.map V.int) ∧ 0 < ns.length ∧ ∀ m, m ∈ ns → (∀ y ∈ ns, y ≤ m) → Q (.int m) H) := by
  intro pins s σ H vs us Q I r h
  obtain ⟨a, ns, rfl, hs, hne, q⟩ := h
  obtain ⟨u, rfl, r1⟩ := vals1 r
  cases (show u = Value.ref a from r1)
  obtain ⟨its, rv, ht, _⟩ := I.tuple hs
  cases ns with
  | nil => exact absurd hne (Nat.lt_irrefl 0)
  | cons n ns =>
    obtain ⟨as, ra⟩ := Dp.readsAll I ((n :: ns).map PyData.int) _ its (dpInts (K := X.K) (H := H) (n :: ns)) rv
    refine PySem.W.max_tuple_data (x := .int n) (xs := ns.map .int) (as := as) (I.ok.hd hc) ht ra (alike_ints (n :: ns)) ?_ fun i v h' tk bs hi rd hk => ?_
    · have := deepInts (n :: ns)
      show X.A.units + 1 + PyData.depthAll ((n :: ns).map PyData.int) < cLine
      rw [this]
      omega
    · rw [PySem.W.maxD_ints] at rd
      cases rd with
      | int i t =>
        obtain ⟨h1, h2⟩ := foldl_max n ns
        exact ⟨.int _, H, I.kept hk, ⟨_, rfl⟩, q _ h1 h2⟩
end
end Lf
namespace Lf
open PySem PySem.Spec PyProof.Rows L2
section
variable {Z : Zn} {X : Cx} {B0 : Addr → Prop} {H0 H H1 H2 : Hp} {ρ : List Sl} {s s1 s2 : Z.S} {σ : L2.St} {v u : V} {r x y : Rv} {e a b c : Expr} {es : List Expr} {de da db dc : DX Z} {das : DA Z} {pos p : Pos} {K : PySem.W.Frag} {B : Addr → Prop}
theorem de_max (hc : X.calm = true) (hu : X.A.units + 65 < cLine) (hg : Gl X "max") (hm : X.mg "max" = none) (ha : DAs Z X (e :: es) das) (he : starEach (e :: es) X.env = (false, eval e X.env) :: starEach es X.env := by rfl) (hpl : (backTo pos (starEach es X.env)).any (·.1) = false := by rfl) : DE Z X (.Call (.Name "max" p) (e :: es) [] pos) (dCB opMax das) := by
  refine PE.of (pe_callB ((CallR.or (cr_max hc) (cr_maxT hc hu)).or (call_max2 hc)) hg hm (by decide +kernel) ha (by decide) (by decide) he hpl) fun σ H Q h => lift_cb ?_ h
  intro Z B0 ρ s H0 σ Ha H vs xs Qd Q R rr q k
  unfold opMax at q
  split at q
  · obtain ⟨v, rfl, r1⟩ := rr.one
    split at q
    · rename_i l e1
      obtain ⟨ns, rfl, h0, q⟩ := q
      obtain ⟨a, ys, rfl, h1, h2⟩ := r1.lst e1
      rw [nums_of h2] at h1
      exact .inl (.inl ⟨a, ns, rfl, SqL.of h1, h0, fun m m1 m2 => k _ _ _ (q m m1 m2) (Same.refl H) (Im.int _)⟩)
    · rename_i l e1
      obtain ⟨ns, rfl, h0, q⟩ := q
      obtain ⟨a, ys, rfl, h1, h2⟩ := r1.tup (K := X.K) e1
      rw [nums_of h2] at h1
      exact .inl (.inr ⟨a, ns, rfl, h1, h0, fun m m1 m2 => k _ _ _ (q m m1 m2) (Same.refl H) (Im.int _)⟩)
    · exact q.elim
  · obtain ⟨v, u, rfl, r1, r2⟩ := rr.two
    split at q
    · rename_i i j e1 e2
      rw [r1.vI e1, r2.vI e2]
      exact .inr ⟨i, j, rfl, k _ _ _ q (Same.refl H) (Im.int _)⟩
    · exact q.elim
  · exact q.elim
theorem de_min (hc : X.calm = true) (hg : Gl X "min") (hm : X.mg "min" = none) (ha : DAs Z X (e :: es) das) (he : starEach (e :: es) X.env = (false, eval e X.env) :: starEach es X.env := by rfl) (hpl : (backTo pos (starEach es X.env)).any (·.1) = false := by rfl) : DE Z X (.Call (.Name "min" p) (e :: es) [] pos) (dCB opMin das) := by
  refine PE.of (pe_callB (CallR.or (cr_min hc) (call_min2 hc)) hg hm (by decide +kernel) ha (by decide) (by decide) he hpl) fun σ H Q h => lift_cb ?_ h
  intro Z B0 ρ s H0 σ Ha H vs xs Qd Q R rr q k
  unfold opMin at q
  split at q
  · obtain ⟨v, rfl, r1⟩ := rr.one
    split at q
    · rename_i l e1
      obtain ⟨ns, rfl, h0, q⟩ := q
      obtain ⟨a, ys, rfl, h1, h2⟩ := r1.lst e1
      rw [nums_of h2] at h1
      exact .inl ⟨a, ns, rfl, SqL.of h1, h0, fun m m1 m2 => k _ _ _ (q m m1 m2) (Same.refl H) (Im.int _)⟩
    · exact q.elim
  · obtain ⟨v, u, rfl, r1, r2⟩ := rr.two
    split at q
    · rename_i i j e1 e2
      rw [r1.vI e1, r2.vI e2]
      exact .inr ⟨i, j, rfl, k _ _ _ q (Same.refl H) (Im.int _)⟩
    · exact q.elim
  · exact q.elim
/-! ### sum -/
theorem cr_sumT (hc : X.calm = true) : CallR X (.builtin "sum") (fun vs H Q => ∃ (a : Addr) (ns : List Int), vs = [V.ref a] ∧ SqT X.K H a (ns.map V.int) ∧ Q (.int ns.sum) H) := by
  intro pins s σ H vs us Q I r h
  obtain ⟨a, ns, rfl, hs, q⟩ := h
  obtain ⟨u, rfl, r1⟩ := vals1 r
  cases (show u = Value.ref a from r1)
  obtain ⟨its, rv, ht, _⟩ := I.tuple hs
  have hi := rv.ints
  obtain ⟨xs, e⟩ := hi.allInts.items
  have hn : numsOf (intItems xs).toList = ns := by rw [← e]; exact hi.numsOf
  rw [nums_intItems] at hn
  rw [e] at ht
  refine PySem.W.ktm_sumG (I.ok.hd hc) ht fun h' tk t' hk => ?_
  rw [preSum_eq, List.take_of_length_le (by simp), hn]
  exact ⟨.int _, H, I.kept hk, ⟨_, rfl⟩, q⟩
def opSum : Cb := fun rs Q => match rs with
  | [x] => match x.D with
    | some (.list l) => ∃ ns : List Int, l = ns.map .int ∧ Q (.im (.int ns.sum))
    | some (.tuple l) => ∃ ns : List Int, l = ns.map .int ∧ Q (.im (.int ns.sum))
    | _ => False
  | _ => False
theorem de_sum (hc : X.calm = true) (hg : Gl X "sum") (hm : X.mg "sum" = none) (ha : DAs Z X (e :: es) das) (he : starEach (e :: es) X.env = (false, eval e X.env) :: starEach es X.env := by rfl) (hpl : (backTo pos (starEach es X.env)).any (·.1) = false := by rfl) : DE Z X (.Call (.Name "sum" p) (e :: es) [] pos) (dCB opSum das) := by
  refine PE.of (pe_callB (CallR.or (cr_sum hc) (cr_sumT hc)) hg hm (by decide +kernel) ha (by decide) (by decide) he hpl) fun σ H Q h => lift_cb ?_ h
  intro Z B0 ρ s H0 σ Ha H vs xs Qd Q R rr q k
  unfold opSum at q
  split at q
  · obtain ⟨v, rfl, r1⟩ := rr.one
    split at q
    · rename_i l e1
      obtain ⟨ns, rfl, q⟩ := q
      obtain ⟨a, ys, rfl, h1, h2⟩ := r1.lst e1
      rw [nums_of h2] at h1
      exact .inl ⟨a, ns, rfl, SqL.of h1, k _ _ _ q (Same.refl H) (Im.int _)⟩
    · rename_i l e1
      obtain ⟨ns, rfl, q⟩ := q
      obtain ⟨a, ys, rfl, h1, h2⟩ := r1.tup (K := X.K) e1
      rw [nums_of h2] at h1
      exact .inr ⟨a, ns, rfl, h1, k _ _ _ q (Same.refl H) (Im.int _)⟩
    · exact q.elim
  · exact q.elim
/-! ### list, tuple, sorted, int -/
def opList : Cb := fun rs Q => match rs with
  | [x] => match x.D with
    | some (.list l) => Q (.fr l)
    | some (.tuple l) => Q (.fr l)
    | _ => False
  | _ => False
theorem de_list (hg : Gl X "list") (hm : X.mg "list" = none) (ha : DAs Z X (e :: es) das) (he : starEach (e :: es) X.env = (false, eval e X.env) :: starEach es X.env := by rfl) (hpl : (backTo pos (starEach es X.env)).any (·.1) = false := by rfl) : DE Z X (.Call (.Name "list" p) (e :: es) [] pos) (dCB opList das) := by
  refine PE.of (pe_callTy call_list_of hg hm (by decide +kernel) ha (by decide) (by decide) he hpl) fun σ H Q h => lift_cb ?_ h
  intro Z B0 ρ s H0 σ Ha H vs xs Qd Q R rr q k
  unfold opList at q
  split at q
  · obtain ⟨v, rfl, r1⟩ := rr.one
    split at q
    · rename_i l e1
      obtain ⟨a, ys, rfl, h1, h2⟩ := r1.lst e1
      exact ⟨a, ys, rfl, .inl (SqL.of h1), fun p hp => k _ _ _ q (same_new hp) (R.newL hp h2)⟩
    · rename_i l e1
      obtain ⟨a, ys, rfl, h1, h2⟩ := r1.tup (K := X.K) e1
      exact ⟨a, ys, rfl, .inr h1, fun p hp => k _ _ _ q (same_new hp) (R.newL hp h2)⟩
    · exact q.elim
  · exact q.elim
def opTuple : Cb := fun rs Q => match rs with
  | [x] => match x.D with
    | some (.list l) => Q (.im (.tuple l))
    | some (.tuple l) => Q (.im (.tuple l))
    | _ => False
  | _ => False
theorem de_tuple (hg : Gl X "tuple") (hm : X.mg "tuple" = none) (ha : DAs Z X (e :: es) das) (he : starEach (e :: es) X.env = (false, eval e X.env) :: starEach es X.env := by rfl) (hpl : (backTo pos (starEach es X.env)).any (·.1) = false := by rfl) : DE Z X (.Call (.Name "tuple" p) (e :: es) [] pos) (dCB opTuple das) := by
  refine PE.of (pe_callTy call_tuple_of hg hm (by decide +kernel) ha (by decide) (by decide) he hpl) fun σ H Q h => lift_cb ?_ h
  intro Z B0 ρ s H0 σ Ha H vs xs Qd Q R rr q k
  unfold opTuple at q
  split at q
  · rename_i x
    obtain ⟨v, rfl, r1⟩ := rr.one
    split at q
    · rename_i l e1
      obtain ⟨a, ys, rfl, h1, h2⟩ := r1.lst e1
      exact ⟨a, ys, rfl, .inl ⟨SqL.of h1, fun p hp => k _ _ _ q (same_new hp) (newT hp h2)⟩⟩
    · rename_i l e1
      obtain ⟨a, ys, rfl, h1, h2⟩ := r1.tup (K := X.K) e1
      refine ⟨a, ys, rfl, .inr ⟨h1, k _ _ _ q (Same.refl H) ?_⟩⟩
      cases x with
      | im d => cases e1; exact r1
      | _ => cases e1
    · exact q.elim
  · exact q.elim
def opSorted : Cb := fun rs Q => match rs with
  | [x] => match x.D with
    | some (.list l) => ∃ ns : List Int, l = ns.map .int ∧ ∀ ns' : List Int, ns'.Perm ns → ns'.Pairwise (· ≤ ·) → Q (.fr (ns'.map .int))
    | some (.tuple l) => ∃ ns : List Int, l = ns.map .int ∧ ∀ ns' : List Int, ns'.Perm ns → ns'.Pairwise (· ≤ ·) → Q (.fr (ns'.map .int))
    | _ => False
  | _ => False
theorem de_sorted (hg : Gl X "sorted") (hm : X.mg "sorted" = none) (ha : DAs Z X (e :: es) das) (he : starEach (e :: es) X.env = (false, eval e X.env) :: starEach es X.env := by rfl) (hpl : (backTo pos (starEach es X.env)).any (·.1) = false := by rfl) : DE Z X (.Call (.Name "sorted" p) (e :: es) [] pos) (dCB opSorted das) := by
  refine PE.of (pe_callB (CallR.or cr_sortedI cr_sortedTI) hg hm (by decide +kernel) ha (by decide) (by decide) he hpl) fun σ H Q h => lift_cb ?_ h
  intro Z B0 ρ s H0 σ Ha H vs xs Qd Q R rr q k
  unfold opSorted at q
  split at q
  · obtain ⟨v, rfl, r1⟩ := rr.one
    split at q
    · rename_i l e1
      obtain ⟨ns, rfl, q⟩ := q
      obtain ⟨a, ys, rfl, h1, h2⟩ := r1.lst e1
      rw [nums_of h2] at h1
      exact .inl ⟨a, ns, rfl, SqL.of h1, fun ns' p h3 h4 hp => k _ _ _ (q ns' h3 h4) (same_new hp) (R.newL hp (im_nums ns'))⟩
    · rename_i l e1
      obtain ⟨ns, rfl, q⟩ := q
      obtain ⟨a, ys, rfl, h1, h2⟩ := r1.tup (K := X.K) e1
      rw [nums_of h2] at h1
      exact .inr ⟨a, ns, rfl, h1, fun ns' p h3 h4 hp => k _ _ _ (q ns' h3 h4) (same_new hp) (R.newL hp (im_nums ns'))⟩
    · exact q.elim
  · exact q.elim
def opInt : Cb := fun rs Q => match rs with
  | [x] => match x.D with
    | some (.int i) => Q (.im (.int i))
    | some (.bool k) => Q (.im (.int (if k then 1 else 0)))
    | _ => False
  | _ => False
theorem de_intC (hg : Gl X "int") (hm : X.mg "int" = none) (ha : DAs Z X (e :: es) das) (he : starEach (e :: es) X.env = (false, eval e X.env) :: starEach es X.env := by rfl) (hpl : (backTo pos (starEach es X.env)).any (·.1) = false := by rfl) : DE Z X (.Call (.Name "int" p) (e :: es) [] pos) (dCB opInt das) := by
  refine PE.of (pe_callTy call_int1 hg hm (by decide +kernel) ha (by decide) (by decide) he hpl) fun σ H Q h => lift_cb ?_ h
  intro Z B0 ρ s H0 σ Ha H vs xs Qd Q R rr q k
  unfold opInt at q
  split at q
  · obtain ⟨v, rfl, r1⟩ := rr.one
    split at q
    · rename_i i e1
      rw [r1.vI e1]
      exact .inl ⟨i, rfl, k _ _ _ q (Same.refl H) (Im.int _)⟩
    · rename_i i e1
      rw [r1.vB e1]
      exact .inr ⟨i, rfl, k _ _ _ q (Same.refl H) (Im.int _)⟩
    · exact q.elim
  · exact q.elim
/-! ### kinds -/
def isTy (n : String) (d : PyData) : Bool := match n, d with
  | "int", .int _ => true
  | "int", .bool _ => true
  | "bool", .bool _ => true
  | "str", .str _ => true
  | "tuple", .tuple _ => true
  | "list", .list _ => true
  | "dict", .dict _ => true
  | _, _ => false
theorem kOne (n : String) (hn : n = "int" ∨ n = "bool" ∨ n = "str" ∨ n = "tuple" ∨ n = "list" ∨ n = "dict") (d : PyData) : PySem.W.kitOne K (.type (tyD d)) (.type n) = some (isTy n d) := by
  rcases hn with rfl | rfl | rfl | rfl | rfl | rfl
  · exact (kInt d).trans (by cases d <;> rfl)
  · exact (kBool d).trans (by cases d <;> rfl)
  · cases d with
    | none => exact kit_ty (show kitB "NoneType" "str" = some false by decide +kernel)
    | bool _ => exact kit_ty (show kitB "bool" "str" = some false by decide +kernel)
    | int _ => exact kit_ty (show kitB "int" "str" = some false by decide +kernel)
    | str _ => exact kit_ty (show kitB "str" "str" = some true by decide +kernel)
    | list _ => exact kit_ty (show kitB "list" "str" = some false by decide +kernel)
    | tuple _ => exact kit_ty (show kitB "tuple" "str" = some false by decide +kernel)
    | dict _ => exact kit_ty (show kitB "dict" "str" = some false by decide +kernel)
  · exact (kTup d).trans (by cases d <;> rfl)
  · cases d with
    | none => exact kit_ty (show kitB "NoneType" "list" = some false by decide +kernel)
    | bool _ => exact kit_ty (show kitB "bool" "list" = some false by decide +kernel)
    | int _ => exact kit_ty (show kitB "int" "list" = some false by decide +kernel)
    | str _ => exact kit_ty (show kitB "str" "list" = some false by decide +kernel)
    | list _ => exact kit_ty (show kitB "list" "list" = some true by decide +kernel)
    | tuple _ => exact kit_ty (show kitB "tuple" "list" = some false by decide +kernel)
    | dict _ => exact kit_ty (show kitB "dict" "list" = some false by decide +kernel)
  · cases d with
    | none => exact kit_ty (show kitB "NoneType" "dict" = some false by decide +kernel)
    | bool _ => exact kit_ty (show kitB "bool" "dict" = some false by decide +kernel)
    | int _ => exact kit_ty (show kitB "int" "dict" = some false by decide +kernel)
    | str _ => exact kit_ty (show kitB "str" "dict" = some false by decide +kernel)
    | list _ => exact kit_ty (show kitB "list" "dict" = some false by decide +kernel)
    | tuple _ => exact kit_ty (show kitB "tuple" "dict" = some false by decide +kernel)
    | dict _ => exact kit_ty (show kitB "dict" "dict" = some true by decide +kernel)
def dRaw (v : V) : DX Z := fun s _ Q => Q (.rw v) s
theorem de_raw (h : PE X e (tC v)) : DE Z X e (dRaw v) := PE.of h fun σ H Q ⟨B0, H0, ρ, s, Qd, R, hd, hq⟩ => hq _ s v H hd R Gr.refl rfl
def opIsi : Cb := fun rs Q => match rs with
  | [x, .rw (.ty n)] => match x.D with
    | some d => (n = "int" ∨ n = "bool" ∨ n = "str" ∨ n = "tuple" ∨ n = "list" ∨ n = "dict") ∧ Q (.im (.bool (isTy n d)))
    | _ => False
  | _ => False
theorem de_isi (hg : Gl X "isinstance") (hm : X.mg "isinstance" = none) (ha : DAs Z X (e :: es) das) (he : starEach (e :: es) X.env = (false, eval e X.env) :: starEach es X.env := by rfl) (hpl : (backTo pos (starEach es X.env)).any (·.1) = false := by rfl) : DE Z X (.Call (.Name "isinstance" p) (e :: es) [] pos) (dCB opIsi das) := by
  refine PE.of (pe_callB call_isi hg hm (by decide +kernel) ha (by decide) (by decide) he hpl) fun σ H Q h => lift_cb ?_ h
  intro Z B0 ρ s H0 σ Ha H vs xs Qd Q R rr q k
  unfold opIsi at q
  split at q
  · rename_i x n
    obtain ⟨v, u, rfl, r1, r2⟩ := rr.two
    cases (show u = V.ty n from r2)
    split at q
    · rename_i d e1
      exact ⟨v, .ty n, _, .type n, _, rfl, .ty n, (r1.rd e1).rp.ty, kOne n q.1 d, k _ _ _ q.2 (Same.refl H) (Im.bl _)⟩
    · exact q.elim
  · exact q.elim
/-! ### -x, is None, slices -/
def dUn (f : Rv → (Rv → Prop) → Prop) (da : DX Z) : DX Z := fun s ρ Q => da s ρ fun x s1 => f x fun r => Q r s1
def opNeg : Rv → (Rv → Prop) → Prop := fun x Q => match x.D with
  | some (.int i) => Q (.im (.int (-i)))
  | _ => False
theorem de_neg (ha : DE Z X a da) : DE Z X (.UnaryOp .USub a pos) (dUn opNeg da) := by
  refine PE.of (pe_un un_neg ha) fun σ H Q ⟨B0, H0, ρ, s, Qd, R, hd, hq⟩ => ?_
  refine ⟨B0, H0, ρ, s, _, R, hd, fun x s1 v H1 qx R1 g1 r1 => ?_⟩
  unfold opNeg at qx
  split at qx
  · rename_i i e1
    rw [r1.vI e1]
    exact ⟨i, rfl, hq _ s1 _ H1 qx R1 g1 (Im.int _)⟩
  · exact qx.elim
def isN : PyData → Bool
  | .none => true
  | _ => false
theorem isN_of {B : Addr → Prop} {d : PyData} (h : Im B H v d) : decide (v = .non) = isN d := by
  cases h <;> first | rfl | (exact decide_eq_false (fun z => nomatch z))
def dIsN (neg : Bool) (da : DX Z) : DX Z := fun s ρ Q => da s ρ fun x s1 => match x.D with
  | some d => Q (.im (.bool (neg != isN d))) s1
  | _ => False
theorem de_isN {j pos'} (ha : DE Z X a da) : DE Z X (.Compare a [.Is] [.Constant .none j pos'] pos) (dIsN false da) := by
  refine PE.of (pe_cmp (pc_isN ha)) fun σ H Q ⟨B0, H0, ρ, s, Qd, R, hd, hq⟩ => ?_
  refine ⟨B0, H0, ρ, s, _, R, hd, fun x s1 v H1 qx R1 g1 r1 => ?_⟩
  split at qx
  · rename_i d e1
    refine hq _ s1 _ H1 qx R1 g1 ?_
    rw [isN_of (r1.rd e1), Bool.false_bne]
    exact Im.bl _
  · exact qx.elim
theorem de_notN {j pos'} (ha : DE Z X a da) : DE Z X (.Compare a [.IsNot] [.Constant .none j pos'] pos) (dIsN true da) := by
  refine PE.of (pe_cmp (pc_notN ha)) fun σ H Q ⟨B0, H0, ρ, s, Qd, R, hd, hq⟩ => ?_
  refine ⟨B0, H0, ρ, s, _, R, hd, fun x s1 v H1 qx R1 g1 r1 => ?_⟩
  split at qx
  · rename_i d e1
    refine hq _ s1 _ H1 qx R1 g1 ?_
    rw [isN_of (r1.rd e1), Bool.true_bne]
    exact Im.bl _
  · exact qx.elim
end
end Lf
namespace Lf
open PySem PySem.Spec PyProof.Rows L2
section
variable {Z : Zn} {X : Cx} {B0 : Addr → Prop} {H0 H H1 H2 : Hp} {ρ : List Sl} {s s1 s2 : Z.S} {σ : L2.St} {v u : V} {r x y : Rv} {e a b c : Expr} {es rest : List Expr} {de da db dc : DX Z} {dt du : DT Z} {das : DA Z} {pos p : Pos} {K : PySem.W.Frag} {B : Addr → Prop} {op op' : CmpOp}
/-! ### tests -/
def dTst (de : DX Z) : DT Z := fun s ρ Q => de s ρ fun r s1 => match r.D with
  | some (.bool b) => Q b s1
  | _ => False
theorem lift_tst {σ : L2.St} {H : Hp} {Q : Bool → Hp → Prop} (h : liftT Z (dTst de) σ H Q) : liftE Z de σ H fun x H' => ∃ k, x = .bl k ∧ Q k H' := by
  obtain ⟨B0, H0, ρ, s, Qd, R, hd, hq⟩ := h
  refine ⟨B0, H0, ρ, s, _, R, hd, fun r s1 v H1 qx R1 g1 r1 => ?_⟩
  split at qx
  · rename_i b e1
    exact ⟨b, r1.vB e1, hq b s1 H1 qx R1 g1⟩
  · exact qx.elim
theorem dt_val (h : DE Z X e de) (he : ∀ whole, isTrue e X.env whole = (do let v ← whole; standAt e.pos; holding [v] (truthy v)) := by intro _; rfl) : DTs Z X e (dTst de) := PT.of (pt_val h he) fun σ H Q h => lift_tst h
/-- a comparison as a test, by its rule -/
theorem dt_cmp {rr : R2} {opd : Op} (ho : OpR X (compareOp op) rr) (h2 : Op2 X.K rr opd) (ha : DE Z X a da) (hb : DE Z X b db) (hm : behindInMarks op b = false) : DTs Z X (.Compare a [op] [b] pos) (dTst (dBin opd da db)) := by
  refine PT.of (pt_cmpR ho ha hb hm) fun σ H Q h => ?_
  obtain ⟨B0, H0, ρ, s, Qd, R, hd, hq⟩ := lift_tst h
  exact lift_bin (K := X.K) h2 ⟨B0, H0, ρ, s, Qd, R, hd, hq⟩
/-- the rules of the comparisons -/
theorem o2_lt : Op2 K (rI0 fun i j => .bl (decide (i < j))) (cmpI fun i j => decide (i < j)) := op2_I0 fun _ _ _ _ => .bl _
theorem o2_le : Op2 K (rI0 fun i j => .bl (decide (i ≤ j))) (cmpI fun i j => decide (i ≤ j)) := op2_I0 fun _ _ _ _ => .bl _
theorem o2_gt : Op2 K (rI0 fun i j => .bl (decide (j < i))) (cmpI fun i j => decide (j < i)) := op2_I0 fun _ _ _ _ => .bl _
theorem o2_ge : Op2 K (rI0 fun i j => .bl (decide (j ≤ i))) (cmpI fun i j => decide (j ≤ i)) := op2_I0 fun _ _ _ _ => .bl _
theorem o2_eq : Op2 K (fun x y H Q => rEq x y H Q ∨ rEqD K x y H Q) opEq := by
  intro Z B0 ρ s H0 σ Ha Hb H v u x y Qd Q R rx ry q k
  unfold opEq at q
  split at q
  · rename_i i j e1 e2
    rw [rx.vI e1, ry.vI e2]
    exact .inl ⟨rfl, by rw [decI]; exact k _ _ _ q (Same.refl H) (Im.bl _)⟩
  · rename_i i j e1 e2
    rw [rx.vS e1, ry.vS e2]
    exact .inl ⟨rfl, by rw [decS]; exact k _ _ _ q (Same.refl H) (Im.bl _)⟩
  · rename_i d e _ _ e1 e2
    exact .inr ⟨d, e, dp_of (SeqAt.canLay_of_shaped q.1) (rx.rd e1), dp_of (SeqAt.canLay_of_shaped q.2.1) (ry.rd e2), q.1, q.2.1, k _ _ _ q.2.2 (Same.refl H) (Im.bl _)⟩
  · exact q.elim
theorem o2_ne : Op2 K (fun x y H Q => rNe x y H Q ∨ rNeD K x y H Q) opNe := by
  intro Z B0 ρ s H0 σ Ha Hb H v u x y Qd Q R rx ry q k
  unfold opNe at q
  split at q
  · rename_i i j e1 e2
    rw [rx.vI e1, ry.vI e2]
    exact .inl ⟨rfl, by rw [decI]; exact k _ _ _ q (Same.refl H) (Im.bl _)⟩
  · rename_i i j e1 e2
    rw [rx.vS e1, ry.vS e2]
    exact .inl ⟨rfl, by rw [decS]; exact k _ _ _ q (Same.refl H) (Im.bl _)⟩
  · rename_i d e _ _ e1 e2
    exact .inr ⟨d, e, dp_of (SeqAt.canLay_of_shaped q.1) (rx.rd e1), dp_of (SeqAt.canLay_of_shaped q.2.1) (ry.rd e2), q.1, q.2.1, k _ _ _ q.2.2 (Same.refl H) (Im.bl _)⟩
  · exact q.elim
theorem o2_in : Op2 K (fun x y H Q => rInD K x y H Q ∨ rInDT K x y H Q) (opIn false) := by
  intro Z B0 ρ s H0 σ Ha Hb H v u x y Qd Q R rx ry q k
  unfold opIn at q
  split at q
  · rename_i d l e1 e2
    refine .inl ⟨d, l, dp_of (SeqAt.canLay_of_shaped q.1) (rx.rd e1), dp_of (SeqAt.canLay_of_shaped q.2.1) (ry.rd e2), q.1, q.2.1, k _ _ _ q.2.2 (Same.refl H) ?_⟩
    rw [Bool.false_bne]
    exact Im.bl _
  · rename_i d l e1 e2
    refine .inr ⟨d, l, dp_of (SeqAt.canLay_of_shaped q.1) (rx.rd e1), dp_of (SeqAt.canLay_of_shaped q.2.1) (ry.rd e2), q.1, q.2.1, k _ _ _ q.2.2 (Same.refl H) ?_⟩
    rw [Bool.false_bne]
    exact Im.bl _
  · exact q.elim
theorem o2_notin : Op2 K (fun x y H Q => rNotInD K x y H Q ∨ ∃ d ds, Dp K H x d ∧ Dp K H y (.tuple ds) ∧ SeqAt.shaped d = true ∧ SeqAt.shaped (.tuple ds) = true ∧ Q (.bl (!ds.any fun z => PyData.eqv z d)) H) (opIn true) := by
  intro Z B0 ρ s H0 σ Ha Hb H v u x y Qd Q R rx ry q k
  unfold opIn at q
  split at q
  · rename_i d l e1 e2
    refine .inl ⟨d, l, dp_of (SeqAt.canLay_of_shaped q.1) (rx.rd e1), dp_of (SeqAt.canLay_of_shaped q.2.1) (ry.rd e2), q.1, q.2.1, k _ _ _ q.2.2 (Same.refl H) ?_⟩
    rw [Bool.true_bne]
    exact Im.bl _
  · rename_i d l e1 e2
    refine .inr ⟨d, l, dp_of (SeqAt.canLay_of_shaped q.1) (rx.rd e1), dp_of (SeqAt.canLay_of_shaped q.2.1) (ry.rd e2), q.1, q.2.1, k _ _ _ q.2.2 (Same.refl H) ?_⟩
    rw [Bool.true_bne]
    exact Im.bl _
  · exact q.elim
theorem dt_lt (ha : DE Z X a da) (hb : DE Z X b db) : DTs Z X (.Compare a [.Lt] [b] pos) (dTst (dBin (cmpI fun i j => decide (i < j)) da db)) := dt_cmp op_lt o2_lt ha hb (nomark _)
theorem dt_le (ha : DE Z X a da) (hb : DE Z X b db) : DTs Z X (.Compare a [.LtE] [b] pos) (dTst (dBin (cmpI fun i j => decide (i ≤ j)) da db)) := dt_cmp op_le o2_le ha hb (nomark _)
theorem dt_gt (ha : DE Z X a da) (hb : DE Z X b db) : DTs Z X (.Compare a [.Gt] [b] pos) (dTst (dBin (cmpI fun i j => decide (j < i)) da db)) := dt_cmp op_gt o2_gt ha hb (nomark _)
theorem dt_ge (ha : DE Z X a da) (hb : DE Z X b db) : DTs Z X (.Compare a [.GtE] [b] pos) (dTst (dBin (cmpI fun i j => decide (j ≤ i)) da db)) := dt_cmp op_ge o2_ge ha hb (nomark _)
theorem dt_eq (hu : X.A.units + 65 < cLine) (ha : DE Z X a da) (hb : DE Z X b db) : DTs Z X (.Compare a [.Eq] [b] pos) (dTst (dBin opEq da db)) := dt_cmp (op_eq.or (op_eqD (by omega))) o2_eq ha hb (nomark _)
theorem dt_ne (hu : X.A.units + 65 < cLine) (ha : DE Z X a da) (hb : DE Z X b db) : DTs Z X (.Compare a [.NotEq] [b] pos) (dTst (dBin opNe da db)) := dt_cmp (op_ne.or (op_neD (by omega))) o2_ne ha hb (nomark _)
theorem dt_in (hu : X.A.units + 65 < cLine) (ha : DE Z X a da) (hb : DE Z X b db) (hm : behindInMarks .In b = false := by rfl) : DTs Z X (.Compare a [.In] [b] pos) (dTst (dBin (opIn false) da db)) := dt_cmp ((op_inD hu).or (op_inDT hu)) o2_in ha hb hm
theorem dt_notin (hu : X.A.units + 65 < cLine) (ha : DE Z X a da) (hb : DE Z X b db) (hm : behindInMarks .NotIn b = false := by rfl) : DTs Z X (.Compare a [.NotIn] [b] pos) (dTst (dBin (opIn true) da db)) := dt_cmp ((op_notInD hu).or (op_notInDT hu)) o2_notin ha hb hm
theorem dt_isN {j pos'} (ha : DE Z X a da) : DTs Z X (.Compare a [.Is] [.Constant .none j pos'] pos) (dTst (dIsN false da)) := by
  refine PT.of (pt_cmp (pc_isN ha)) fun σ H Q h => ?_
  obtain ⟨B0, H0, ρ, s, Qd, R, hd, hq⟩ := lift_tst h
  refine ⟨B0, H0, ρ, s, _, R, hd, fun x s1 v H1 qx R1 g1 r1 => ?_⟩
  split at qx
  · rename_i d e1
    refine hq _ s1 _ H1 qx R1 g1 ?_
    rw [isN_of (r1.rd e1), Bool.false_bne]
    exact Im.bl _
  · exact qx.elim
theorem dt_notN {j pos'} (ha : DE Z X a da) : DTs Z X (.Compare a [.IsNot] [.Constant .none j pos'] pos) (dTst (dIsN true da)) := by
  refine PT.of (pt_cmp (pc_notN ha)) fun σ H Q h => ?_
  obtain ⟨B0, H0, ρ, s, Qd, R, hd, hq⟩ := lift_tst h
  refine ⟨B0, H0, ρ, s, _, R, hd, fun x s1 v H1 qx R1 g1 r1 => ?_⟩
  split at qx
  · rename_i d e1
    refine hq _ s1 _ H1 qx R1 g1 ?_
    rw [isN_of (r1.rd e1), Bool.true_bne]
    exact Im.bl _
  · exact qx.elim
/-- truth of data -/
def truD : PyData → Bool
  | .none => false
  | .bool b => b
  | .int i => i != 0
  | .str z => (z.length : Int) != 0
  | .list l => !l.isEmpty
  | .tuple l => !l.isEmpty
  | .dict l => !l.isEmpty
theorem all_empty {vs : List V} {ds : List PyData} (h : ImAll B H vs ds) : vs.isEmpty = ds.isEmpty := by cases h <;> rfl
theorem kv_empty {vs : List (Key × V)} {ds : List (PyData × PyData)} (h : ImKv B H vs ds) : vs.isEmpty = ds.isEmpty := by cases h <;> rfl
def shortS : PyData → Prop
  | .str z => z.length ≤ 1000000
  | _ => True
theorem tru_of {d : PyData} (h : Im B H v d) (hs : shortS d) : TruV K v H (truD d) := by
  cases h with
  | non => rfl
  | bl b => rfl
  | int i => rfl
  | str z => exact ⟨smB hs, rfl⟩
  | lst e _ q => exact .inl ⟨_, SqL.of e, by rw [all_empty q]; rfl⟩
  | tup e q => exact .inr (.inl ⟨_, SqT.of e, by rw [all_empty q]; rfl⟩)
  | ftp e q => exact .inr (.inl ⟨_, .inl (.inr ⟨_, e⟩), by rw [all_empty q]; rfl⟩)
  | dct e _ q => exact .inr (.inr ⟨_, e, by rw [kv_empty q]; rfl⟩)
def dTru (de : DX Z) : DT Z := fun s ρ Q => de s ρ fun r s1 => match r.D with
  | some d => shortS d ∧ Q (truD d) s1
  | _ => False
theorem dt_tru (h : DE Z X e de) (he : ∀ whole, isTrue e X.env whole = (do let v ← whole; standAt e.pos; holding [v] (truthy v)) := by intro _; rfl) : DTs Z X e (dTru de) := by
  refine PT.of (pt_truth h he) fun σ H Q ⟨B0, H0, ρ, s, Qd, R, hd, hq⟩ => ?_
  refine ⟨B0, H0, ρ, s, _, R, hd, fun r s1 v H1 qx R1 g1 r1 => ?_⟩
  split at qx
  · rename_i d e1
    exact ⟨_, tru_of (r1.rd e1) qx.1, hq _ s1 H1 qx.2 R1 g1⟩
  · exact qx.elim
def dAndT (t u : DT Z) : DT Z := fun s ρ Q => t s ρ fun b s1 => if b = true then u s1 ρ Q else Q false s1
def dOrT (t u : DT Z) : DT Z := fun s ρ Q => t s ρ fun b s1 => if b = true then Q true s1 else u s1 ρ Q
def dNotT (t : DT Z) : DT Z := fun s ρ Q => t s ρ fun b s1 => Q (!b) s1
abbrev DW (Z : Zn) (X : Cx) (e : Expr) (d : DT Z) : Prop := PW X e (liftT Z d)
theorem PW.of {t t' : TT} (h : PW X e t) (w : ∀ σ H Q, t' σ H Q → t σ H Q) : PW X e t' := ⟨fun wh pins s σ H Q I q => h.run wh pins s σ H Q I (w σ H Q q)⟩
theorem dw_and1 (ha : DTs Z X a dt) : DW Z X (.BoolOp .And [a] pos) dt := pw_and1 ha
theorem dw_or1 (ha : DTs Z X a dt) : DW Z X (.BoolOp .Or [a] pos) dt := pw_or1 ha
theorem dw_and (ha : DTs Z X a dt) (hb : DW Z X (.BoolOp .And (b :: rest) pos) du) : DW Z X (.BoolOp .And (a :: b :: rest) pos) (dAndT dt du) := by
  refine PW.of (pw_and ha hb) fun σ H Q ⟨B0, H0, ρ, s, Qd, R, hd, hq⟩ => ?_
  refine ⟨B0, H0, ρ, s, _, R, hd, fun c s1 H1 qx R1 g1 => ?_⟩
  cases c with
  | true => exact ⟨B0, H0, ρ, s1, Qd, R1, qx, fun c s2 H2 q R2 g2 => hq c s2 H2 q R2 (g1.trans g2)⟩
  | false => exact hq false s1 H1 qx R1 g1
theorem dw_or (ha : DTs Z X a dt) (hb : DW Z X (.BoolOp .Or (b :: rest) pos) du) : DW Z X (.BoolOp .Or (a :: b :: rest) pos) (dOrT dt du) := by
  refine PW.of (pw_or ha hb) fun σ H Q ⟨B0, H0, ρ, s, Qd, R, hd, hq⟩ => ?_
  refine ⟨B0, H0, ρ, s, _, R, hd, fun c s1 H1 qx R1 g1 => ?_⟩
  cases c with
  | false => exact ⟨B0, H0, ρ, s1, Qd, R1, qx, fun c s2 H2 q R2 g2 => hq c s2 H2 q R2 (g1.trans g2)⟩
  | true => exact hq true s1 H1 qx R1 g1
theorem dt_not (ha : DTs Z X a dt) : DTs Z X (.UnaryOp .Not a pos) (dNotT dt) := by
  refine PT.of (pt_not ha) fun σ H Q ⟨B0, H0, ρ, s, Qd, R, hd, hq⟩ => ?_
  exact ⟨B0, H0, ρ, s, _, R, hd, fun c s1 H1 qx R1 g1 => hq _ s1 H1 qx R1 g1⟩
/-! ### and, or, not as values -/
def dAndV (da db : DX Z) : DX Z := fun s ρ Q => da s ρ fun x s1 => match x.D with
  | some (.bool c) => if c = true then db s1 ρ Q else Q (.im (.bool false)) s1
  | _ => False
def dOrV (da db : DX Z) : DX Z := fun s ρ Q => da s ρ fun x s1 => match x.D with
  | some (.bool c) => if c = true then Q (.im (.bool true)) s1 else db s1 ρ Q
  | _ => False
def dNotV (da : DX Z) : DX Z := fun s ρ Q => da s ρ fun x s1 => match x.D with
  | some (.bool c) => Q (.im (.bool (!c))) s1
  | _ => False
theorem de_one {op} (h : DE Z X a da) : DE Z X (.BoolOp op [a] pos) da := pe_one h
theorem de_and (ha : DE Z X a da) (hb : DE Z X (.BoolOp .And (b :: rest) pos) db) : DE Z X (.BoolOp .And (a :: b :: rest) pos) (dAndV da db) := by
  refine PE.of (pe_and ha hb) fun σ H Q ⟨B0, H0, ρ, s, Qd, R, hd, hq⟩ => ?_
  refine ⟨B0, H0, ρ, s, _, R, hd, fun x s1 v H1 qx R1 g1 r1 => ?_⟩
  split at qx
  · rename_i c e1
    refine ⟨c, r1.vB e1, ?_⟩
    cases c with
    | true => exact ⟨B0, H0, ρ, s1, Qd, R1, qx, fun r s2 v H2 q R2 g2 r2 => hq r s2 v H2 q R2 (g1.trans g2) (r2.back R1.ok g1)⟩
    | false => exact hq _ s1 _ H1 qx R1 g1 (Im.bl _)
  · exact qx.elim
theorem de_or (ha : DE Z X a da) (hb : DE Z X (.BoolOp .Or (b :: rest) pos) db) : DE Z X (.BoolOp .Or (a :: b :: rest) pos) (dOrV da db) := by
  refine PE.of (pe_or ha hb) fun σ H Q ⟨B0, H0, ρ, s, Qd, R, hd, hq⟩ => ?_
  refine ⟨B0, H0, ρ, s, _, R, hd, fun x s1 v H1 qx R1 g1 r1 => ?_⟩
  split at qx
  · rename_i c e1
    refine ⟨c, r1.vB e1, ?_⟩
    cases c with
    | false => exact ⟨B0, H0, ρ, s1, Qd, R1, qx, fun r s2 v H2 q R2 g2 r2 => hq r s2 v H2 q R2 (g1.trans g2) (r2.back R1.ok g1)⟩
    | true => exact hq _ s1 _ H1 qx R1 g1 (Im.bl _)
  · exact qx.elim
theorem de_not (ha : DE Z X a da) : DE Z X (.UnaryOp .Not a pos) (dNotV da) := by
  refine PE.of (pe_not ha) fun σ H Q ⟨B0, H0, ρ, s, Qd, R, hd, hq⟩ => ?_
  refine ⟨B0, H0, ρ, s, _, R, hd, fun x s1 v H1 qx R1 g1 r1 => ?_⟩
  split at qx
  · rename_i c e1
    exact ⟨c, r1.vB e1, hq _ s1 _ H1 qx R1 g1 (Im.bl _)⟩
  · exact qx.elim
def dIf (t : DT Z) (da db : DX Z) : DX Z := fun s ρ Q => t s ρ fun c s1 => if c = true then da s1 ρ Q else db s1 ρ Q
theorem de_if (hc : DTs Z X c dt) (ha : DE Z X a da) (hb : DE Z X b db) : DE Z X (.IfExp c a b pos) (dIf dt da db) := by
  refine PE.of (pe_ifExp hc ha hb) fun σ H Q ⟨B0, H0, ρ, s, Qd, R, hd, hq⟩ => ?_
  refine ⟨B0, H0, ρ, s, _, R, hd, fun c s1 H1 qx R1 g1 => ?_⟩
  cases c with
  | true => exact ⟨B0, H0, ρ, s1, Qd, R1, qx, fun r s2 v H2 q R2 g2 r2 => hq r s2 v H2 q R2 (g1.trans g2) (r2.back R1.ok g1)⟩
  | false => exact ⟨B0, H0, ρ, s1, Qd, R1, qx, fun r s2 v H2 q R2 g2 r2 => hq r s2 v H2 q R2 (g1.trans g2) (r2.back R1.ok g1)⟩
/-! ### a < b < c of ints -/
def dChain (f g : Int → Int → Bool) (da db dc : DX Z) : DX Z := fun s ρ Q => da s ρ fun x s1 => db s1 ρ fun y s2 => match x.D, y.D with
  | some (.int i), some (.int j) => if f i j = true then dc s2 ρ fun z s3 => match z.D with
      | some (.int k) => Q (.im (.bool (g j k))) s3
      | _ => False
    else Q (.im (.bool false)) s2
  | _, _ => False
theorem lift_chain {f g : Int → Int → Bool} {σ : L2.St} {H : Hp} {Q : VK} (h : liftE Z (dChain f g da db dc) σ H Q) : tChain (rI0 fun i j => .bl (f i j)) (rI0 fun i j => .bl (g i j)) (liftE Z da) (liftE Z db) (liftE Z dc) σ H Q := by
  obtain ⟨B0, H0, ρ, s, Qd, R, hd, hq⟩ := h
  refine ⟨B0, H0, ρ, s, _, R, hd, fun x s1 v H1 qx R1 g1 r1 => ?_⟩
  refine ⟨B0, H0, ρ, s1, _, R1, qx, fun y s2 u H2 qy R2 g2 r2 => ?_⟩
  have r1 := r1.grow R1 g2
  split at qy
  · rename_i i j e1 e2
    refine ⟨i, j, r1.vI e1, r2.vI e2, _, rfl, ?_⟩
    by_cases hf : f i j = true
    · rw [if_pos hf] at qy ⊢
      refine ⟨B0, H0, ρ, s2, _, R2, qy, fun z s3 w H3 qz R3 g3 r3 => ?_⟩
      split at qz
      · rename_i k e3
        exact ⟨j, k, r2.vI e2, r3.vI e3, hq _ s3 _ H3 qz R3 (g1.trans (g2.trans g3)) (Im.bl _)⟩
      · exact qz.elim
    · rw [if_neg hf] at qy ⊢
      exact hq _ s2 _ H2 qy R2 (g1.trans g2) (Im.bl _)
  · exact qy.elim
theorem de_chain {f g : Int → Int → Bool} (ho : OpR X (compareOp op) (rI0 fun i j => .bl (f i j))) (ho' : OpR X (compareOp op') (rI0 fun i j => .bl (g i j))) (ha : DE Z X a da) (hb : DE Z X b db) (hc : DE Z X c dc) (hm : lastMarks [op, op'] [b, c] = false := by with_unfolding_all rfl) :
    DE Z X (.Compare a [op, op'] [b, c] pos) (dChain f g da db dc) := PE.of (pe_chain ho ho' ha hb hc hm) fun σ H Q h => lift_chain h
theorem dt_chain {f g : Int → Int → Bool} (ho : OpR X (compareOp op) (rI0 fun i j => .bl (f i j))) (ho' : OpR X (compareOp op') (rI0 fun i j => .bl (g i j))) (ha : DE Z X a da) (hb : DE Z X b db) (hc : DE Z X c dc) (hm : lastMarks [op, op'] [b, c] = false := by with_unfolding_all rfl) :
    DTs Z X (.Compare a [op, op'] [b, c] pos) (dTst (dChain f g da db dc)) := by
  refine PT.of (pt_chain ho ho' ha hb hc hm) fun σ H Q h => ?_
  obtain ⟨B0, H0, ρ, s, Qd, R, hd, hq⟩ := lift_tst h
  exact lift_chain ⟨B0, H0, ρ, s, Qd, R, hd, hq⟩
/-! ### slices -/
abbrev DO (Z : Zn) := Z.S → List Sl → (Option Int → Z.S → Prop) → Prop
def liftO (Z : Zn) (d : DO Z) : TO := fun σ H Q => ∃ (B0 : Addr → Prop) (H0 : Hp) (ρ : List Sl) (s : Z.S) (Qd : Option Int → Z.S → Prop), Rel Z B0 H0 ρ s σ H ∧ d s ρ Qd ∧
  ∀ b s' H', Qd b s' → Rel Z B0 H0 ρ s' σ H' → Gr Z H H' → Q b H'
abbrev DOs (Z : Zn) (X : Cx) (e : Option Expr) (d : DO Z) : Prop := PO X e (liftO Z d)
def dNoP : DO Z := fun s _ Q => Q none s
def dP (da : DX Z) : DO Z := fun s ρ Q => da s ρ fun x s1 => match x.D with
  | some (.int i) => Q (some i) s1
  | _ => False
theorem do_none : DOs Z X none dNoP := ⟨fun pins s σ H Q I ⟨B0, H0, ρ, s1, Qd, R, hd, hq⟩ => po_none.run pins s σ H Q I (hq none s1 H hd R Gr.refl)⟩
theorem do_some (h : DE Z X e de) : DOs Z X (some e) (dP de) := ⟨fun pins s σ H Q I ⟨B0, H0, ρ, s1, Qd, R, hd, hq⟩ => (po_some h).run pins s σ H Q I (by
  refine ⟨B0, H0, ρ, s1, _, R, hd, fun x s2 v H1 qx R1 g1 r1 => ?_⟩
  split at qx
  · rename_i i e1
    exact ⟨i, r1.vI e1, hq _ s2 H1 qx R1 g1⟩
  · exact qx.elim)⟩
def cutD (xs : List PyData) (lo hi : Option Int) : List PyData := (xs.drop (HT.sIx xs.length 0 lo)).take (HT.sIx xs.length xs.length hi - HT.sIx xs.length 0 lo)
theorem ImAll.cut {vs : List V} {ds : List PyData} (h : ImAll B H vs ds) (lo hi : Option Int) : ImAll B H (cutV vs lo hi) (cutD ds lo hi) := by
  unfold cutV cutD
  rw [h.length]
  exact (h.drop _).take _
def dSl (da : DX Z) (dl dh : DO Z) : DX Z := fun s ρ Q => da s ρ fun x s1 => dl s1 ρ fun lo s2 => dh s2 ρ fun hi s3 => match x.D with
  | some (.list l) => Q (.fr (cutD l lo hi)) s3
  | some (.tuple l) => Q (.im (.tuple (cutD l lo hi))) s3
  | _ => False
theorem de_sl {lo hi : Option Expr} {dl dh : DO Z} {p2 : Pos} (ha : DE Z X a da) (hl : DOs Z X lo dl) (hh : DOs Z X hi dh) : DE Z X (.Subscript a (.Slice lo hi none p2) pos) (dSl da dl dh) := by
  refine PE.of (pe_slice (sl_list.or sl_tupA) ha hl hh) fun σ H Q ⟨B0, H0, ρ, s, Qd, R, hd, hq⟩ => ?_
  refine ⟨B0, H0, ρ, s, _, R, hd, fun x s1 v H1 qx R1 g1 r1 => ?_⟩
  refine ⟨B0, H0, ρ, s1, _, R1, qx, fun lo s2 H2 ql R2 g2 => ?_⟩
  refine ⟨B0, H0, ρ, s2, _, R2, ql, fun hi s3 H3 qh R3 g3 => ?_⟩
  have r3 := (r1.grow R1 g2).grow R2 g3
  have g := g1.trans (g2.trans g3)
  split at qh
  · rename_i l e1
    obtain ⟨a, ys, rfl, h1, h2⟩ := r3.lst e1
    exact .inl ⟨a, ys, rfl, SqL.of h1, fun p hp => hq _ s3 _ _ qh (R3.same (same_new hp)) (g.trans (Gr.of (same_new hp))) ((R3.newL hp (h2.cut lo hi)).back R3.ok g)⟩
  · rename_i l e1
    obtain ⟨a, ys, rfl, h1, h2⟩ := r3.tup (K := X.K) e1
    refine .inr ⟨a, ys, rfl, h1, fun hw => ?_, fun _ p hp => hq _ s3 _ _ qh (R3.same (same_new hp)) (g.trans (Gr.of (same_new hp))) (newT hp (h2.cut lo hi))⟩
    refine hq _ s3 _ _ qh R3 g ?_
    have e : cutD l lo hi = l := by
      unfold cutD
      rw [h2.length] at hw
      rw [hw.1, hw.2, List.drop_zero, Nat.sub_zero, List.take_length]
    rw [e]
    cases x with
    | im d => cases e1; exact r3
    | _ => cases e1
  · exact qh.elim
end
end Lf
namespace Lf
open PySem PySem.Spec PyProof.Rows L2
structure DEnds (Z : Zn) where
  nx : Z.S → List Sl → Prop
  rt : Rv → Z.S → Prop
  bk : Z.S → List Sl → Prop := fun _ _ => False
  ct : Z.S → List Sl → Prop := fun _ _ => False
abbrev DSt (Z : Zn) := DEnds Z → Z.S → List Sl → Prop
structure Stp (Z : Zn) (B0 : Addr → Prop) (ρ : List Sl) (H : Hp) (ρ' : List Sl) (H' : Hp) : Prop where
  keep : ∀ b o, H b = some o → ¬ Bad Z B0 ρ b → H' b = some o
  tups : ∀ b xs, H b = some (.tup xs) → H' b = some (.tup xs)
  frzs : ∀ b o u, H b = some (.frz o u) → H' b = some (.frz o u)
  owns : ∀ a ∈ own ρ', a ∈ own ρ ∨ H a = none
def liftS (Z : Zn) (d : DSt Z) : TS := fun D σ H => ∃ (B0 : Addr → Prop) (H0 : Hp) (ρ : List Sl) (s : Z.S) (De : DEnds Z), Rel Z B0 H0 ρ s σ H ∧ d De s ρ ∧
  (∀ s' ρ' σ' H', De.nx s' ρ' → Rel Z B0 H0 ρ' s' σ' H' → Stp Z B0 ρ H ρ' H' → D.nx σ' H') ∧
  (∀ s' ρ' σ' H', De.bk s' ρ' → Rel Z B0 H0 ρ' s' σ' H' → Stp Z B0 ρ H ρ' H' → D.bk σ' H') ∧
  (∀ s' ρ' σ' H', De.ct s' ρ' → Rel Z B0 H0 ρ' s' σ' H' → Stp Z B0 ρ H ρ' H' → D.ct σ' H') ∧
  (∀ r s' v H', De.rt r s' → Z.ok s' H' → Gr Z H0 H' → RvR Z B0 [] H0 H' v r → D.rt v H')
abbrev DS (Z : Zn) (X : Cx) (st : Stmt) (d : DSt Z) : Prop := PS X st (liftS Z d)
abbrev DSs (Z : Zn) (X : Cx) (st : List Stmt) (d : DSt Z) : Prop := PSs X st (liftS Z d)
section
variable {Z : Zn} {X : Cx} {B0 : Addr → Prop} {H0 H H1 H2 : Hp} {ρ ρ1 ρ2 : List Sl} {s s1 s2 : Z.S} {σ : L2.St} {v u : V} {r x y : Rv} {e a b c : Expr} {es rest : List Expr} {de da db dc : DX Z} {dt du : DT Z} {das : DA Z} {pos p : Pos} {K : PySem.W.Frag} {B : Addr → Prop} {st : Stmt} {sts : List Stmt} {t t' : DSt Z}
theorem PS.of {t t' : TS} (h : PS X st t) (w : ∀ D σ H, t' D σ H → t D σ H) : PS X st t' := ⟨fun pins s σ H D I q => h.run pins s σ H D I (w D σ H q)⟩
theorem PSs.of {t t' : TS} (h : PSs X sts t) (w : ∀ D σ H, t' D σ H → t D σ H) : PSs X sts t' := ⟨fun pins s σ H D I q => h.run pins s σ H D I (w D σ H q)⟩
theorem Stp.refl : Stp Z B0 ρ H ρ H := ⟨fun _ _ h _ => h, fun _ _ h => h, fun _ _ _ h => h, fun _ h => .inl h⟩
theorem Stp.trans (R : Rel Z B0 H0 ρ1 s1 σ H1) (a : Stp Z B0 ρ H ρ1 H1) (b : Stp Z B0 ρ1 H1 ρ2 H2) : Stp Z B0 ρ H ρ2 H2 := by
  refine ⟨fun c o h n => b.keep c o (a.keep c o h n) fun z => ?_, fun c xs h => b.tups c xs (a.tups c xs h), fun c o u h => b.frzs c o u (a.frzs c o u h), fun c hc => ?_⟩
  · rcases z with z | z | z
    · exact n (.inl z)
    · exact n (.inr (.inl z))
    · rcases a.owns c z with z | z
      · exact n (.inr (.inr z))
      · rw [z] at h; cases h
  · rcases b.owns c hc with z | z
    · exact a.owns c z
    · by_cases hb : Bad Z B0 ρ c
      · rcases hb with hb | hb | hb
        · exact absurd z (Z.trk R.ok hb)
        · exact absurd z (R.btr c hb)
        · exact .inl hb
      · cases e : H c with
        | none => exact .inr rfl
        | some o =>
          rw [a.keep c o e hb] at z
          cases z
theorem Gr.stp (R : Rel Z B0 H0 ρ s σ H) (g : Gr Z H H1) : Stp Z B0 ρ H ρ H1 := ⟨fun b o h n => g b o h fun z => n (.inl z), fun b xs h => g b _ h (Zn.ntup R.ok h), fun b o u h => g b _ h (Zn.nfrz R.ok h), fun _ h => .inl h⟩
/-! ### the list of owned addresses -/
theorem own_cons (x : Sl) (ρ : List Sl) : own (x :: ρ) = (ownOf x).toList ++ own ρ := by
  unfold own
  rw [List.filterMap_cons]
  cases ownOf x <;> rfl
theorem mem_own_set {i : Nat} {x : Sl} {a : Addr} (h : a ∈ own (ρ.set i x)) : a ∈ own ρ ∨ ownOf x = some a := by
  obtain ⟨y, hy, e⟩ := List.mem_filterMap.mp h
  rcases List.mem_or_eq_of_mem_set hy with z | z
  · exact .inl (List.mem_filterMap.mpr ⟨y, z, e⟩)
  · subst z
    exact .inr e
theorem nodup_own_set : ∀ {ρ : List Sl} {i : Nat} {x : Sl}, (own ρ).Nodup → (∀ a, ownOf x = some a → a ∉ own ρ) → (own (ρ.set i x)).Nodup
  | [], _, _, h, _ => h
  | y :: ρ, 0, x, h, hx => by
    rw [List.set_cons_zero, own_cons]
    rw [own_cons] at h
    have h2 : (own ρ).Nodup := (List.nodup_append.mp h).2.1
    cases e : ownOf x with
    | none => exact h2
    | some a =>
      refine List.nodup_cons.mpr ⟨fun z => hx a e ?_, h2⟩
      rw [own_cons]
      exact List.mem_append_right _ z
  | y :: ρ, i + 1, x, h, hx => by
    rw [List.set_cons_succ, own_cons]
    rw [own_cons] at h
    obtain ⟨h1, h2, h3⟩ := List.nodup_append.mp h
    refine List.nodup_append.mpr ⟨h1, nodup_own_set h2 fun a e z => hx a e ?_, fun a ha b hb => ?_⟩
    · rw [own_cons]
      exact List.mem_append_right _ z
    · rcases mem_own_set hb with z | z
      · exact h3 a ha b z
      · intro e
        subst e
        refine hx a z ?_
        rw [own_cons]
        exact List.mem_append_left _ ha
theorem own_set_same : ∀ {ρ : List Sl} {i : Nat} {a : Addr} {l l' : List PyData}, ρ[i]? = some (Sl.ow a l) → own (ρ.set i (Sl.ow a l')) = own ρ
  | [], _, _, _, _, h => by cases h
  | y :: ρ, 0, a, l, l', h => by
    cases h
    rfl
  | y :: ρ, i + 1, a, l, l', h => by
    rw [List.set_cons_succ, own_cons, own_cons, own_set_same (i := i) h]
theorem bad_set {i : Nat} {x : Sl} {a : Addr} (hx : ownOf x = none) (h : Bad Z B0 (ρ.set i x) a) : Bad Z B0 ρ a := by
  rcases h with h | h | h
  · exact .inl h
  · exact .inr (.inl h)
  · rcases mem_own_set h with z | z
    · exact .inr (.inr z)
    · rw [hx] at z; cases z
/-! ### stores -/
theorem ImAll.bad {B' : Addr → Prop} {vs : List V} {ds : List PyData} (hB : ∀ a, B' a → B a) (h : ImAll B H vs ds) : ImAll B' H vs ds := h.mono (fun b o e n => ⟨e, fun z => n (hB b z)⟩) (fun _ _ e => e) (fun _ _ _ e => e)
theorem Im.bad {B' : Addr → Prop} {d : PyData} (hB : ∀ a, B' a → B a) (h : Im B H v d) : Im B' H v d := h.mono (fun b o e n => ⟨e, fun z => n (hB b z)⟩) (fun _ _ e => e) (fun _ _ _ e => e)
theorem ImPs.bad {κ : Type} {B' : Addr → Prop} {vs : List (κ × V)} {ds : List (κ × PyData)} (hB : ∀ a, B' a → B a) (h : ImPs B H vs ds) : ImPs B' H vs ds := h.mono (fun b o e n => ⟨e, fun z => n (hB b z)⟩) (fun _ _ e => e) (fun _ _ _ e => e)
theorem SlR.bad {B' : Addr → Prop} {x : Sl} {o : Option V} (hB : ∀ a, B' a → B a) (h : SlR B H x o) : SlR B' H x o := by
  cases x with
  | no => trivial
  | im d =>
    obtain ⟨v, h1, h2⟩ := h
    exact ⟨v, h1, h2.bad hB⟩
  | ow a l =>
    obtain ⟨h1, xs, h2, h3⟩ := h
    exact ⟨h1, xs, h2, h3.bad hB⟩
  | od a l =>
    obtain ⟨h1, xs, h2, h3⟩ := h
    exact ⟨h1, xs, h2, h3.bad hB⟩
  | ot a l =>
    obtain ⟨h1, xs, h2, h3⟩ := h
    exact ⟨h1, xs, h2, h3.bad hB⟩
  | raw v => exact h
theorem set_get {α : Type} {l : List α} {i j : Nat} {x y : α} (h : (l.set i x)[j]? = some y) : (i = j ∧ y = x) ∨ (i ≠ j ∧ l[j]? = some y) := by
  by_cases z : i = j
  · subst z
    rw [List.getElem?_set_self'] at h
    cases e : l[i]? with
    | none => rw [e] at h; cases h
    | some w => rw [e] at h; cases h; exact .inl ⟨rfl, rfl⟩
  · rw [List.getElem?_set_ne z] at h
    exact .inr ⟨z, h⟩
/-- a slot gets what is no owned list -/
theorem Rel.put (R : Rel Z B0 H0 ρ s σ H) {i : Nat} {x : Sl} {o : Option V} (hx : ownOf x = none) (h : SlR (Bad Z B0 ρ) H x o) : Rel Z B0 H0 (ρ.set i x) s (σ.set i o) H := by
  refine ⟨R.ok, by rw [List.length_set, List.length_set]; exact R.len, fun j y e => ?_, nodup_own_set R.nd (fun a z => by rw [hx] at z; cases z), fun a ha => ?_, R.btr, R.frm⟩
  · rcases set_get e with ⟨rfl, rfl⟩ | ⟨ne, e⟩
    · refine ⟨o, ?_, h.bad fun a z => bad_set hx z⟩
      have : i < σ.length := by
        rw [R.len]
        rcases Nat.lt_or_ge i ρ.length with z | z
        · exact z
        · rw [List.getElem?_eq_none (by rw [List.length_set]; exact z)] at e; cases e
      rw [List.getElem?_set_self this]
    · obtain ⟨o', h1, h2⟩ := R.sl j y e
      exact ⟨o', by rw [List.getElem?_set_ne ne]; exact h1, h2.bad fun a z => bad_set hx z⟩
  · rcases mem_own_set ha with z | z
    · exact R.fr a z
    · rw [hx] at z; cases z
theorem Rel.putO (R : Rel Z B0 H0 ρ s σ H) (ok : Z.ok s1 H1) (g : Gr Z H H1) {i : Nat} {q : Addr} {xs : List V} {l : List PyData} (hq : H q = none) (hl : H1 q = some (.lst xs)) (h : ImAll (fun a => Bad Z B0 ρ a ∨ a = q) H1 xs l) : Rel Z B0 H0 (ρ.set i (.ow q l)) s1 (σ.set i (some (.ref q))) H1 := by
  have nz : ¬ Z.at_ q := fun z => Z.trk R.ok z hq
  have nb : ¬ B0 q := fun z => R.btr q z hq
  have no : q ∉ own ρ := fun z => R.otr z hq
  have R1 := R.grow ok g
  have hB : ∀ a, Bad Z B0 (ρ.set i (.ow q l)) a → Bad Z B0 ρ a ∨ a = q := fun a z => by
    rcases z with z | z | z
    · exact .inl (.inl z)
    · exact .inl (.inr (.inl z))
    · rcases mem_own_set z with z | z
      · exact .inl (.inr (.inr z))
      · cases z; exact .inr rfl
  have kl : ∀ b o, H b = some o → ¬ Bad Z B0 ρ b → H1 b = some o ∧ ¬ Bad Z B0 (ρ.set i (.ow q l)) b := fun b o e n => ⟨g b o e fun z => n (.inl z), fun z => (hB b z).elim n fun z => by subst z; rw [hq] at e; cases e⟩
  have kt : ∀ b ys, H b = some (.tup ys) → H1 b = some (.tup ys) := fun b ys e => g b _ e (Zn.ntup R.ok e)
  have kf : ∀ b o u, H b = some (.frz o u) → H1 b = some (.frz o u) := fun b o u e => g b _ e (Zn.nfrz R.ok e)
  refine ⟨ok, by rw [List.length_set, List.length_set]; exact R.len, fun j y e => ?_, nodup_own_set R.nd (fun a z => by cases z; exact no), fun a ha => ?_, R1.btr, R1.frm⟩
  · rcases set_get e with ⟨rfl, rfl⟩ | ⟨ne, e⟩
    · have hi : i < σ.length := by
        rw [R.len]
        rcases Nat.lt_or_ge i ρ.length with z | z
        · exact z
        · rw [List.getElem?_eq_none (by rw [List.length_set]; exact z)] at e; cases e
      exact ⟨_, by rw [List.getElem?_set_self hi], rfl, xs, hl, h.bad hB⟩
    · obtain ⟨o', h1, h2⟩ := R.sl j y e
      refine ⟨o', by rw [List.getElem?_set_ne ne]; exact h1, ?_⟩
      cases y with
      | no => trivial
      | im d =>
        obtain ⟨w, h3, h4⟩ := h2
        exact ⟨w, h3, h4.mono kl kt kf⟩
      | ow a m =>
        obtain ⟨h3, ys, h4, h5⟩ := h2
        exact ⟨h3, ys, g a _ h4 (R.fr a (own_mem e)).2.1, h5.mono kl kt kf⟩
      | od a m =>
        obtain ⟨h3, ys, h4, h5⟩ := h2
        exact ⟨h3, ys, g a _ h4 (R.fr a (own_memG e rfl)).2.1, h5.mono kl kt kf⟩
      | ot a m =>
        obtain ⟨h3, ys, h4, h5⟩ := h2
        exact ⟨h3, ys, g a _ h4 (R.fr a (own_memG e rfl)).2.1, h5.mono kl kt kf⟩
      | raw w => exact h2
  · rcases mem_own_set ha with z | z
    · exact R.fr a z
    · cases z
      exact ⟨R.h0 hq, nz, nb⟩
/-- an owned list is changed -/
theorem Rel.mutL (R : Rel Z B0 H0 ρ s σ H) {i : Nat} {q : Addr} {xs : List V} {l l' : List PyData} (hi : ρ[i]? = some (.ow q l)) (h : ImAll (Bad Z B0 ρ) H xs l') : Rel Z B0 H0 (ρ.set i (.ow q l')) s σ (upd H q (.lst xs)) := by
  have mq := own_mem hi
  obtain ⟨f1, f2, f3⟩ := R.fr q mq
  obtain ⟨o0, s0, e0, xs0, hq0, _⟩ := R.sl i _ hi
  have eo : own (ρ.set i (.ow q l')) = own ρ := own_set_same hi
  have eB : ∀ a, Bad Z B0 (ρ.set i (.ow q l')) a ↔ Bad Z B0 ρ a := fun a => by unfold Bad; rw [eo]
  have kl : ∀ b o, H b = some o → ¬ Bad Z B0 ρ b → upd H q (.lst xs) b = some o ∧ ¬ Bad Z B0 (ρ.set i (.ow q l')) b := fun b o e n => ⟨by rw [upd_ne (fun z => n (by rw [z]; exact .inr (.inr mq)))]; exact e, fun z => n ((eB b).mp z)⟩
  have kt : ∀ b ys, H b = some (.tup ys) → upd H q (.lst xs) b = some (.tup ys) := fun b ys e => by rw [upd_ne (fun z => by rw [z, hq0] at e; cases e)]; exact e
  have kf : ∀ b o u, H b = some (.frz o u) → upd H q (.lst xs) b = some (.frz o u) := fun b o u e => by rw [upd_ne (fun z => by rw [z, hq0] at e; cases e)]; exact e
  refine ⟨Z.st R.ok (fun b o z e => by rw [upd_ne (fun y => f2 (by rw [← y]; exact z))]; exact e) kt kf, by rw [List.length_set]; exact R.len, fun j y e => ?_, by rw [eo]; exact R.nd, fun a ha => by rw [eo] at ha; exact R.fr a ha, fun a ha z => ?_, fun b o e n => ?_⟩
  · rcases set_get e with ⟨rfl, rfl⟩ | ⟨ne, e9⟩
    · exact ⟨o0, s0, e0, xs, upd_same, h.mono kl kt kf⟩
    · obtain ⟨o', h1, h2⟩ := R.sl j y e9
      refine ⟨o', h1, ?_⟩
      cases y with
      | no => trivial
      | im d =>
        obtain ⟨w, h3, h4⟩ := h2
        exact ⟨w, h3, h4.mono kl kt kf⟩
      | ow a m =>
        obtain ⟨h3, ys, h4, h5⟩ := h2
        have : a ≠ q := fun z => by
          subst z
          exact ne (own_inj R.nd hi e9)
        exact ⟨h3, ys, by rw [upd_ne this]; exact h4, h5.mono kl kt kf⟩
      | od a m =>
        obtain ⟨h3, ys, h4, h5⟩ := h2
        have : a ≠ q := fun z => by
          subst z
          rw [hq0] at h4
          cases h4
        exact ⟨h3, ys, by rw [upd_ne this]; exact h4, h5.mono kl kt kf⟩
      | ot a m =>
        obtain ⟨h3, ys, h4, h5⟩ := h2
        have : a ≠ q := fun z => by
          subst z
          rw [hq0] at h4
          cases h4
        exact ⟨h3, ys, by rw [upd_ne this]; exact h4, h5.mono kl kt kf⟩
      | raw w => exact h2
  · by_cases y : a = q
    · exact f3 (by rw [← y]; exact ha)
    · rw [upd_ne y] at z
      exact R.btr a ha z
  · rw [upd_ne (fun z => by rw [z, f1] at e; cases e)]
    exact R.frm b o e n
where
  own_inj {ρ : List Sl} {i j : Nat} {q : Addr} {l m : List PyData} (nd : (own ρ).Nodup) (h1 : ρ[i]? = some (.ow q l)) (h2 : ρ[j]? = some (.ow q m)) : i = j := by
    induction ρ generalizing i j with
    | nil => cases h1
    | cons y ρ ih =>
      rw [own_cons] at nd
      obtain ⟨n1, n2, n3⟩ := List.nodup_append.mp nd
      cases i with
      | zero =>
        cases j with
        | zero => rfl
        | succ j =>
          cases h1
          exact absurd rfl (n3 q (by simp [ownOf]) q (own_mem (i := j) h2))
      | succ i =>
        cases j with
        | zero =>
          cases h2
          exact absurd rfl (n3 q (by simp [ownOf]) q (own_mem (i := i) h1))
        | succ j => rw [ih n2 (i := i) (j := j) h1 h2]
theorem mut_stp (R : Rel Z B0 H0 ρ s σ H) {i : Nat} {q : Addr} {xs : List V} {l l' : List PyData} (hi : ρ[i]? = some (.ow q l)) : Stp Z B0 ρ H (ρ.set i (.ow q l')) (upd H q (.lst xs)) := by
  have mq := own_mem hi
  obtain ⟨o0, s0, e0, xs0, hq0, _⟩ := R.sl i _ hi
  refine ⟨fun b o e n => by rw [upd_ne (fun z => n (by rw [z]; exact .inr (.inr mq)))]; exact e, fun b ys e => by rw [upd_ne (fun z => by rw [z, hq0] at e; cases e)]; exact e, fun b o u e => by rw [upd_ne (fun z => by rw [z, hq0] at e; cases e)]; exact e, fun a ha => .inl ?_⟩
  rw [own_set_same hi] at ha
  exact ha
/-- name = value -/
def stR (r : Rv) (i : Nat) (ρ : List Sl) (Q : List Sl → Prop) : Prop := match r with
  | .im d => Q (ρ.set i (.im d))
  | .fr l => ∀ a, Q (ρ.set i (.ow a l))
  | .rw v => Q (ρ.set i (.raw v))
  | .bo _ => False
theorem stR_ok (R : Rel Z B0 H0 ρ s σ H) (R1 : Rel Z B0 H0 ρ s1 σ H1) (g : Gr Z H H1) (h : RvR Z B0 ρ H H1 v r) {i : Nat} {Q : List Sl → Prop} (q : stR r i ρ Q) : ∃ ρ', Q ρ' ∧ Rel Z B0 H0 ρ' s1 (σ.set i (some v)) H1 ∧ Stp Z B0 ρ H ρ' H1 := by
  have st := g.stp R
  cases r with
  | im d =>
    refine ⟨_, q, R1.put rfl ⟨v, rfl, h⟩, st.keep, st.tups, st.frzs, fun a ha => ?_⟩
    rcases mem_own_set ha with z | z
    · exact .inl z
    · cases z
  | rw w =>
    refine ⟨_, q, R1.put rfl (by cases (show v = w from h); rfl), st.keep, st.tups, st.frzs, fun a ha => ?_⟩
    rcases mem_own_set ha with z | z
    · exact .inl z
    · cases z
  | fr l =>
    obtain ⟨p, xs, rfl, h1, h2, h3, h4⟩ := h
    refine ⟨_, q p, R.putO R1.ok g h1 h3 h4, st.keep, st.tups, st.frzs, fun a ha => ?_⟩
    rcases mem_own_set ha with z | z
    · exact .inl z
    · cases z
      exact .inr h1
  | bo l => exact q.elim
def dSet (i : Nat) (de : DX Z) : DSt Z := fun De s ρ => de s ρ fun r s1 => stR r i ρ fun ρ' => De.nx s1 ρ'
theorem lift_set {i : Nat} {D : Ends} {σ : L2.St} {H : Hp} (h : liftS Z (dSet i de) D σ H) : tAsg (liftE Z de) (gName i) D σ H := by
  obtain ⟨B0, H0, ρ, s, De, R, hd, hn, _⟩ := h
  refine ⟨B0, H0, ρ, s, _, R, hd, fun r s1 v H1 qx R1 g1 r1 => ?_⟩
  obtain ⟨ρ', q, R', st⟩ := stR_ok R R1 g1 r1 qx
  exact hn s1 ρ' _ H1 q R' st
theorem ds_set {i : Nat} {n : Str} {pos' : Pos} (hN : X.N.Nodup) (hi : X.N[i]? = some n) (hx : Loc X.env.scope n) (he : DE Z X e de) (hs : swapsWith e (some (.Name n pos')) pos.line X.env = pure false := by rfl) (hf : X.fn n = true ∨ X.env.scope.names.lookup n = some .local := by first | exact .inl rfl | exact .inr rfl | assumption) :
    DS Z X (.Assign [.Name n pos'] e pos) (dSet i de) := PS.of (ps_set hN hi hx he hs hf) fun D σ H h => lift_set h
/-! ### blocks -/
def dNext : DSt Z := fun De s ρ => De.nx s ρ
def dSeq (t u : DSt Z) : DSt Z := fun De s ρ => t { De with nx := u De } s ρ
theorem ds_nil : DSs Z X [] dNext := PSs.of pss_nil fun D σ H ⟨B0, H0, ρ, s, De, R, hd, hn, _⟩ => hn s ρ σ H hd R Stp.refl
theorem ds_cons (h1 : DS Z X st t) (h2 : DSs Z X sts t') : DSs Z X (st :: sts) (dSeq t t') := by
  refine PSs.of (pss_cons h1 h2) fun D σ H ⟨B0, H0, ρ, s, De, R, hd, hn, hb, hc, hr⟩ => ?_
  refine ⟨B0, H0, ρ, s, _, R, hd, fun s1 ρ1 σ1 H1 q R1 st => ?_, hb, hc, hr⟩
  exact ⟨B0, H0, ρ1, s1, De, R1, q, fun s2 ρ2 σ2 H2 q R2 st2 => hn s2 ρ2 σ2 H2 q R2 (st.trans R1 st2), fun s2 ρ2 σ2 H2 q R2 st2 => hb s2 ρ2 σ2 H2 q R2 (st.trans R1 st2), fun s2 ρ2 σ2 H2 q R2 st2 => hc s2 ρ2 σ2 H2 q R2 (st.trans R1 st2), hr⟩
theorem ds_one (h1 : DS Z X st t) : DSs Z X [st] t := pss_one h1
theorem ds_pass : DS Z X (.Pass pos) dNext := PS.of ps_pass fun D σ H ⟨B0, H0, ρ, s, De, R, hd, hn, _⟩ => hn s ρ σ H hd R Stp.refl
def dBreak : DSt Z := fun De s ρ => De.bk s ρ
def dCont : DSt Z := fun De s ρ => De.ct s ρ
theorem ds_break : DS Z X (.Break pos) dBreak := PS.of ps_break fun D σ H ⟨B0, H0, ρ, s, De, R, hd, _, hb, _⟩ => hb s ρ σ H hd R Stp.refl
theorem ds_cont : DS Z X (.Continue pos) dCont := PS.of ps_continue fun D σ H ⟨B0, H0, ρ, s, De, R, hd, _, _, hc, _⟩ => hc s ρ σ H hd R Stp.refl
def dIfS (c : DT Z) (t u : DSt Z) : DSt Z := fun De s ρ => c s ρ fun b s1 => if b = true then t De s1 ρ else u De s1 ρ
theorem ds_if {as bs : List Stmt} (hc : DTs Z X c dt) (ha : DSs Z X as t) (hb : DSs Z X bs t') : DS Z X (.If c as bs pos) (dIfS dt t t') := by
  refine PS.of (ps_if hc ha hb) fun D σ H ⟨B0, H0, ρ, s, De, R, hd, hn, hb, hc, hr⟩ => ?_
  refine ⟨B0, H0, ρ, s, _, R, hd, fun b s1 H1 q R1 g => ?_⟩
  have st := g.stp R
  cases b with
  | true => exact ⟨B0, H0, ρ, s1, De, R1, q, fun s2 ρ2 σ2 H2 q R2 st2 => hn s2 ρ2 σ2 H2 q R2 (st.trans R1 st2), fun s2 ρ2 σ2 H2 q R2 st2 => hb s2 ρ2 σ2 H2 q R2 (st.trans R1 st2), fun s2 ρ2 σ2 H2 q R2 st2 => hc s2 ρ2 σ2 H2 q R2 (st.trans R1 st2), hr⟩
  | false => exact ⟨B0, H0, ρ, s1, De, R1, q, fun s2 ρ2 σ2 H2 q R2 st2 => hn s2 ρ2 σ2 H2 q R2 (st.trans R1 st2), fun s2 ρ2 σ2 H2 q R2 st2 => hb s2 ρ2 σ2 H2 q R2 (st.trans R1 st2), fun s2 ρ2 σ2 H2 q R2 st2 => hc s2 ρ2 σ2 H2 q R2 (st.trans R1 st2), hr⟩
/-- a result that leaves the def -/
def Rv.ret : Rv → Rv
  | .bo l => .fr l
  | r => r
theorem ret_ok (R : Rel Z B0 H0 ρ s σ H) (R1 : Rel Z B0 H0 ρ s1 σ H1) (h : RvR Z B0 ρ H H1 v r) : RvR Z B0 [] H0 H1 v r.ret := by
  have hB : ∀ a, Bad Z B0 [] a → Bad Z B0 ρ a := fun a z => by
    rcases z with z | z | z
    · exact .inl z
    · exact .inr (.inl z)
    · cases z
  cases r with
  | im d => exact Im.bad hB h
  | rw w => exact h
  | fr l =>
    obtain ⟨p, xs, rfl, h1, h2, h3, h4⟩ := h
    exact ⟨p, xs, rfl, R.h0 h1, h2, h3, h4.bad fun a z => z.imp (hB a) id⟩
  | bo l =>
    obtain ⟨a, xs, h1, rfl, h3, h4⟩ := h
    obtain ⟨f1, f2, _⟩ := R.fr a h1
    exact ⟨a, xs, rfl, f1, f2, h3, h4.bad fun b z => z.elim (hB b) fun z => by rw [z]; exact .inr (.inr h1)⟩
def dRet (de : DX Z) : DSt Z := fun De s ρ => de s ρ fun r s1 => De.rt r.ret s1
theorem ds_ret (he : DE Z X e de) : DS Z X (.Return (some e) pos) (dRet de) := by
  refine PS.of (ps_ret he) fun D σ H ⟨B0, H0, ρ, s, De, R, hd, _, _, _, hr⟩ => ?_
  refine ⟨B0, H0, ρ, s, _, R, hd, fun r s1 v H1 q R1 g r1 => ?_⟩
  exact hr _ s1 v H1 q R1.ok (fun b o e n => R1.frm b o e n) (ret_ok R R1 r1)
def dExpr (de : DX Z) : DSt Z := fun De s ρ => de s ρ fun _ s1 => De.nx s1 ρ
theorem ds_expr (he : DE Z X e de) (hs : swapsWith e none pos.line X.env = pure false := by rfl) : DS Z X (.Expr e pos) (dExpr de) := by
  refine PS.of (ps_expr he hs) fun D σ H ⟨B0, H0, ρ, s, De, R, hd, hn, _⟩ => ?_
  exact ⟨B0, H0, ρ, s, _, R, hd, fun r s1 v H1 q R1 g r1 => hn s1 ρ σ H1 q R1 (g.stp R)⟩
end
end Lf
namespace Lf
open PySem PySem.Spec PyProof.Rows L2
section
variable {Z : Zn} {X : Cx} {B0 : Addr → Prop} {H0 H H1 H2 : Hp} {ρ ρ1 ρ2 : List Sl} {s s1 s2 : Z.S} {σ : L2.St} {v u : V} {r x y : Rv} {e a b c : Expr} {es rest : List Expr} {de da db dc : DX Z} {dt du : DT Z} {das : DA Z} {pos p : Pos} {K : PySem.W.Frag} {B : Addr → Prop} {st : Stmt} {sts : List Stmt} {t t' : DSt Z}
/-! ### methods that change a list -/
abbrev Mth := List PyData → List Rv → (PyData → List PyData → Prop) → Prop
def Mt2 (rr : V → List V → Hp → VK → Prop) (m : Mth) : Prop := ∀ (Z : Zn) (B0 : Addr → Prop) (ρ : List Sl) (s s' : Z.S) (H0 : Hp) (σ : L2.St) (Ha H : Hp) (q : Addr) (xs vs : List V) (l : List PyData) (rs : List Rv) (Qm : PyData → List PyData → Prop) (Q : VK), Rel Z B0 H0 ρ s σ Ha → Rel Z B0 H0 ρ s' σ H →
  H q = some (.lst xs) → ImAll (Bad Z B0 ρ) H xs l → RvRs Z B0 ρ Ha H vs rs → m l rs Qm → (∀ d v' l' xs', Qm d l' → Im (Bad Z B0 ρ) H v' d → ImAll (Bad Z B0 ρ) H xs' l' → Q v' (upd H q (.lst xs'))) → rr (.ref q) vs H Q
def mApp : Mth := fun l rs Q => match rs with
  | [r] => ∃ d, r.st = some d ∧ l.length < 1000000 ∧ Q .none (l ++ [d])
  | _ => False
theorem smL {n : Nat} (h : n < 1000000) : n < sizeLine := by rw [sizeLine_eq]; omega
theorem m2_app : Mt2 rAppend mApp := by
  intro Z B0 ρ s s' H0 σ Ha H q xs vs l rs Qm Q Ra R hq im rr m k
  unfold mApp at m
  split at m
  · obtain ⟨d, h1, h2, m⟩ := m
    obtain ⟨v, rfl, r1⟩ := rr.one
    exact ⟨q, xs, v, rfl, rfl, hq, by rw [im.length]; exact smL h2, k _ _ _ _ m .non (im.snoc (RvR.st Ra r1 h1))⟩
  · exact m.elim
def mPop : Mth := fun l rs Q => match rs with
  | [] => ∃ d, l[l.length - 1]? = some d ∧ Q d l.dropLast
  | _ => False
theorem ImAll.dropLast : ∀ {vs : List V} {ds : List PyData}, ImAll B H vs ds → ImAll B H vs.dropLast ds.dropLast
  | _, _, .nil => .nil
  | _, _, .cons _ .nil => .nil
  | _, _, .cons h (.cons h2 q) => .cons h (ImAll.dropLast (.cons h2 q))
theorem m2_pop : Mt2 rPop mPop := by
  intro Z B0 ρ s s' H0 σ Ha H q xs vs l rs Qm Q Ra R hq im rr m k
  unfold mPop at m
  split at m
  · obtain ⟨d, h1, m⟩ := m
    cases rr
    rw [← im.length] at h1
    obtain ⟨w, hw, iw⟩ := im.get h1
    exact ⟨q, xs, w, rfl, rfl, hq, hw, k _ _ _ _ m iw im.dropLast⟩
  · exact m.elim
def mPopAt : Mth := fun l rs Q => match rs with
  | [r] => match r.D with
    | some (.int i) => 0 ≤ i ∧ i < 1000000 ∧ ∃ d, l[i.toNat]? = some d ∧ Q d (l.eraseIdx i.toNat)
    | _ => False
  | _ => False
theorem ImAll.erase : ∀ {vs : List V} {ds : List PyData} (n : Nat), ImAll B H vs ds → ImAll B H (vs.eraseIdx n) (ds.eraseIdx n)
  | _, _, _, .nil => .nil
  | _, _, 0, .cons _ q => q
  | _, _, n + 1, .cons h q => .cons h (q.erase n)
theorem m2_popAt : Mt2 rPopAt mPopAt := by
  intro Z B0 ρ s s' H0 σ Ha H q xs vs l rs Qm Q Ra R hq im rr m k
  unfold mPopAt at m
  split at m
  · obtain ⟨v, rfl, r1⟩ := rr.one
    split at m
    · rename_i i e1
      obtain ⟨h0, hb, d, h1, m⟩ := m
      obtain ⟨w, hw, iw⟩ := im.get h1
      rw [r1.vI e1]
      have hlt : i.toNat < xs.length := (List.getElem?_eq_some_iff.mp hw).1
      exact ⟨q, xs, i, i.toNat, w, rfl, rfl, hq, by omega, by omega, PySem.StrLaws.seqIndex_nonneg h0 (by omega), hw, k _ _ _ _ m iw (im.erase _)⟩
    · exact m.elim
  · exact m.elim
def mIns : Mth := fun l rs Q => match rs with
  | [r, x] => match r.D with
    | some (.int i) => 0 ≤ i ∧ i < 1000000 ∧ ∃ d, x.st = some d ∧ l.length < 1000000 ∧ Q .none (l.take i.toNat ++ [d] ++ l.drop i.toNat)
    | _ => False
  | _ => False
theorem m2_ins : Mt2 (fun x vs H Q => ∃ (l : Addr) (xs : List V) (i : Int) (y : V), x = .ref l ∧ vs = [.int i, y] ∧ H l = some (.lst xs) ∧ xs.length < sizeLine ∧ 0 ≤ i ∧ i < 2 ^ 63 ∧ Q .non (upd H l (.lst (xs.take i.toNat ++ [y] ++ xs.drop i.toNat)))) mIns := by
  intro Z B0 ρ s s' H0 σ Ha H q xs vs l rs Qm Q Ra R hq im rr m k
  unfold mIns at m
  split at m
  · obtain ⟨v, u, rfl, r1, r2⟩ := rr.two
    split at m
    · rename_i i e1
      obtain ⟨h0, hb, d, h1, h2, m⟩ := m
      rw [r1.vI e1]
      exact ⟨q, xs, i, u, rfl, rfl, hq, by rw [im.length]; exact smL h2, h0, by omega, k _ _ _ _ m .non (((im.take _).snoc (RvR.st Ra r2 h1)).append (im.drop _))⟩
    · exact m.elim
  · exact m.elim
def mExt : Mth := fun l rs Q => match rs with
  | [r] => match r.D with
    | some (.list m) => l.length + m.length ≤ 1000000 ∧ Q .none (l ++ m)
    | _ => False
  | _ => False
theorem m2_ext : Mt2 rExtend mExt := by
  intro Z B0 ρ s s' H0 σ Ha H q xs vs l rs Qm Q Ra R hq im rr m k
  unfold mExt at m
  split at m
  · obtain ⟨v, rfl, r1⟩ := rr.one
    split at m
    · rename_i l2 e1
      obtain ⟨b, ys, rfl, h1, h2⟩ := r1.lst e1
      exact ⟨q, b, xs, ys, rfl, rfl, hq, h1, by rw [im.length, h2.length]; exact smB m.1, k _ _ _ _ m.2 .non (im.append h2)⟩
    · exact m.elim
  · exact m.elim
/-- xs.m(..) alone -/
def dMt (i : Nat) (m : Mth) (da : DA Z) : DSt Z := fun De s ρ => match ρ[i]? with
  | some (.ow q l) => da s ρ fun rs s1 => m l rs fun _ l' => De.nx s1 (ρ.set i (.ow q l'))
  | _ => False
/-- x = xs.m(..) -/
def dSetMt (j i : Nat) (m : Mth) (da : DA Z) : DSt Z := fun De s ρ => match ρ[i]? with
  | some (.ow q l) => da s ρ fun rs s1 => m l rs fun d l' => De.nx s1 ((ρ.set i (.ow q l')).set j (.im d))
  | _ => False
theorem lift_mt {i : Nat} {m : Mth} {rr : V → List V → Hp → VK → Prop} (h2 : Mt2 rr m) {D : Ends} {σ : L2.St} {H : Hp} (h : liftS Z (dMt i m das) D σ H) : tDrop (tBM K "list" rr (tVar i) (liftA Z das)) D σ H := by
  obtain ⟨B0, H0, ρ, s, De, R, hd, hn, _⟩ := h
  unfold dMt at hd
  split at hd
  · rename_i q l e1
    obtain ⟨o, s0, rfl, xs, hq, im⟩ := R.sl i _ e1
    refine ⟨.ref q, s0, .inl ⟨rfl, xs, SqL.of hq⟩, B0, H0, ρ, s, _, R, hd, fun rs s1 vs H1 qx R1 g1 r1 => ?_⟩
    have hq1 := g1 q _ hq (R.fr q (own_mem e1)).2.1
    have im1 := im.grow badZ R.ok g1
    refine h2 Z B0 ρ s s1 H0 σ H H1 q xs vs l rs _ _ R R1 hq1 im1 r1 qx fun d v' l' xs' qd hv hx => ?_
    exact hn s1 _ σ _ qd (R1.mutL e1 hx) ((g1.stp R).trans R1 (mut_stp R1 e1))
  · exact hd.elim
theorem lift_setmt {i j : Nat} {m : Mth} {rr : V → List V → Hp → VK → Prop} (h2 : Mt2 rr m) {D : Ends} {σ : L2.St} {H : Hp} (h : liftS Z (dSetMt j i m das) D σ H) : tAsg (tBM K "list" rr (tVar i) (liftA Z das)) (gName j) D σ H := by
  obtain ⟨B0, H0, ρ, s, De, R, hd, hn, _⟩ := h
  unfold dSetMt at hd
  split at hd
  · rename_i q l e1
    obtain ⟨o, s0, rfl, xs, hq, im⟩ := R.sl i _ e1
    refine ⟨.ref q, s0, .inl ⟨rfl, xs, SqL.of hq⟩, B0, H0, ρ, s, _, R, hd, fun rs s1 vs H1 qx R1 g1 r1 => ?_⟩
    have hq1 := g1 q _ hq (R.fr q (own_mem e1)).2.1
    have im1 := im.grow badZ R.ok g1
    refine h2 Z B0 ρ s s1 H0 σ H H1 q xs vs l rs _ _ R R1 hq1 im1 r1 qx fun d v' l' xs' qd hv hx => ?_
    have R2 := R1.mutL (l' := l') e1 hx
    have st := (g1.stp R).trans R1 (mut_stp (xs := xs') (l' := l') R1 e1)
    have mq := own_mem e1
    obtain ⟨_, _, _, xs0, hq0, _⟩ := R1.sl i _ e1
    have iv : Im (Bad Z B0 (ρ.set i (.ow q l'))) (upd H1 q (.lst xs')) v' d := hv.mono (fun b o e n => ⟨by rw [upd_ne (fun z => n (by rw [z]; exact .inr (.inr mq)))]; exact e, fun z => n (by unfold Bad at z ⊢; rw [own_set_same e1] at z; exact z)⟩) (fun b ys e => by rw [upd_ne (fun z => by rw [z, hq0] at e; cases e)]; exact e) (fun b o u e => by rw [upd_ne (fun z => by rw [z, hq0] at e; cases e)]; exact e)
    refine hn s1 _ _ _ qd (R2.put rfl ⟨v', rfl, iv⟩) ⟨st.keep, st.tups, st.frzs, fun a ha => ?_⟩
    rcases mem_own_set ha with z | z
    · exact st.owns a z
    · cases z
  · exact hd.elim
theorem ds_mt {i : Nat} {n m : Str} {id : String} {mt : Mth} {rr : V → List V → Hp → VK → Prop} {np apos cpos : Pos} (h2 : Mt2 rr mt) (slot : Slot "list" m id) (hty : typeOf (.builtin id) = pure (.type "method_descriptor")) (hm : MtR X id rr) (hN : X.N[i]? = some n) (hv : Vis X.env.scope n) (ha : DAs Z X (e :: es) das)
    (hd : (n == ("__debug__" : Str)) = false := by decide) (hcd : (n == ("__classdict__" : Str)) = false := by decide) (hbase : attributeBase (.Name n np) m X.env (eval (.Name n np) X.env) = eval (.Name n np) X.env := by rfl)
    (hfew : ((backTo cpos (starEach (e :: es) X.env)).all (fun x => !x.1) && (backToKw cpos (keywordEach [] X.env)).all (fun x => x.1.isSome) && decide ((e :: es).length + ([] : List Keyword).length + (if ([] : List Keyword).isEmpty then 0 else 1) < 30)) = true := by rfl)
    (hline : (apos.endLine == cpos.line) = true := by rfl) (hs : starEach (e :: es) X.env = (false, eval e X.env) :: starEach es X.env := by rfl) (hplain : (backTo cpos (starEach es X.env)).any (·.1) = false := by rfl)
    (hsw : swapsWith (.Call (.Attribute (.Name n np) m apos) (e :: es) [] cpos) none pos.line X.env = pure false := by rfl) : DS Z X (.Expr (.Call (.Attribute (.Name n np) m apos) (e :: es) [] cpos) pos) (dMt i mt das) :=
  PS.of (ps_expr (pe_bm PySem.F.plainAttrs_list slot hty hm (pe_var hN hv hd hcd) ha hbase hfew hline hs hplain) hsw) fun D σ H h => lift_mt h2 h
theorem ds_setmt0 {i j : Nat} {n n2 m : Str} {id : String} {mt : Mth} {rr : V → List V → Hp → VK → Prop} {np apos cpos pos' : Pos} (h2 : Mt2 rr mt) (slot : Slot "list" m id) (hty : typeOf (.builtin id) = pure (.type "method_descriptor")) (hm : MtR X id rr) (hNd : X.N.Nodup) (hj : X.N[j]? = some n2) (hx : Loc X.env.scope n2) (hN : X.N[i]? = some n) (hv : Vis X.env.scope n)
    (hd : (n == ("__debug__" : Str)) = false := by decide) (hcd : (n == ("__classdict__" : Str)) = false := by decide) (hbase : attributeBase (.Name n np) m X.env (eval (.Name n np) X.env) = eval (.Name n np) X.env := by rfl)
    (hline : (apos.endLine == cpos.line) = true := by rfl) (hsw : swapsWith (.Call (.Attribute (.Name n np) m apos) [] [] cpos) (some (.Name n2 pos')) pos.line X.env = pure false := by rfl) (hf : X.fn n2 = true ∨ X.env.scope.names.lookup n2 = some .local := by first | exact .inl rfl | exact .inr rfl | assumption) :
    DS Z X (.Assign [.Name n2 pos'] (.Call (.Attribute (.Name n np) m apos) [] [] cpos) pos) (dSetMt j i mt dANil) :=
  PS.of (ps_set hNd hj hx (pe_bm0 PySem.F.plainAttrs_list slot hty hm (pe_var hN hv hd hcd) hbase hline) hsw hf) fun D σ H h => by
    obtain ⟨w, h1, h2, h3⟩ := lift_setmt (K := X.K) (rr := rr) h2 h
    obtain ⟨B0, H0, ρ, s, Qd, R, hd, hq⟩ := h3
    exact ⟨w, h1, h2, hq [] s [] H hd R Gr.refl .nil⟩
theorem ds_setmt {i j : Nat} {n n2 m : Str} {id : String} {mt : Mth} {rr : V → List V → Hp → VK → Prop} {np apos cpos pos' : Pos} (h2 : Mt2 rr mt) (slot : Slot "list" m id) (hty : typeOf (.builtin id) = pure (.type "method_descriptor")) (hm : MtR X id rr) (hNd : X.N.Nodup) (hj : X.N[j]? = some n2) (hx : Loc X.env.scope n2) (hN : X.N[i]? = some n) (hv : Vis X.env.scope n) (ha : DAs Z X (e :: es) das)
    (hd : (n == ("__debug__" : Str)) = false := by decide) (hcd : (n == ("__classdict__" : Str)) = false := by decide) (hbase : attributeBase (.Name n np) m X.env (eval (.Name n np) X.env) = eval (.Name n np) X.env := by rfl)
    (hfew : ((backTo cpos (starEach (e :: es) X.env)).all (fun x => !x.1) && (backToKw cpos (keywordEach [] X.env)).all (fun x => x.1.isSome) && decide ((e :: es).length + ([] : List Keyword).length + (if ([] : List Keyword).isEmpty then 0 else 1) < 30)) = true := by rfl)
    (hline : (apos.endLine == cpos.line) = true := by rfl) (hs : starEach (e :: es) X.env = (false, eval e X.env) :: starEach es X.env := by rfl) (hplain : (backTo cpos (starEach es X.env)).any (·.1) = false := by rfl)
    (hsw : swapsWith (.Call (.Attribute (.Name n np) m apos) (e :: es) [] cpos) (some (.Name n2 pos')) pos.line X.env = pure false := by rfl) (hf : X.fn n2 = true ∨ X.env.scope.names.lookup n2 = some .local := by first | exact .inl rfl | exact .inr rfl | assumption) :
    DS Z X (.Assign [.Name n2 pos'] (.Call (.Attribute (.Name n np) m apos) (e :: es) [] cpos) pos) (dSetMt j i mt das) :=
  PS.of (ps_set hNd hj hx (pe_bm PySem.F.plainAttrs_list slot hty hm (pe_var hN hv hd hcd) ha hbase hfew hline hs hplain) hsw hf) fun D σ H h => lift_setmt h2 h
/-! ### xs[i] = e -/
def dSetIx (i : Nat) (dk de : DX Z) : DSt Z := fun De s ρ => match ρ[i]? with
  | some (.ow q l) => de s ρ fun r s1 => dk s1 ρ fun k s2 => match k.D with
    | some (.int n) => ∃ j d, ixN l.length n = some j ∧ r.st = some d ∧ De.nx s2 (ρ.set i (.ow q (l.set j d)))
    | _ => False
  | _ => False
theorem ds_setIx {i : Nat} {n : Str} {k : Expr} {dk : DX Z} {np ps : Pos} (hN : X.N[i]? = some n) (hv : Vis X.env.scope n) (hk : DE Z X k dk) (he : DE Z X e de) (hd : (n == ("__debug__" : Str)) = false := by decide) (hcd : (n == ("__classdict__" : Str)) = false := by decide)
    (hs : swapsWithSole [.Subscript (.Name n np) k ps] e pos.line X.env = pure false := by rfl) (hw : swappedStores [.Subscript (.Name n np) k ps] e X.env = pure none := by rfl) (h1 : (assignEach [.Subscript (.Name n np) k ps] X.env).map (·.2) = [assign (.Subscript (.Name n np) k ps) X.env] := by rfl)
    (ht : ∀ v, assign (.Subscript (.Name n np) k ps) X.env v = (do
      let ov ← holding [v] (eval (.Name n np) X.env)
      let iv ← holding [v, ov] (eval k X.env)
      standAt ps
      holding [v, ov, iv] (setItem ov iv v)
      release [v, ov, iv] []) := by intro _; rfl) : DS Z X (.Assign [.Subscript (.Name n np) k ps] e pos) (dSetIx i dk de) := by
  refine PS.of (ps_asg he (pg_sub (pe_var hN hv hd hcd) hk set_list ht) hs hw h1) fun D σ H ⟨B0, H0, ρ, s, De, R, hd, hn, _⟩ => ?_
  unfold dSetIx at hd
  split at hd
  · rename_i q l e1
    refine ⟨B0, H0, ρ, s, _, R, hd, fun r s1 v H1 qx R1 g1 r1 => ?_⟩
    obtain ⟨o, s0, rfl, xs, hq, im⟩ := R1.sl i _ e1
    refine ⟨.ref q, s0, B0, H0, ρ, s1, _, R1, qx, fun k s2 w H2 qk R2 g2 r2 => ?_⟩
    split at qk
    · rename_i n e2
      obtain ⟨j, d, h3, h4, q5⟩ := qk
      have hq2 := g2 q _ hq (R1.fr q (own_mem e1)).2.1
      have im2 := im.grow badZ R1.ok g2
      have r12 := (r1.grow R1 g2)
      refine ⟨q, xs, n, j, rfl, r2.vI e2, hq2, by rw [im.length]; exact h3, ?_⟩
      exact hn s2 _ σ _ q5 (R2.mutL e1 (im2.set j (RvR.st R r12 h4))) ((g1.stp R).trans R1 ((g2.stp R1).trans R2 (mut_stp R2 e1)))
    · exact qk.elim
  · exact hd.elim
/-! ### a op= e of ints -/
def dAug (i : Nat) (op : Op) (de : DX Z) : DSt Z := fun De s ρ => match ρ[i]? with
  | some (.im d) => de s ρ fun y s1 => op (.im d) y fun r => stR r i ρ fun ρ' => De.nx s1 ρ'
  | _ => False
theorem ds_aug {i : Nat} {n : Str} {op : Operator} {opd : Op} {rr : R2} {pos' : Pos} (h2 : Op2 X.K rr opd) (ho : OpR X (inplaceOp op) rr) (hN : X.N.Nodup) (hi : X.N[i]? = some n) (hx : Loc X.env.scope n) (he : DE Z X e de) (hf : X.fn n = true ∨ X.env.scope.names.lookup n = some .local := by first | exact .inl rfl | exact .inr rfl | assumption) :
    DS Z X (.AugAssign (.Name n pos') op e pos) (dAug i opd de) := by
  refine PS.of (ps_aug (ti := rr) hN hi hx he ho hf) fun D σ H ⟨B0, H0, ρ, s, De, R, hd, hn, _⟩ => ?_
  unfold dAug at hd
  split at hd
  · rename_i d e1
    obtain ⟨o, s0, v, rfl, im⟩ := R.sl i _ e1
    refine ⟨v, s0, B0, H0, ρ, s, _, R, hd, fun y s1 u H1 qx R1 g1 r1 => ?_⟩
    refine h2 Z B0 ρ s1 H0 σ H H H1 v u (.im d) y _ _ R1 (RvR.grow (r := .im d) (H := H) R g1 im) r1 qx fun r' v' H' q sm rr => ?_
    obtain ⟨ρ', q', R', st⟩ := stR_ok R (R1.same sm) (g1.trans (Gr.of sm)) (rr.back R1.ok g1) q
    exact hn s1 ρ' _ H' q' R' st
  · exact hd.elim
theorem ds_iadd {i : Nat} {n : Str} {pos' : Pos} (hN : X.N.Nodup) (hi : X.N[i]? = some n) (hx : Loc X.env.scope n) (he : DE Z X e de) (hf : X.fn n = true ∨ X.env.scope.names.lookup n = some .local := by first | exact .inl rfl | exact .inr rfl | assumption) : DS Z X (.AugAssign (.Name n pos') .Add e pos) (dAug i (opI0 fun i j => .int (i + j)) de) := ds_aug (op2_I0 fun _ _ _ _ => .int _) iop_add hN hi hx he hf
theorem ds_isub {i : Nat} {n : Str} {pos' : Pos} (hN : X.N.Nodup) (hi : X.N[i]? = some n) (hx : Loc X.env.scope n) (he : DE Z X e de) (hf : X.fn n = true ∨ X.env.scope.names.lookup n = some .local := by first | exact .inl rfl | exact .inr rfl | assumption) : DS Z X (.AugAssign (.Name n pos') .Sub e pos) (dAug i opSub de) := ds_aug (op2_I0 fun _ _ _ _ => .int _) iop_sub hN hi hx he hf
theorem iop_mulW : OpR X (inplaceOp .Mult) (rI CMulW fun i j => .int (i * j)) := L2.opI fun _ _ _ _ _ _ _ hc q => imul_int q hc.ok
theorem ds_imul {i : Nat} {n : Str} {pos' : Pos} (hN : X.N.Nodup) (hi : X.N[i]? = some n) (hx : Loc X.env.scope n) (he : DE Z X e de) (hf : X.fn n = true ∨ X.env.scope.names.lookup n = some .local := by first | exact .inl rfl | exact .inr rfl | assumption) : DS Z X (.AugAssign (.Name n pos') .Mult e pos) (dAug i (opI CMulW fun i j => .int (i * j)) de) := ds_aug (op2_I fun _ _ _ _ => .int _) iop_mulW hN hi hx he hf
/-! ### a, b = x, y -/
def dPar (i j : Nat) (da db : DX Z) : DSt Z := fun De s ρ => da s ρ fun x s1 => db s1 ρ fun y s2 => stR x i ρ fun ρ1 => stR y j ρ1 fun ρ2 => De.nx s2 ρ2
/-- one more list that nothing may lead through -/
theorem Rel.more (R : Rel Z B0 H0 ρ s σ H) (ok : Z.ok s1 H1) (g : Gr Z H H1) {q : Addr} (hq : H q = none) (ht : H1 q ≠ none) : Rel Z (fun a => B0 a ∨ a = q) H0 ρ s1 σ H1 := by
  have R1 := R.grow ok g
  have no : q ∉ own ρ := fun z => R.otr z hq
  have hB : ∀ a, Bad Z (fun a => B0 a ∨ a = q) ρ a → Bad Z B0 ρ a ∨ a = q := fun a z => by
    rcases z with z | z | z
    · exact .inl (.inl z)
    · exact z.imp (fun z => .inr (.inl z)) id
    · exact .inl (.inr (.inr z))
  have kl : ∀ b o, H b = some o → ¬ Bad Z B0 ρ b → H1 b = some o ∧ ¬ Bad Z (fun a => B0 a ∨ a = q) ρ b := fun b o e n => ⟨g b o e fun z => n (.inl z), fun z => (hB b z).elim n fun z => by subst z; rw [hq] at e; cases e⟩
  have kt : ∀ b ys, H b = some (.tup ys) → H1 b = some (.tup ys) := fun b ys e => g b _ e (Zn.ntup R.ok e)
  have kf : ∀ b o u, H b = some (.frz o u) → H1 b = some (.frz o u) := fun b o u e => g b _ e (Zn.nfrz R.ok e)
  refine ⟨ok, R.len, fun i x e => ?_, R.nd, fun a ha => ⟨(R.fr a ha).1, (R.fr a ha).2.1, fun z => z.elim (R.fr a ha).2.2 fun z => no (by rw [← z]; exact ha)⟩, fun a ha => ha.elim (R1.btr a) fun z => by rw [z]; exact ht, R1.frm⟩
  obtain ⟨o, h1, h2⟩ := R.sl i x e
  refine ⟨o, h1, ?_⟩
  cases x with
  | no => trivial
  | im d =>
    obtain ⟨v, h3, h4⟩ := h2
    exact ⟨v, h3, h4.mono kl kt kf⟩
  | ow a l =>
    obtain ⟨h3, xs, h4, h5⟩ := h2
    exact ⟨h3, xs, g a _ h4 (R.fr a (own_mem e)).2.1, h5.mono kl kt kf⟩
  | od a l =>
    obtain ⟨h3, xs, h4, h5⟩ := h2
    exact ⟨h3, xs, g a _ h4 (R.fr a (own_memG e rfl)).2.1, h5.mono kl kt kf⟩
  | ot a l =>
    obtain ⟨h3, xs, h4, h5⟩ := h2
    exact ⟨h3, xs, g a _ h4 (R.fr a (own_memG e rfl)).2.1, h5.mono kl kt kf⟩
  | raw v => exact h2
theorem Rel.less {B1 : Addr → Prop} (hB : ∀ a, B1 a → B0 a) (R : Rel Z B0 H0 ρ s σ H) : Rel Z B1 H0 ρ s σ H := by
  have hb : ∀ a, Bad Z B1 ρ a → Bad Z B0 ρ a := fun a z => z.imp id fun z => z.imp (hB a) id
  refine ⟨R.ok, R.len, fun i x e => ?_, R.nd, fun a ha => ⟨(R.fr a ha).1, (R.fr a ha).2.1, fun z => (R.fr a ha).2.2 (hB a z)⟩, fun a ha => R.btr a (hB a ha), R.frm⟩
  obtain ⟨o, h1, h2⟩ := R.sl i x e
  exact ⟨o, h1, h2.bad hb⟩
theorem rv_set {B1 : Addr → Prop} {ρ ρ' : List Sl} {H H' : Hp} {v : V} {r : Rv} (hB : ∀ a, Bad Z B0 ρ' a → Bad Z B1 ρ a) (hb : ∀ l, r ≠ .bo l) (h : RvR Z B1 ρ H H' v r) : RvR Z B0 ρ' H H' v r := by
  cases r with
  | im d => exact Im.bad hB h
  | rw u => exact h
  | fr l =>
    obtain ⟨p, xs, rfl, h1, h2, h3, h4⟩ := h
    exact ⟨p, xs, rfl, h1, h2, h3, h4.bad fun a z => z.imp (hB a) id⟩
  | bo l => exact absurd rfl (hb l)
theorem par_fin {B1 : Addr → Prop} {σ1 : L2.St} {j : Nat} {De : DEnds Z} {D : Ends} (hn : ∀ s' ρ' σ' H', De.nx s' ρ' → Rel Z B0 H0 ρ' s' σ' H' → Stp Z B0 ρ H ρ' H' → D.nx σ' H') (R1 : Rel Z B0 H0 ρ1 s1 σ1 H1) (ok : Z.ok s2 H2) (g2 : Gr Z H1 H2) (hB : ∀ a, Bad Z B0 ρ1 a → Bad Z B1 ρ a) (r2 : RvR Z B1 ρ H1 H2 u y) (st1 : Stp Z B0 ρ H ρ1 H1) (qy : stR y j ρ1 fun ρ2 => De.nx s2 ρ2) : D.nx (σ1.set j (some u)) H2 := by
  have hb : ∀ l, y ≠ .bo l := fun l z => by subst z; exact qy
  obtain ⟨ρ', q', R', st⟩ := stR_ok R1 (R1.grow ok g2) g2 (rv_set hB hb r2) qy
  exact hn s2 ρ' _ H2 q' R' (st1.trans R1 st)
theorem par_ok {i j : Nat} {da db : DX Z} {D : Ends} {σ : L2.St} {H : Hp} (h : liftS Z (dPar i j da db) D σ H) : liftE Z da σ H fun v H1 => liftE Z db σ H1 fun w H2 => D.nx ((σ.set i (some v)).set j (some w)) H2 := by
  obtain ⟨B0, H0, ρ, s, De, R, hd, hn, _⟩ := h
  refine ⟨B0, H0, ρ, s, _, R, hd, fun x s1 v H1 qx R1 g1 r1 => ?_⟩
  have st := g1.stp R
  have own_no : ∀ (z : Sl), ownOf z = none → Stp Z B0 ρ H (ρ.set i z) H1 := fun z hz => ⟨st.keep, st.tups, st.frzs, fun a ha => (mem_own_set ha).elim .inl fun y => by rw [hz] at y; cases y⟩
  cases x with
  | bo l => exact ⟨B0, H0, ρ, s1, _, R1, qx, fun y s2 w H2 qy R2 g2 r2 => qy.elim⟩
  | im d => exact ⟨B0, H0, ρ, s1, _, R1, qx, fun y s2 w H2 qy R2 g2 r2 => par_fin (B1 := B0) hn (R1.put (x := .im d) rfl ⟨v, rfl, r1⟩) R2.ok g2 (fun a z => bad_set rfl z) r2 (own_no _ rfl) qy⟩
  | rw u => exact ⟨B0, H0, ρ, s1, _, R1, qx, fun y s2 w H2 qy R2 g2 r2 => par_fin (B1 := B0) hn (R1.put (x := .raw u) rfl (by cases (show v = u from r1); rfl)) R2.ok g2 (fun a z => bad_set rfl z) r2 (own_no _ rfl) qy⟩
  | fr l =>
    obtain ⟨p, xs, rfl, h1, h2, h3, h4⟩ := r1
    refine ⟨fun a => B0 a ∨ a = p, H0, ρ, s1, _, R.more R1.ok g1 h1 (by rw [h3]; exact fun z => nomatch z), qx, fun y s2 w H2 qy R2 g2 r2 => ?_⟩
    refine par_fin hn (R.putO R1.ok g1 h1 h3 h4) R2.ok g2 (fun a z => ?_) r2 ⟨st.keep, st.tups, st.frzs, fun a ha => (mem_own_set ha).elim .inl fun y => by cases y; exact .inr h1⟩ (qy p)
    rcases z with z | z | z
    · exact .inl z
    · exact .inr (.inl (.inl z))
    · rcases mem_own_set z with z | z
      · exact .inr (.inr z)
      · cases z; exact .inr (.inl (.inr rfl))
theorem ds_par {i j : Nat} {n1 n2 : Str} {px py pt : Pos} {kt k2 pt2} (hc : X.calm = true) (hN : X.N.Nodup) (hi : X.N[i]? = some n1) (hj : X.N[j]? = some n2) (hij : i ≠ j) (hx : X.env.scope.names.lookup n1 = some .local) (hy : X.env.scope.names.lookup n2 = some .local) (ha : DE Z X a da) (hb : DE Z X b db)
    (hw : swappedStores [.Tuple [.Name n1 px, .Name n2 py] kt pt] (.Tuple [a, b] k2 pt2) X.env = pure (some [n1, n2]) := by rfl) (hs : swapsWithSole [.Tuple [.Name n1 px, .Name n2 py] kt pt] (.Tuple [a, b] k2 pt2) pos.line X.env = pure false := by rfl)
    (s1 : starEach [a, b] X.env = (false, eval a X.env) :: starEach [b] X.env := by rfl) (s2 : starEach [b] X.env = (false, eval b X.env) :: starEach [] X.env := by rfl) :
    DS Z X (.Assign [.Tuple [.Name n1 px, .Name n2 py] kt pt] (.Tuple [a, b] k2 pt2) pos) (dPar i j da db) := by
  refine PS.of (ps_par hc hN hi hj hij hx hy (pa_cons ha (pa_cons hb pa_nil s2) s1) hw hs) fun D σ H h => ?_
  obtain ⟨B0, H0, ρ, s, Qd, R, hd, hq⟩ := par_ok h
  refine ⟨B0, H0, ρ, s, Qd, R, hd, fun r s' v H' q R' g rr => ?_⟩
  obtain ⟨B1, H1, ρ1, s1, Q1, R1, hd1, hq1⟩ := hq r s' v H' q R' g rr
  exact ⟨B1, H1, ρ1, s1, Q1, R1, hd1, fun r2 s2 w H2 q2 R2 g2 rr2 => ⟨v, w, rfl, hq1 r2 s2 w H2 q2 R2 g2 rr2⟩⟩
/-! ### while -/
def dWhile (c : DT Z) (tb : DSt Z) : DSt Z := fun De s ρ => ∃ I : Nat → Z.S → List Sl → Prop, (∃ m, I m s ρ) ∧ ∀ m s ρ, I m s ρ → c s ρ fun b s1 => if b = true then tb { De with nx := fun s' ρ' => ∃ m', m' < m ∧ I m' s' ρ', ct := fun s' ρ' => ∃ m', m' < m ∧ I m' s' ρ', bk := De.nx } s1 ρ else De.nx s1 ρ
theorem ds_while {body : List Stmt} (hp : PassesOwn (model X.prog X.w) X.A X.env X.xe) (hc : DTs Z X c dt) (hb : DSs Z X body t) : DS Z X (.While c body [] pos) (dWhile dt t) := by
  refine PS.of (ps_while hp hc hb) fun D σ H ⟨B0, H0, ρ, s, De, R, hd, hn, hbk, hct, hr⟩ => ?_
  obtain ⟨I, ⟨m, hm⟩, turn⟩ := hd
  refine ⟨fun m σ' H' => ∃ s' ρ', I m s' ρ' ∧ Rel Z B0 H0 ρ' s' σ' H' ∧ Stp Z B0 ρ H ρ' H', ⟨m, s, ρ, hm, R, Stp.refl⟩, ?_⟩
  rintro m σ1 H1 ⟨s1, ρ1, i1, R1, st1⟩
  refine ⟨B0, H0, ρ1, s1, _, R1, turn m s1 ρ1 i1, fun b s2 H2 q R2 g => ?_⟩
  have st2 := st1.trans R1 (g.stp R1)
  cases b with
  | false => exact hn s2 ρ1 σ1 H2 q R2 st2
  | true =>
    refine ⟨fun σ' H' => ∃ m' s' ρ', m' < m ∧ I m' s' ρ' ∧ Rel Z B0 H0 ρ' s' σ' H' ∧ Stp Z B0 ρ H ρ' H', ?_, ?_⟩
    · rintro σ' H' ⟨m', s', ρ', hlt, i', R', st'⟩
      exact ⟨m', hlt, s', ρ', i', R', st'⟩
    · exact ⟨B0, H0, ρ1, s2, _, R2, q, fun s3 ρ3 σ3 H3 ⟨m', hlt, i'⟩ R3 st3 => ⟨m', s3, ρ3, hlt, i', R3, st2.trans R2 st3⟩, fun s3 ρ3 σ3 H3 q3 R3 st3 => hn s3 ρ3 σ3 H3 q3 R3 (st2.trans R2 st3), fun s3 ρ3 σ3 H3 ⟨m', hlt, i'⟩ R3 st3 => ⟨m', s3, ρ3, hlt, i', R3, st2.trans R2 st3⟩, hr⟩
/-! ### targets -/
abbrev DG (Z : Zn) := PyData → List Sl → (List Sl → Prop) → Prop
def liftG (Z : Zn) (d : DG Z) : TG := fun v σ H Q => ∃ (B0 : Addr → Prop) (H0 : Hp) (ρ : List Sl) (s : Z.S) (x : PyData) (Qd : List Sl → Prop), Rel Z B0 H0 ρ s σ H ∧ Im (Bad Z B0 ρ) H v x ∧ d x ρ Qd ∧
  ∀ ρ' σ', Qd ρ' → Rel Z B0 H0 ρ' s σ' H → (∀ a ∈ own ρ', a ∈ own ρ) → Q σ' H
abbrev DGs (Z : Zn) (X : Cx) (tg : Expr) (d : DG Z) : Prop := PG X tg (liftG Z d)
theorem PG.of {tg : Expr} {t t' : TG} (h : PG X tg t) (w : ∀ v σ H Q, t' v σ H Q → t v σ H Q) : PG X tg t' := ⟨fun pins s σ H v u Q I r q => h.run pins s σ H v u Q I r (w v σ H Q q)⟩
def gN (i : Nat) : DG Z := fun x ρ Q => Q (ρ.set i (.im x))
theorem dg_name {i : Nat} {n : Str} (hN : X.N.Nodup) (hi : X.N[i]? = some n) (hx : Loc X.env.scope n) (hf : X.fn n = true ∨ X.env.scope.names.lookup n = some .local := by first | exact .inl rfl | exact .inr rfl | assumption) : DGs Z X (.Name n pos) (gN i) := by
  refine PG.of (pg_name hN hi hx hf) fun v σ H Q ⟨B0, H0, ρ, s, x, Qd, R, im, hd, hq⟩ => ?_
  refine hq _ _ hd (R.put rfl ⟨v, rfl, im⟩) fun a ha => (mem_own_set ha).elim id fun y => by cases y
/-- names only -/
def gNs : List Nat → List PyData → List Sl → (List Sl → Prop) → Prop
  | [], [], ρ, Q => Q ρ
  | i :: is, d :: ds, ρ, Q => gNs is ds (ρ.set i (.im d)) Q
  | _, _, _, _ => False
def gT (is : List Nat) : DG Z := fun x ρ Q => match x with
  | .tuple ds => gNs is ds ρ Q
  | _ => False
inductive Nms (X : Cx) : List Expr → List Nat → Prop
  | nil : Nms X [] []
  | cons {n : Str} {i : Nat} {pos : Pos} {es : List Expr} {is : List Nat} (hi : X.N[i]? = some n) (hx : Loc X.env.scope n) (hf : X.fn n = true ∨ X.env.scope.names.lookup n = some .local) (hs : (assignEach (.Name n pos :: es) X.env).map (·.2) = assign (.Name n pos) X.env :: (assignEach es X.env).map (·.2)) (h : Nms X es is) : Nms X (.Name n pos :: es) (i :: is)
def tNms : List Nat → TGs
  | [] => gNil
  | i :: is => gCons (gName i) (tNms is)
theorem Nms.pgs (hN : X.N.Nodup) : ∀ {es : List Expr} {is : List Nat}, Nms X es is → PGs X es (tNms is)
  | _, _, .nil => pgs_nil
  | _, _, .cons hi hx hf hs h => pgs_cons (pg_name hN hi hx hf) (h.pgs hN) hs
theorem nms_ok : ∀ {is : List Nat} {vs : List V} {ds : List PyData} {ρ : List Sl} {σ : L2.St} {Qd : List Sl → Prop} {Q : L2.St → Hp → Prop}, Rel Z B0 H0 ρ s σ H → ImAll (Bad Z B0 ρ) H vs ds → gNs is ds ρ Qd → (∀ ρ' σ', Qd ρ' → Rel Z B0 H0 ρ' s σ' H → (∀ a ∈ own ρ', a ∈ own ρ) → Q σ' H) → tNms is vs σ H Q
  | [], _, _, ρ, σ, Qd, Q, R, .nil, hd, hq => ⟨rfl, hq ρ σ hd R fun _ h => h⟩
  | i :: is, _, _, ρ, σ, Qd, Q, R, .cons (v := v) (d := d) h t, hd, hq => by
    refine ⟨_, _, rfl, ?_⟩
    have o1 : ∀ a ∈ own (ρ.set i (.im d)), a ∈ own ρ := fun a ha => (mem_own_set ha).elim id fun y => by cases y
    exact nms_ok (R.put (i := i) (x := .im d) rfl ⟨v, rfl, h⟩) (t.bad fun a z => bad_set rfl z) hd fun ρ' σ' q R' ho => hq ρ' σ' q R' fun a ha => o1 a (ho a ha)
  | [], _, _, _, _, _, _, _, .cons _ _, hd, _ => hd.elim
  | _ :: _, _, _, _, _, _, _, _, .nil, hd, _ => hd.elim
theorem gNs_len : ∀ {is : List Nat} {ds : List PyData} {ρ : List Sl} {Qd : List Sl → Prop}, gNs is ds ρ Qd → ds.length = is.length
  | [], [], _, _, _ => rfl
  | _ :: _, _ :: _, _, _, h => congrArg (· + 1) (gNs_len h)
  | [], _ :: _, _, _, h => h.elim
  | _ :: _, [], _, _, h => h.elim
theorem dg_tup {es : List Expr} {is : List Nat} {k : Nat} (hc : X.calm = true) (hN : X.N.Nodup) (h : Nms X es is) (hn : (assignEach es X.env).length = is.length := by rfl) (hst : (assignEach es X.env).findIdx? (·.1) = none := by rfl) : DGs Z X (.Tuple es k pos) (gT is) := by
  refine PG.of (pg_tup (n := is.length) hc (h.pgs hN) hn hst) fun v σ H Q ⟨B0, H0, ρ, s, x, Qd, R, im, hd, hq⟩ => ?_
  unfold gT at hd
  split at hd
  · rename_i ds
    cases im with
    | tup e q => exact ⟨_, _, rfl, SqT.of e, by rw [q.length]; exact gNs_len hd, nms_ok R q hd hq⟩
    | ftp e q => exact ⟨_, _, rfl, .inl (.inr ⟨_, e⟩), by rw [q.length]; exact gNs_len hd, nms_ok R q hd hq⟩
  · exact hd.elim
/-- a, b = e -/
def dAsg (de : DX Z) (g : DG Z) : DSt Z := fun De s ρ => de s ρ fun r s1 => match r.st with
  | some d => g d ρ fun ρ' => De.nx s1 ρ'
  | _ => False
theorem ds_asg {tg : Expr} {g : DG Z} (he : DE Z X e de) (hg : DGs Z X tg g) (hs : swapsWithSole [tg] e pos.line X.env = pure false := by rfl) (hw : swappedStores [tg] e X.env = pure none := by rfl) (h1 : (assignEach [tg] X.env).map (·.2) = [assign tg X.env] := by rfl) : DS Z X (.Assign [tg] e pos) (dAsg de g) := by
  refine PS.of (ps_asg he hg hs hw h1) fun D σ H ⟨B0, H0, ρ, s, De, R, hd, hn, _⟩ => ?_
  refine ⟨B0, H0, ρ, s, _, R, hd, fun r s1 v H1 qx R1 g1 r1 => ?_⟩
  split at qx
  · rename_i d e1
    refine ⟨B0, H0, ρ, s1, d, _, R1, RvR.st R r1 e1, qx, fun ρ' σ' q R' ho => ?_⟩
    have st := g1.stp R
    exact hn s1 ρ' σ' H1 q R' ⟨st.keep, st.tups, st.frzs, fun a ha => .inl (ho a ha)⟩
  · exact qx.elim
end
end Lf
namespace Lf
open PySem PySem.Spec PyProof.Rows L2
/-! ### what is walked -/
/-- as long as what P names stands, J yields these -/
def ItOk (P Bd : Addr → Prop) (J : It) (items : List PyData) (H : Hp) : Prop := ∀ (Hk : Hp) (Bk : Addr → Prop), (∀ b o, H b = some o → P b → Hk b = some o) → (∀ b o, H b = some o → ¬ Bd b → Hk b = some o ∧ ¬ Bk b) →
  (∀ b xs, H b = some (.tup xs) → Hk b = some (.tup xs)) → (∀ b o u, H b = some (.frz o u) → Hk b = some (.frz o u)) →
  (∀ i, i < items.length → J.go i Hk) ∧ (∀ i d x H', items[i]? = some d → J.yld i Hk x H' → Same Hk H' ∧ Im Bk H' x d) ∧ J.stop items.length Hk
abbrev DI (Z : Zn) := Z.S → List Sl → (List PyData → Bool → Z.S → Prop) → Prop
def keepP (Z : Zn) (B0 : Addr → Prop) (ρ : List Sl) (fz : Bool) : Addr → Prop := fun b => match fz with
  | true => ¬ Bad Z B0 ρ b
  | false => ¬ Z.at_ b
def liftI (Z : Zn) (d : DI Z) : TI := fun σ H R => ∃ (B0 : Addr → Prop) (H0 : Hp) (ρ : List Sl) (s : Z.S) (Qd : List PyData → Bool → Z.S → Prop), Rel Z B0 H0 ρ s σ H ∧ d s ρ Qd ∧
  ∀ items fz s' J H', Qd items fz s' → Rel Z B0 H0 ρ s' σ H' → Gr Z H H' → ItOk (keepP Z B0 ρ fz) (Bad Z B0 ρ) J items H' → R J H'
abbrev DIs (Z : Zn) (X : Cx) (tg it : Expr) (d : DI Z) : Prop := PI X tg it (liftI Z d)
section
variable {Z : Zn} {X : Cx} {B0 : Addr → Prop} {H0 H H1 H2 : Hp} {ρ ρ1 ρ2 : List Sl} {s s1 s2 : Z.S} {σ : L2.St} {v u : V} {r x y : Rv} {e a b c tg : Expr} {es rest : List Expr} {de da db dc : DX Z} {dt du : DT Z} {das : DA Z} {pos p : Pos} {K : PySem.W.Frag} {B : Addr → Prop} {st : Stmt} {sts : List Stmt} {t t' : DSt Z}
theorem PI.of {it : Expr} {t t' : TI} (h : PI X tg it t) (w : ∀ σ H R, t' σ H R → t σ H R) : PI X tg it t' := ⟨fun pins s σ H R I q => h.run pins s σ H R I (w σ H R q)⟩
/-- a list or a tuple -/
theorem pi_seq {l : Expr} {tl : TE} (hl : PE X l tl) : PI X tg l (fun σ H R => tl σ H fun x H1 => ∃ a, x = .ref a ∧ (((∃ xs, SqL X.K H1 a xs) ∧ R (Itl X.K a) H1) ∨ ((∃ xs, SqT X.K H1 a xs) ∧ R (Itt X.K a) H1))) := by
  refine ⟨fun pins s σ H R I h => ?_⟩
  refine thn (hl.run pins s σ H _ I h) fun v s1 ⟨x, H1, I1, r1, q1⟩ => ?_
  obtain ⟨a, e, q1⟩ := q1
  subst e
  cases r1
  rcases q1 with ⟨⟨xs, hq⟩, q⟩ | ⟨⟨xs, hq⟩, q⟩
  · obtain ⟨its, rv, p, hz⟩ := I1.list hq
    refine wpAny_pyIter_list p.isList ?_
    refine ⟨s1.heap.objs.size, [s1.heap.objs.size], _, _, H1, rfl, I1.kept (t' := s1.toks) fun b o e => Heap.get?_push_of_some _ e, turn_list a _, ⟨_, Heap.get?_push_size _ rfl, rfl, rfl⟩, fun b hb => ?_, q⟩
    have e : b = s1.heap.objs.size := by simpa using hb
    subst e
    exact I1.fpOk (Nat.le_refl _) (I1.hok.fresh (Nat.le_refl _))
  · obtain ⟨its, rv, p, hz⟩ := I1.tuple hq
    refine wpAny_pyIter_tuple (show s1.heap.IsTuple a its.toArray from p) ?_
    refine ⟨s1.heap.objs.size, [s1.heap.objs.size], _, _, H1, rfl, I1.kept (t' := s1.toks) fun b o e => Heap.get?_push_of_some _ e, turn_tuple a _, ⟨_, Heap.get?_push_size _ rfl, rfl, rfl⟩, fun b hb => ?_, q⟩
    have e : b = s1.heap.objs.size := by simpa using hb
    subst e
    exact I1.fpOk (Nat.le_refl _) (I1.hok.fresh (Nat.le_refl _))
theorem it_lst {P Bd : Addr → Prop} {a : Addr} {xs : List V} {l : List PyData} (h : H a = some (.lst xs)) (ha : P a) (im : ImAll Bd H xs l) : ItOk P Bd (Itl K a) l H := by
  intro Hk Bk k1 k2 k3 k4
  have h1 := k1 a _ h ha
  have im1 : ImAll Bk Hk xs l := im.mono k2 k3 k4
  refine ⟨fun i hi => ?_, fun i d x H' hd hy => ?_, ⟨xs, SqL.of h1, by rw [im.length]; exact Nat.le_refl _⟩⟩
  · have hx : i < xs.length := by rw [im.length]; exact hi
    exact ⟨xs, xs[i], SqL.of h1, List.getElem?_eq_getElem hx⟩
  · obtain ⟨rfl, hy⟩ := hy
    have hx := hy xs (SqL.of h1)
    obtain ⟨d', hd', iv⟩ := im1.gets hx
    rw [hd] at hd'
    cases hd'
    exact ⟨Same.refl _, iv⟩
theorem sqT_keep {Hk : Hp} {a : Addr} {xs : List V} (k3 : ∀ b xs, H b = some (.tup xs) → Hk b = some (.tup xs)) (k4 : ∀ b o u, H b = some (.frz o u) → Hk b = some (.frz o u)) (h : SqT K H a xs) : SqT K Hk a xs := by
  rcases h with (h | ⟨o, h⟩) | h
  · exact .inl (.inl (k3 _ _ h))
  · exact .inl (.inr ⟨o, k4 _ _ _ h⟩)
  · exact .inr h
theorem it_tupD {P Bd : Addr → Prop} {a : Addr} {xs : List V} {l : List PyData} (h : H a = some (.tup xs) ∨ ∃ o, H a = some (.frz o (.tup xs))) (im : ImAll Bd H xs l) : ItOk P Bd (Itt K a) l H := by
  intro Hk Bk k1 k2 k3 k4
  have h1 : SqT K Hk a xs := by
    rcases h with h | ⟨o, h⟩
    · exact SqT.of (k3 _ _ h)
    · exact .inl (.inr ⟨o, k4 _ _ _ h⟩)
  have im1 : ImAll Bk Hk xs l := im.mono k2 k3 k4
  refine ⟨fun i hi => ?_, fun i d x H' hd hy => ?_, ⟨xs, h1, by rw [im.length]; exact Nat.le_refl _⟩⟩
  · have hx : i < xs.length := by rw [im.length]; exact hi
    exact ⟨xs, xs[i], h1, List.getElem?_eq_getElem hx⟩
  · obtain ⟨rfl, hy⟩ := hy
    have hx := hy xs h1
    obtain ⟨d', hd', iv⟩ := im1.gets hx
    rw [hd] at hd'
    cases hd'
    exact ⟨Same.refl _, iv⟩
theorem RvR.tupH {l : List PyData} (h : RvR Z B0 ρ H H1 v r) (e : r.D = some (.tuple l)) : ∃ a xs, v = .ref a ∧ (H1 a = some (.tup xs) ∨ ∃ o, H1 a = some (.frz o (.tup xs))) ∧ ImAll (Bad Z B0 ρ) H1 xs l := by
  cases r with
  | im d' =>
    cases e
    cases h with
    | tup h1 h2 => exact ⟨_, _, rfl, .inl h1, h2⟩
    | ftp h1 h2 => exact ⟨_, _, rfl, .inr ⟨_, h1⟩, h2⟩
  | bo l => cases e
  | fr l => cases e
  | rw u => cases e
/-- for x in e -/
def dISeq (de : DX Z) : DI Z := fun s ρ Q => de s ρ fun r s1 => match r with
  | .im (.list l) => Q l true s1
  | .im (.tuple l) => Q l true s1
  | .fr l => Q l true s1
  | .bo l => Q l false s1
  | _ => False
theorem di_seq (he : DE Z X e de) : DIs Z X tg e (dISeq de) := by
  refine PI.of (pi_seq he) fun σ H R ⟨B0, H0, ρ, s, Qd, R0, hd, hq⟩ => ?_
  refine ⟨B0, H0, ρ, s, _, R0, hd, fun r s1 v H1 qx R1 g1 r1 => ?_⟩
  have imp : ∀ {l : List PyData} {a : Addr} {xs : List V}, H1 a = some (.lst xs) → ¬ Bad Z B0 ρ a → ImAll (Bad Z B0 ρ) H1 xs l → ItOk (keepP Z B0 ρ true) (Bad Z B0 ρ) (Itl X.K a) l H1 := fun h n im => it_lst h n im
  split at qx
  · rename_i l
    cases r1 with
    | lst h1 n h2 => exact ⟨_, rfl, .inl ⟨⟨_, SqL.of h1⟩, hq _ _ s1 _ H1 qx R1 g1 (imp h1 n h2)⟩⟩
  · rename_i l
    obtain ⟨a, xs, rfl, h1, h2⟩ := RvR.tupH (r := .im (.tuple l)) r1 rfl
    refine ⟨a, rfl, .inr ⟨⟨xs, ?_⟩, hq _ _ s1 _ H1 qx R1 g1 (it_tupD h1 h2)⟩⟩
    rcases h1 with h1 | ⟨o, h1⟩
    · exact SqT.of h1
    · exact .inl (.inr ⟨o, h1⟩)
  · rename_i l
    obtain ⟨p, xs, rfl, h1, h2, h3, h4⟩ := r1
    exact ⟨p, rfl, .inl ⟨⟨xs, SqL.of h3⟩, hq _ _ s1 _ H1 qx R1 g1 (imp h3 (fun z => R0.bad z h1) (h4.bad fun a z => .inl z))⟩⟩
  · rename_i l
    obtain ⟨a, xs, h1, rfl, h3, h4⟩ := r1
    exact ⟨a, rfl, .inl ⟨⟨xs, SqL.of h3⟩, hq _ _ s1 _ H1 qx R1 g1 (it_lst h3 (R1.fr a h1).2.1 h4)⟩⟩
  · exact qx.elim
def rngD (lo : Int) (n : Nat) : List PyData := (List.range n).map fun k => .int (lo + (k : Nat))
theorem rngD_get {lo : Int} {n i : Nat} {d : PyData} (h : (rngD lo n)[i]? = some d) : i < n ∧ d = .int (lo + (i : Nat)) := by
  unfold rngD at h
  rw [List.getElem?_map] at h
  rcases Nat.lt_or_ge i n with z | z
  · rw [List.getElem?_range z] at h
    exact ⟨z, (Option.some.inj h).symm⟩
  · rw [List.getElem?_eq_none (by rw [List.length_range]; exact z)] at h
    cases h
theorem rngD_len {lo : Int} {n : Nat} : (rngD lo n).length = n := by unfold rngD; rw [List.length_map, List.length_range]
theorem it_rng {P Bd : Addr → Prop} {lo : Int} {n : Nat} : ItOk P Bd (Itr lo n) (rngD lo n) H := by
  intro Hk Bk _ _ _ _
  refine ⟨fun i hi => by rw [rngD_len] at hi; exact hi, fun i d x H' hd hy => ?_, by rw [rngD_len]; exact Nat.le_refl n⟩
  obtain ⟨_, rfl⟩ := rngD_get hd
  obtain ⟨rfl, rfl⟩ := hy
  exact ⟨Same.refl _, .int _⟩
def dIR1 (da : DA Z) : DI Z := fun s ρ Q => da s ρ fun rs s1 => match rs with
  | [x] => match x.D with
    | some (.int j) => -1000000000000 ≤ j ∧ j < 1000000000000 ∧ Q (rngD 0 j.toNat) true s1
    | _ => False
  | _ => False
theorem di_r1 (hg : Gl X "range") (hm : X.mg "range" = none) (ha : DAs Z X [a] das) (hs : starEach [a] X.env = [(false, eval a X.env)] := by rfl) : DIs Z X tg (.Call (.Name "range" p) [a] [] pos) (dIR1 das) := by
  refine PI.of (pi_range1 hg hm ha hs) fun σ H R ⟨B0, H0, ρ, s, Qd, R0, hd, hq⟩ => ?_
  refine ⟨B0, H0, ρ, s, _, R0, hd, fun rs s1 vs H1 qx R1 g1 r1 => ?_⟩
  split at qx
  · obtain ⟨w, rfl, r2⟩ := r1.one
    split at qx
    · rename_i j e1
      exact ⟨j, by rw [r2.vI e1], by omega, by omega, hq _ _ s1 _ H1 qx.2.2 R1 g1 it_rng⟩
    · exact qx.elim
  · exact qx.elim
def dIR2 (da : DA Z) : DI Z := fun s ρ Q => da s ρ fun rs s1 => match rs with
  | [x, y] => match x.D, y.D with
    | some (.int i), some (.int j) => (-1000000000000 ≤ i ∧ i < 1000000000000) ∧ (-1000000000000 ≤ j ∧ j < 1000000000000) ∧ Q (rngD i (j - i).toNat) true s1
    | _, _ => False
  | _ => False
theorem di_r2 (hg : Gl X "range") (hm : X.mg "range" = none) (ha : DAs Z X [a, b] das) (hs : starEach [a, b] X.env = [(false, eval a X.env), (false, eval b X.env)] := by rfl) (hs2 : starEach [b] X.env = [(false, eval b X.env)] := by rfl) : DIs Z X tg (.Call (.Name "range" p) [a, b] [] pos) (dIR2 das) := by
  refine PI.of (pi_range2 hg hm ha hs hs2) fun σ H R ⟨B0, H0, ρ, s, Qd, R0, hd, hq⟩ => ?_
  refine ⟨B0, H0, ρ, s, _, R0, hd, fun rs s1 vs H1 qx R1 g1 r1 => ?_⟩
  split at qx
  · obtain ⟨w, w2, rfl, r2, r3⟩ := r1.two
    split at qx
    · rename_i i j e1 e2
      exact ⟨i, j, by rw [r2.vI e1, r3.vI e2], ⟨by omega, by omega, by omega, by omega⟩, hq _ _ s1 _ H1 qx.2.2 R1 g1 it_rng⟩
    · exact qx.elim
  · exact qx.elim
/-- enumerate -/
def enumD (l : List PyData) : List PyData := (List.range l.length).map fun k => .tuple [.int (k : Nat), l.getD k .none]
theorem enumD_get {l : List PyData} {i : Nat} {d : PyData} (h : (enumD l)[i]? = some d) : ∃ z, l[i]? = some z ∧ d = .tuple [.int (i : Nat), z] := by
  unfold enumD at h
  rw [List.getElem?_map] at h
  rcases Nat.lt_or_ge i l.length with z | z
  · rw [List.getElem?_range z] at h
    refine ⟨l[i], List.getElem?_eq_getElem z, ?_⟩
    have : d = .tuple [.int (i : Nat), l.getD i .none] := (Option.some.inj h).symm
    rw [List.getD_eq_getElem?_getD, List.getElem?_eq_getElem z] at this
    exact this
  · rw [List.getElem?_eq_none (by rw [List.length_range]; exact z)] at h
    cases h
theorem enumD_len {l : List PyData} : (enumD l).length = l.length := by unfold enumD; rw [List.length_map, List.length_range]
theorem it_enumT {P Bd : Addr → Prop} {a : Addr} {xs : List V} {l : List PyData} (h : H a = some (.tup xs) ∨ ∃ o, H a = some (.frz o (.tup xs))) (im : ImAll Bd H xs l) : ItOk P Bd (ItT K a) (enumD l) H := by
  intro Hk Bk k1 k2 k3 k4
  have h1 : SqT K Hk a xs := by
    rcases h with h | ⟨o, h⟩
    · exact SqT.of (k3 _ _ h)
    · exact .inl (.inr ⟨o, k4 _ _ _ h⟩)
  have im1 : ImAll Bk Hk xs l := im.mono k2 k3 k4
  refine ⟨fun i hi => ?_, fun i d x H' hd hy => ?_, ⟨xs, h1, by rw [enumD_len, im.length]⟩⟩
  · have hx : i < xs.length := by rw [im.length]; rw [enumD_len] at hi; exact hi
    exact ⟨xs, xs[i], h1, List.getElem?_eq_getElem hx⟩
  · obtain ⟨T, w, rfl, hT, rfl, hy⟩ := hy
    obtain ⟨z, hz, rfl⟩ := enumD_get hd
    obtain ⟨d', hd', iv⟩ := im1.gets (hy xs h1)
    rw [hz] at hd'
    cases hd'
    exact ⟨same_new hT, .tup upd_same (.cons (.int _) (.cons (iv.same (same_new hT)) .nil))⟩
def dIEn (da : DA Z) : DI Z := fun s ρ Q => da s ρ fun rs s1 => match rs with
  | [x] => match x.D with
    | some (.tuple l) => Q (enumD l) true s1
    | _ => False
  | _ => False
theorem di_enum {elts : List Expr} {kk : Nat} {tpos : Pos} (hg : Gl X "enumerate") (hm : X.mg "enumerate" = none) (ha : DAs Z X [e] das) (hs : starEach [e] X.env = [(false, eval e X.env)] := by rfl) : DIs Z X (.Tuple elts kk tpos) (.Call (.Name "enumerate" p) [e] [] pos) (dIEn das) := by
  refine PI.of (pi_enumT hg hm ha hs) fun σ H R ⟨B0, H0, ρ, s, Qd, R0, hd, hq⟩ => ?_
  refine ⟨B0, H0, ρ, s, _, R0, hd, fun rs s1 vs H1 qx R1 g1 r1 => ?_⟩
  split at qx
  · obtain ⟨w, rfl, r2⟩ := r1.one
    split at qx
    · rename_i l e1
      obtain ⟨a, xs, rfl, h1, h2⟩ := RvR.tupH r2 e1
      refine ⟨a, xs, rfl, ?_, hq _ _ s1 _ H1 qx R1 g1 (it_enumT h1 h2)⟩
      rcases h1 with h1 | ⟨o, h1⟩
      · exact SqT.of h1
      · exact .inl (.inr ⟨o, h1⟩)
    · exact qx.elim
  · exact qx.elim
/-! ### for -/
def dFor (wi : DI Z) (g : DG Z) (tb : DSt Z) : DSt Z := fun De s ρ => wi s ρ fun items fz s1 => fz = true ∧ ∃ I : Nat → Z.S → List Sl → Prop, I 0 s1 ρ ∧
  (∀ k d s ρ, items[k]? = some d → I k s ρ → g d ρ fun ρ' => tb { De with nx := I (k + 1), ct := I (k + 1), bk := De.nx } s ρ') ∧ ∀ s ρ, I items.length s ρ → De.nx s ρ
theorem ds_for {iter : Expr} {body : List Stmt} {wi : DI Z} {g : DG Z} (hp : PassesOwn (model X.prog X.w) X.A X.env X.xe) (hc : X.calm = true) (hi : DIs Z X tg iter wi) (hg : DGs Z X tg g) (hb : DSs Z X body t) (hs : ∀ x, foldedSetIterable iter X.env x = pure x := by intro _; rfl) : DS Z X (.For tg iter body [] pos) (dFor wi g t) := by
  refine PS.of (ps_for hp hc hi hg hb hs) fun D σ H ⟨B0, H0, ρ, s, De, R, hd, hn, hbk, hct, hr⟩ => ?_
  refine ⟨B0, H0, ρ, s, _, R, hd, fun items fz s1 J H1 q R1 g1 ok => ?_⟩
  obtain ⟨rfl, I, i0, turn, fin⟩ := q
  have st1 := g1.stp R
  refine ⟨fun i m σ' H' => m = items.length - i ∧ i ≤ items.length ∧ ∃ s' ρ', I i s' ρ' ∧ Rel Z B0 H0 ρ' s' σ' H' ∧ Stp Z B0 ρ H1 ρ' H', ⟨items.length, by simp, Nat.zero_le _, s1, ρ, i0, R1, Stp.refl⟩, ?_⟩
  rintro i m σ2 H2 ⟨rfl, hi, s2, ρ2, i2, R2, st2⟩
  have k2 : ∀ b o, H1 b = some o → ¬ Bad Z B0 ρ b → H2 b = some o ∧ ¬ Bad Z B0 ρ2 b := fun b o e n => ⟨st2.keep b o e n, fun z => by
    rcases z with z | z | z
    · exact n (.inl z)
    · exact n (.inr (.inl z))
    · rcases st2.owns b z with z | z
      · exact n (.inr (.inr z))
      · rw [z] at e; cases e⟩
  obtain ⟨go, yl, stop⟩ := ok H2 (Bad Z B0 ρ2) (fun b o e n => st2.keep b o e n) k2 st2.tups st2.frzs
  by_cases hlt : i < items.length
  · refine .inr ⟨go i hlt, fun σ' H' => ∃ s' ρ', I (i + 1) s' ρ' ∧ Rel Z B0 H0 ρ' s' σ' H' ∧ Stp Z B0 ρ H1 ρ' H', fun σ' H' h => ⟨items.length - (i + 1), by omega, rfl, hlt, h⟩, fun x H' hy => ?_⟩
    obtain ⟨sm, im⟩ := yl i items[i] x H' (List.getElem?_eq_getElem hlt) hy
    have R3 := R2.same sm
    have st3 := st2.trans R2 (Gr.stp (H1 := H') R2 (Gr.of sm))
    refine ⟨B0, H0, ρ2, s2, items[i], _, R3, im, turn i _ s2 ρ2 (List.getElem?_eq_getElem hlt) i2, fun ρ3 σ3 q3 R4 ho => ?_⟩
    have st4 : Stp Z B0 ρ H1 ρ3 H' := ⟨st3.keep, st3.tups, st3.frzs, fun a ha => st3.owns a (ho a ha)⟩
    exact ⟨B0, H0, ρ3, s2, _, R4, q3, fun s5 ρ5 σ5 H5 q5 R5 st5 => ⟨s5, ρ5, q5, R5, st4.trans R4 st5⟩, fun s5 ρ5 σ5 H5 q5 R5 st5 => hn s5 ρ5 σ5 H5 q5 R5 (st1.trans R1 (st4.trans R4 st5)), fun s5 ρ5 σ5 H5 q5 R5 st5 => ⟨s5, ρ5, q5, R5, st4.trans R4 st5⟩, hr⟩
  · have e : i = items.length := by omega
    subst e
    exact .inl ⟨stop, hn s2 ρ2 σ2 H2 (fin s2 ρ2 i2) R2 (st1.trans R1 st2)⟩
/-- an owned list is changed no more -/
def frz (i : Nat) (ρ : List Sl) : List Sl := match ρ[i]? with
  | some (.ow _ l) => ρ.set i (.im (.list l))
  | _ => ρ
theorem Rel.frz (R : Rel Z B0 H0 ρ s σ H) (i : Nat) : Rel Z B0 H0 (frz i ρ) s σ H ∧ (∀ a ∈ own (Lf.frz i ρ), a ∈ own ρ) := by
  unfold Lf.frz
  split
  · rename_i q l e1
    obtain ⟨o, s0, rfl, xs, hq, im⟩ := R.sl i _ e1
    have no : q ∉ own (ρ.set i (.im (.list l))) := own_off R.nd e1
    have hB : ∀ a, Bad Z B0 (ρ.set i (.im (.list l))) a → Bad Z B0 ρ a := fun a z => bad_set rfl z
    have := R.put (i := i) (x := .no) (o := some (.ref q)) rfl trivial
    have es : σ.set i (some (.ref q)) = σ := by
      have hl := (List.getElem?_eq_some_iff.mp s0)
      rw [← hl.2]
      exact List.set_getElem_self hl.1
    refine ⟨⟨R.ok, by rw [List.length_set]; exact R.len, fun j y e => ?_, nodup_own_set R.nd (fun a z => by cases z), fun a ha => ?_, R.btr, R.frm⟩, fun a ha => (mem_own_set ha).elim id fun y => by cases y⟩
    · rcases set_get e with ⟨rfl, rfl⟩ | ⟨ne, e9⟩
      · refine ⟨_, s0, .ref q, rfl, .lst hq (fun z => ?_) (im.bad hB)⟩
        rcases z with z | z | z
        · exact (R.fr q (own_mem e1)).2.1 z
        · exact (R.fr q (own_mem e1)).2.2 z
        · exact no z
      · obtain ⟨o', h1, h2⟩ := R.sl j y e9
        exact ⟨o', h1, h2.bad hB⟩
    · rcases mem_own_set ha with z | z
      · exact R.fr a z
      · cases z
  · exact ⟨R, fun _ h => h⟩
where
  own_off {ρ : List Sl} {i : Nat} {q : Addr} {l : List PyData} {d : PyData} (nd : (own ρ).Nodup) (h : ρ[i]? = some (Sl.ow q l)) : q ∉ own (ρ.set i (.im d)) := by
    induction ρ generalizing i with
    | nil => cases h
    | cons y ρ ih =>
      rw [own_cons] at nd
      obtain ⟨n1, n2, n3⟩ := List.nodup_append.mp nd
      cases i with
      | zero =>
        cases h
        rw [List.set_cons_zero, own_cons]
        intro z
        rcases List.mem_append.mp z with z | z
        · cases z
        · exact n3 q (by simp [ownOf]) q z rfl
      | succ i =>
        rw [List.set_cons_succ, own_cons]
        intro z
        rcases List.mem_append.mp z with z | z
        · exact n3 q z q (own_mem (i := i) h) rfl
        · exact ih n2 (i := i) h z
def dFrz (i : Nat) (t : DSt Z) : DSt Z := fun De s ρ => t De s (frz i ρ)
theorem ds_frz (i : Nat) (h : DS Z X st t) : DS Z X st (dFrz i t) := by
  refine PS.of h fun D σ H ⟨B0, H0, ρ, s, De, R, hd, hn, hb, hc, hr⟩ => ?_
  obtain ⟨R', ho⟩ := R.frz i
  have st : Stp Z B0 ρ H (frz i ρ) H := ⟨fun _ _ h _ => h, fun _ _ h => h, fun _ _ _ h => h, fun a ha => .inl (ho a ha)⟩
  exact ⟨B0, H0, _, s, De, R', hd, fun s2 ρ2 σ2 H2 q R2 st2 => hn s2 ρ2 σ2 H2 q R2 (st.trans R' st2), fun s2 ρ2 σ2 H2 q R2 st2 => hb s2 ρ2 σ2 H2 q R2 (st.trans R' st2), fun s2 ρ2 σ2 H2 q R2 st2 => hc s2 ρ2 σ2 H2 q R2 (st.trans R' st2), hr⟩
end
end Lf
namespace Lf
open PySem PySem.Spec PyProof.Rows L2
section
variable {Z : Zn} {X : Cx} {B0 : Addr → Prop} {H0 H H1 H2 : Hp} {ρ ρ1 ρ2 : List Sl} {s s1 s2 : Z.S} {σ : L2.St} {v u : V} {r x y : Rv} {e a b c tg : Expr} {es rest : List Expr} {de da db dc : DX Z} {dt du : DT Z} {das : DA Z} {pos p : Pos} {K : PySem.W.Frag} {B : Addr → Prop}
/-! ### comprehensions -/
theorem wipe_at (σ : L2.St) (i : Nat) : ∀ vs : List Nat, (wipe σ vs)[i]? = if i ∈ vs then (if i < σ.length then some none else none) else σ[i]? := fun vs => by
  by_cases h : i ∈ vs
  · rw [if_pos h]
    by_cases hl : i < σ.length
    · rw [if_pos hl]
      have hw : i < (wipe σ vs).length := by rw [wipe_length]; exact hl
      rw [List.getElem?_eq_getElem hw]
      cases e : (wipe σ vs)[i] with
      | none => rfl
      | some x => exact absurd h (wipe_some (σ := σ) (i := i) (x := x) (by rw [List.getElem?_eq_getElem hw, e])).2
    · rw [if_neg hl, List.getElem?_eq_none (by rw [wipe_length]; omega)]
  · rw [if_neg h, wipe_out h]
theorem wipe_set {σ : L2.St} {i : Nat} {x : Option V} {vs : List Nat} (h : i ∈ vs) : wipe (σ.set i x) vs = wipe σ vs := by
  refine List.ext_getElem? fun j => ?_
  rw [wipe_at, wipe_at, List.length_set]
  by_cases hj : j ∈ vs
  · rw [if_pos hj, if_pos hj]
  · rw [if_neg hj, if_neg hj, List.getElem?_set_ne (fun z => hj (by rw [← z]; exact h))]
theorem wipe_wipe {σ : L2.St} {vs : List Nat} : wipe (wipe σ vs) vs = wipe σ vs := by
  refine List.ext_getElem? fun j => ?_
  rw [wipe_at (wipe σ vs), wipe_length]
  by_cases hj : j ∈ vs
  · rw [if_pos hj, wipe_at, if_pos hj]
  · rw [if_neg hj]
def wipeS (ρ : List Sl) : List Nat → List Sl
  | [] => ρ
  | i :: vs => wipeS (ρ.set i .no) vs
theorem own_wipe : ∀ {vs : List Nat} {ρ : List Sl} {a : Addr}, a ∈ own (wipeS ρ vs) → a ∈ own ρ
  | [], _, _, h => h
  | i :: vs, ρ, a, h => (mem_own_set (own_wipe (vs := vs) h)).elim id fun y => by cases y
theorem wipeS_at : ∀ {vs : List Nat} {ρ : List Sl} {i : Nat} {x : Sl}, (wipeS ρ vs)[i]? = some x → (i ∈ vs ∧ x = .no) ∨ (i ∉ vs ∧ ρ[i]? = some x)
  | [], _, _, _, h => .inr ⟨List.not_mem_nil, h⟩
  | j :: vs, ρ, i, x, h => by
    rcases wipeS_at (vs := vs) h with ⟨h1, h2⟩ | ⟨h1, h2⟩
    · exact .inl ⟨List.mem_cons_of_mem _ h1, h2⟩
    · rcases set_get h2 with ⟨rfl, rfl⟩ | ⟨ne, h3⟩
      · exact .inl ⟨List.mem_cons_self, rfl⟩
      · refine .inr ⟨fun z => ?_, h3⟩
        rcases List.mem_cons.mp z with z | z
        · exact ne z.symm
        · exact h1 z
theorem wipeS_len : ∀ {vs : List Nat} {ρ : List Sl}, (wipeS ρ vs).length = ρ.length
  | [], _ => rfl
  | i :: vs, ρ => by
    show (wipeS (ρ.set i .no) vs).length = _
    rw [wipeS_len (vs := vs), List.length_set]
theorem own_wipe_nd : ∀ {vs : List Nat} {ρ : List Sl}, (own ρ).Nodup → (own (wipeS ρ vs)).Nodup
  | [], _, h => h
  | i :: vs, ρ, h => own_wipe_nd (vs := vs) (nodup_own_set h fun a z => by cases z)
theorem Rel.wipe (R : Rel Z B0 H0 ρ s σ H) (vs : List Nat) : Rel Z B0 H0 (wipeS ρ vs) s (L2.wipe σ vs) H := by
  have hB : ∀ a, Bad Z B0 (wipeS ρ vs) a → Bad Z B0 ρ a := fun a z => z.imp id fun z => z.imp id own_wipe
  refine ⟨R.ok, by rw [wipe_length, wipeS_len]; exact R.len, fun i x e => ?_, own_wipe_nd R.nd, fun a ha => R.fr a (own_wipe ha), R.btr, R.frm⟩
  have hi : i < σ.length := by
    have := (List.getElem?_eq_some_iff.mp e).1
    rw [wipeS_len] at this
    rw [R.len]
    exact this
  rcases wipeS_at e with ⟨h1, rfl⟩ | ⟨h1, h2⟩
  · exact ⟨none, by rw [wipe_at, if_pos h1, if_pos hi], trivial⟩
  · obtain ⟨o, h3, h4⟩ := R.sl i x h2
    exact ⟨o, by rw [wipe_at, if_neg h1]; exact h3, h4.bad hB⟩
/-- a bad list is changed -/
theorem Rel.updB (R : Rel Z B0 H0 ρ s σ H) {q : Addr} {xs ys : List V} (hb : B0 q) (hz : ¬ Z.at_ q) (h0 : H0 q = none) (hq : H q = some (.lst xs)) : Rel Z B0 H0 ρ s σ (upd H q (.lst ys)) := by
  have kl : ∀ b o, H b = some o → ¬ Bad Z B0 ρ b → upd H q (.lst ys) b = some o ∧ ¬ Bad Z B0 ρ b := fun b o e n => ⟨by rw [upd_ne (fun z => n (by rw [z]; exact .inr (.inl hb)))]; exact e, n⟩
  have kt : ∀ b zs, H b = some (.tup zs) → upd H q (.lst ys) b = some (.tup zs) := fun b zs e => by rw [upd_ne (fun z => by rw [z, hq] at e; cases e)]; exact e
  have kf : ∀ b o u, H b = some (.frz o u) → upd H q (.lst ys) b = some (.frz o u) := fun b o u e => by rw [upd_ne (fun z => by rw [z, hq] at e; cases e)]; exact e
  refine ⟨Z.st R.ok (fun b o z e => by rw [upd_ne (fun y => hz (by rw [← y]; exact z))]; exact e) kt kf, R.len, fun j y e => ?_, R.nd, R.fr, fun a ha z => ?_, fun b o e n => ?_⟩
  · obtain ⟨o', h1, h2⟩ := R.sl j y e
    refine ⟨o', h1, ?_⟩
    cases y with
    | no => trivial
    | im d =>
      obtain ⟨w, h3, h4⟩ := h2
      exact ⟨w, h3, h4.mono kl kt kf⟩
    | ow a m =>
      obtain ⟨h3, zs, h4, h5⟩ := h2
      have : a ≠ q := fun z => (R.fr a (own_mem e)).2.2 (by rw [z]; exact hb)
      exact ⟨h3, zs, by rw [upd_ne this]; exact h4, h5.mono kl kt kf⟩
    | od a m =>
      obtain ⟨h3, zs, h4, h5⟩ := h2
      have : a ≠ q := fun z => (R.fr a (own_memG e rfl)).2.2 (by rw [z]; exact hb)
      exact ⟨h3, zs, by rw [upd_ne this]; exact h4, h5.mono kl kt kf⟩
    | ot a m =>
      obtain ⟨h3, zs, h4, h5⟩ := h2
      have : a ≠ q := fun z => (R.fr a (own_memG e rfl)).2.2 (by rw [z]; exact hb)
      exact ⟨h3, zs, by rw [upd_ne this]; exact h4, h5.mono kl kt kf⟩
    | raw w => exact h2
  · by_cases y : a = q
    · rw [y, upd_same] at z; cases z
    · rw [upd_ne y] at z
      exact R.btr a ha z
  · rw [upd_ne (fun z => by rw [z, h0] at e; cases e)]
    exact R.frm b o e n
theorem own_set_no : ∀ {ρ : List Sl} {i : Nat} {z : Sl}, (∀ x, ρ[i]? = some x → ownOf x = none) → ownOf z = none → own (ρ.set i z) = own ρ
  | [], _, _, _, _ => rfl
  | y :: ρ, 0, z, h, hz => by
    rw [List.set_cons_zero, own_cons, own_cons, hz, h y rfl]
  | y :: ρ, i + 1, z, h, hz => by
    rw [List.set_cons_succ, own_cons, own_cons, own_set_no (i := i) (fun x e => h x e) hz]
/-- a comprehension's target -/
def GOk (Z : Zn) (gr : TG) (g : DG Z) (vs : List Nat) : Prop := ∀ (B0 : Addr → Prop) (H0 : Hp) (ρ : List Sl) (s : Z.S) (σ : L2.St) (H : Hp) (v : V) (d : PyData) (Qd : List Sl → Prop) (Q : L2.St → Hp → Prop), (∀ i ∈ vs, ∀ x, ρ[i]? = some x → ownOf x = none) → Rel Z B0 H0 ρ s σ H → Im (Bad Z B0 ρ) H v d → g d ρ Qd →
  (∀ ρ' σ', Qd ρ' → Rel Z B0 H0 ρ' s σ' H → own ρ' = own ρ → L2.wipe σ' vs = L2.wipe σ vs → Q σ' H) → gr v σ H Q
theorem gok_name {i : Nat} {vs : List Nat} (h : i ∈ vs) : GOk Z (gName i) (gN i) vs := fun B0 H0 ρ s σ H v d Qd Q hno R im hd hq =>
  hq _ _ hd (R.put rfl ⟨v, rfl, im⟩) (own_set_no (hno i h) rfl) (wipe_set h)
theorem nms_okW {vs : List Nat} : ∀ {is : List Nat} {us : List V} {ds : List PyData} {ρ : List Sl} {σ : L2.St} {Qd : List Sl → Prop} {Q : L2.St → Hp → Prop}, (∀ i ∈ is, i ∈ vs) → (∀ i ∈ vs, ∀ x, ρ[i]? = some x → ownOf x = none) → Rel Z B0 H0 ρ s σ H → ImAll (Bad Z B0 ρ) H us ds → gNs is ds ρ Qd → (∀ ρ' σ', Qd ρ' → Rel Z B0 H0 ρ' s σ' H → own ρ' = own ρ → L2.wipe σ' vs = L2.wipe σ vs → Q σ' H) → tNms is us σ H Q
  | [], _, _, ρ, σ, Qd, Q, _, _, R, .nil, hd, hq => ⟨rfl, hq ρ σ hd R rfl rfl⟩
  | i :: is, _, _, ρ, σ, Qd, Q, hv, hno, R, .cons (v := v) (d := d) h t, hd, hq => by
    refine ⟨_, _, rfl, ?_⟩
    have hi := hv i List.mem_cons_self
    have o1 : own (ρ.set i (.im d)) = own ρ := own_set_no (hno i hi) rfl
    exact nms_okW (fun j hj => hv j (List.mem_cons_of_mem _ hj)) (fun j hj x e => by
      rcases set_get e with ⟨_, rfl⟩ | ⟨_, e⟩
      · rfl
      · exact hno j hj x e) (R.put (i := i) (x := .im d) rfl ⟨v, rfl, h⟩) (t.bad fun a z => bad_set rfl z) hd fun ρ' σ' q R' ho hw => hq ρ' σ' q R' (ho.trans o1) (hw.trans (wipe_set hi))
  | [], _, _, _, _, _, _, _, _, _, .cons _ _, hd, _ => hd.elim
  | _ :: _, _, _, _, _, _, _, _, _, _, .nil, hd, _ => hd.elim
theorem gok_tup {is : List Nat} {vs : List Nat} {n : Nat} (hn : is.length = n) (h : ∀ i ∈ is, i ∈ vs) : GOk Z (gTup K n (tNms is)) (gT is) vs := fun B0 H0 ρ s σ H v d Qd Q hno R im hd hq => by
  unfold gT at hd
  split at hd
  · rename_i ds
    cases im with
    | tup e q => exact ⟨_, _, rfl, SqT.of e, by rw [q.length, gNs_len hd, hn], nms_okW h hno R q hd hq⟩
    | ftp e q => exact ⟨_, _, rfl, .inl (.inr ⟨_, e⟩), by rw [q.length, gNs_len hd, hn], nms_okW h hno R q hd hq⟩
  · exact hd.elim
def lcR (g : DG Z) (tt : DT Z) (te : DX Z) (ρ : List Sl) : List PyData → Z.S → List PyData → (List PyData → Z.S → Prop) → Prop
  | [], s, acc, Q => Q acc s
  | d :: ds, s, acc, Q => g d ρ fun ρ' => tt s ρ' fun b s1 => if b = true then te s1 ρ' fun r s2 => ∃ x, r.st = some x ∧ acc.length < 1000000 ∧ lcR g tt te ρ ds s2 (acc ++ [x]) Q else lcR g tt te ρ ds s1 acc Q
def dLc (wi : DI Z) (g : DG Z) (tt : DT Z) (te : DX Z) (vs : List Nat) : DX Z := fun s ρ Q => own (wipeS ρ vs) = own ρ ∧ wi s ρ fun items _ s1 => lcR g tt te (wipeS ρ vs) items s1 [] fun l s' => Q (.fr l) s'
theorem lift_lc {wi : DI Z} {g : DG Z} {gr : TG} {tt : DT Z} {te : DX Z} {vs : List Nat} (hg : GOk Z gr g vs) {σ : L2.St} {H : Hp} {Q : VK} (h : liftE Z (dLc wi g tt te vs) σ H Q) : tLc (liftI Z wi) gr (liftT Z tt) (liftE Z te) vs σ H Q := by
  obtain ⟨B0, H0, ρ, s, Qd, R, ⟨hw0, hd⟩, hq⟩ := h
  refine ⟨B0, H0, ρ, s, _, R, hd, fun items fz s1 J H1 q R1 g1 ok D hD => ?_⟩
  have nz : ¬ Z.at_ D := fun z => Z.trk R1.ok z hD
  have h0D : H0 D = none := R1.h0 hD
  have nB : ∀ a, Bad Z B0 ρ a → a ≠ D := fun a ha z => R1.bad ha (by rw [z]; exact hD)
  let BD : Addr → Prop := fun a => B0 a ∨ a = D
  have bdB : ∀ a, Bad Z BD (wipeS ρ vs) a → Bad Z B0 ρ a ∨ a = D := fun a z => by
    rcases z with z | z | z
    · exact .inl (.inl z)
    · exact z.imp (fun z => .inr (.inl z)) id
    · exact .inl (.inr (.inr (own_wipe z)))
  refine ⟨fun i m H' => m = items.length - i ∧ i ≤ items.length ∧ ∃ s' acc xs, lcR g tt te (wipeS ρ vs) (items.drop i) s' acc (fun l s' => Qd (.fr l) s') ∧ Rel Z BD H0 (wipeS ρ vs) s' (L2.wipe σ vs) H' ∧ Gr Z H1 H' ∧ H' D = some (.lst xs) ∧ ImAll (Bad Z BD ρ) H' xs acc, ?_, ?_⟩
  · refine ⟨items.length, by simp, Nat.zero_le _, s1, [], [], q, ?_, Gr.of (same_new hD), upd_same, .nil⟩
    exact ((R1.more (Z.st R1.ok (fun a o _ e => same_new hD a o e) (fun b _ e => same_new hD b _ e) (fun b _ _ e => same_new hD b _ e)) (Gr.of (same_new hD)) hD (by rw [upd_same]; exact fun z => nomatch z)).wipe vs)
  · rintro i m H' ⟨rfl, hi, s', acc, xs, q, R', g', hD', im'⟩
    have k2 : ∀ b o, H1 b = some o → ¬ Bad Z B0 ρ b → H' b = some o ∧ ¬ Bad Z BD (wipeS ρ vs) b := fun b o e n => ⟨g' b o e fun z => n (.inl z), fun z => (bdB b z).elim n fun z => by rw [z, hD] at e; cases e⟩
    obtain ⟨go, yl, stop⟩ := ok H' (Bad Z BD (wipeS ρ vs)) (fun b o e n => g' b o e fun z => by cases fz with
      | true => exact n (.inl z)
      | false => exact n z) k2 (fun b ys e => g' b _ e (Zn.ntup R1.ok e)) (fun b o u e => g' b _ e (Zn.nfrz R1.ok e))
    by_cases hlt : i < items.length
    · refine .inr ⟨go i hlt, fun G => (i + 1 ≤ items.length) ∧ ∃ s' acc xs, lcR g tt te (wipeS ρ vs) (items.drop (i + 1)) s' acc (fun l s' => Qd (.fr l) s') ∧ Rel Z BD H0 (wipeS ρ vs) s' (L2.wipe σ vs) G ∧ Gr Z H1 G ∧ G D = some (.lst xs) ∧ ImAll (Bad Z BD ρ) G xs acc, fun G h => ⟨items.length - (i + 1), by omega, rfl, h⟩, fun x H2 hy => ?_⟩
      obtain ⟨sm, im⟩ := yl i items[i] x H2 (List.getElem?_eq_getElem hlt) hy
      rw [List.drop_eq_getElem_cons hlt] at q
      have R2 := R'.same sm
      have g2 : Gr Z H1 H2 := g'.trans (Gr.of sm)
      have hD2 := sm _ _ hD'
      have im2 := im'.same sm
      refine hg BD H0 _ s' _ H2 x items[i] _ _ (fun j hj z e => by rcases wipeS_at e with ⟨_, rfl⟩ | ⟨h1, _⟩; rfl; exact absurd hj h1) R2 im q fun ρ3 σ3 q3 R3 ho hw => ?_
      refine ⟨hw.trans wipe_wipe, BD, H0, ρ3, s', _, R3, q3, fun b s4 H4 q4 R4 g4 => ?_⟩
      have R4w : Rel Z BD H0 (wipeS ρ vs) s4 (L2.wipe σ vs) H4 := R2.grow R4.ok g4
      have im4 : ImAll (Bad Z BD ρ) H4 xs acc := im2.grow badZ R2.ok g4
      cases b with
      | false => exact ⟨hlt, s4, acc, xs, q4, R4w, g2.trans g4, g4 D _ hD2 nz, im4⟩
      | true =>
        refine ⟨BD, H0, ρ3, s4, _, R4, q4, fun r s5 w H5 q5 R5 g5 r5 => ?_⟩
        obtain ⟨xd, e5, l5, q5⟩ := q5
        have iw := RvR.st R4 r5 e5
        have im5 : ImAll (Bad Z BD ρ) H5 xs acc := im4.grow badZ R4.ok g5
        have hD5 := g5 D _ (g4 D _ hD2 nz) nz
        have R5w : Rel Z BD H0 (wipeS ρ vs) s5 (L2.wipe σ vs) H5 := R4w.grow R5.ok g5
        refine ⟨xs, hD5, by rw [im5.length]; exact smL l5, hlt, s5, acc ++ [xd], xs ++ [w], q5, R5w.updB (.inr rfl) nz h0D hD5, fun b o e n => ?_, upd_same, ?_⟩
        · rw [upd_ne (fun z => by rw [z, hD] at e; cases e)]
          exact g5 b o (g4 b o (g2 b o e n) n) n
        · have step : ∀ {v : V} {d : PyData}, Im (Bad Z BD ρ) H5 v d → Im (Bad Z BD ρ) (upd H5 D (.lst (xs ++ [w]))) v d := fun h => h.mono (fun b o e n => ⟨by rw [upd_ne (fun z => n (by rw [z]; exact .inr (.inl (.inr rfl))))]; exact e, n⟩) (fun b zs e => by rw [upd_ne (fun z => by rw [z, hD5] at e; cases e)]; exact e) (fun b o u e => by rw [upd_ne (fun z => by rw [z, hD5] at e; cases e)]; exact e)
          have steps : ImAll (Bad Z BD ρ) (upd H5 D (.lst (xs ++ [w]))) xs acc := im5.mono (fun b o e n => ⟨by rw [upd_ne (fun z => n (by rw [z]; exact .inr (.inl (.inr rfl))))]; exact e, n⟩) (fun b zs e => by rw [upd_ne (fun z => by rw [z, hD5] at e; cases e)]; exact e) (fun b o u e => by rw [upd_ne (fun z => by rw [z, hD5] at e; cases e)]; exact e)
          refine steps.snoc (step (iw.bad fun a z => ?_))
          unfold Bad at z ⊢
          rw [ho, hw0]
          exact z
    · have e : i = items.length := by omega
      subst e
      rw [List.drop_length] at q
      refine .inl ⟨stop, hq _ s' _ H' q (R1.grow R'.ok g') (g1.trans g') ⟨D, xs, rfl, none_back R1.ok g1 hD, nz, hD', im'.bad fun a z => ?_⟩⟩
      rcases z with (z | z | z) | z
      · exact .inl z
      · exact .inr (.inl (.inl z))
      · exact .inr (.inr z)
      · exact .inr (.inl (.inr z))
abbrev DPTs (Z : Zn) (X : Cx) (ifs : List Expr) (d : DT Z) : Prop := PTs X ifs (liftT Z d)
def dYes : DT Z := fun s _ Q => Q true s
theorem dp_nil : DPTs Z X [] dYes := ⟨fun pins s σ H Q I ⟨B0, H0, ρ, s1, Qd, R, hd, hq⟩ => pts_nil.run pins s σ H Q I (hq true s1 H hd R Gr.refl)⟩
theorem dp_one (h : DTs Z X c dt) : DPTs Z X [c] dt := pts_one h
theorem de_lc {elt iter : Expr} {ifs : List Expr} {scope : Scope} {ow : List (Str × Nat)} {wi : DI Z} {g : DG Z} {gr : TG} {tt : DT Z} {te : DX Z} (hgo : GOk Z gr g (ow.map (·.2))) (hc : X.calm = true) (hN : X.N.Nodup) (hi : DIs Z X tg iter wi) (ok : BlkOk X.N X.env.scope scope ow)
    (hg : ∀ (s : Shared) (H : Hp) (C : Addr) (cl : List (Str × Addr)) (fp : List Addr), PG (X.blk s H scope (compEnvC scope cl C X.env) fp) tg gr) (ht : ∀ (s : Shared) (H : Hp) (C : Addr) (cl : List (Str × Addr)) (fp : List Addr), DPTs Z (X.blk s H scope (compEnvC scope cl C X.env) fp) ifs tt)
    (he : ∀ (s : Shared) (H : Hp) (C : Addr) (cl : List (Str × Addr)) (fp : List Addr), DE Z (X.blk s H scope (compEnvC scope cl C X.env) fp) elt te) (hs : ∀ x, foldedSetIterable iter X.env x = pure x := by intro _; rfl) :
    DE Z X (.ListComp elt [⟨tg, iter, ifs, 0⟩] scope pos) (dLc wi g tt te (ow.map (·.2))) := PE.of (pe_lc hc hN hi ok hg ht he hs) fun σ H Q h => lift_lc hgo h
theorem ds_setLc {i : Nat} {n : Str} {py spos : Pos} {elt iter : Expr} {ifs : List Expr} {scope : Scope} {ow : List (Str × Nat)} {wi : DI Z} {g : DG Z} {gr : TG} {tt : DT Z} {te : DX Z} (hgo : GOk Z gr g (ow.map (·.2))) (hc : X.calm = true) (hN : X.N.Nodup) (hy : X.N[i]? = some n) (hyl : X.env.scope.names.lookup n = some .local)
    (hsw : swapsWith (.ListComp elt [⟨tg, iter, ifs, 0⟩] scope pos) (some (.Name n py)) spos.line X.env = pure true) (hi : DIs Z X tg iter wi) (ok : BlkOk X.N X.env.scope scope ow)
    (hg : ∀ (s : Shared) (H : Hp) (C : Addr) (cl : List (Str × Addr)) (fp : List Addr), PG (X.blk s H scope (compEnvC scope cl C X.env) fp) tg gr) (ht : ∀ (s : Shared) (H : Hp) (C : Addr) (cl : List (Str × Addr)) (fp : List Addr), DPTs Z (X.blk s H scope (compEnvC scope cl C X.env) fp) ifs tt)
    (he : ∀ (s : Shared) (H : Hp) (C : Addr) (cl : List (Str × Addr)) (fp : List Addr), DE Z (X.blk s H scope (compEnvC scope cl C X.env) fp) elt te) (hs : ∀ x, foldedSetIterable iter X.env x = pure x := by intro _; rfl) :
    DS Z X (.Assign [.Name n py] (.ListComp elt [⟨tg, iter, ifs, 0⟩] scope pos) spos) (dSet i (dLc wi g tt te (ow.map (·.2)))) := PS.of (ps_setLc hc hN hy hyl hsw hi ok hg ht he hs) fun D σ H h => by
  have h2 := lift_set h
  exact lift_lc (Q := fun x H1 => gName i x σ H1 D.nx) hgo h2
end
end Lf
namespace Lf
open PySem PySem.Spec PyProof.Rows L2
/-! ### defs -/
def ArgR (B : Addr → Prop) (H : Hp) (v : V) : Sl → Prop
  | .im d => Im B H v d
  | .raw u => v = u
  | _ => False
inductive ArgRs (B : Addr → Prop) (H : Hp) : List V → List Sl → Prop
  | nil : ArgRs B H [] []
  | cons {v : V} {vs : List V} {x : Sl} {xs : List Sl} : ArgR B H v x → ArgRs B H vs xs → ArgRs B H (v :: vs) (x :: xs)
abbrev DF (Z : Zn) := Z.S → List Sl → (Rv → Z.S → Prop) → Prop
def spD (Z : Zn) (F : DF Z) : Sp := fun vs H Q _ => ∃ (B0 : Addr → Prop) (s : Z.S) (as : List Sl) (Qd : Rv → Z.S → Prop), Z.ok s H ∧ (∀ a, B0 a → H a ≠ none) ∧ ArgRs (Bad Z B0 []) H vs as ∧ F s as Qd ∧ ∀ r s' v H', Qd r s' → Z.ok s' H' → Gr Z H H' → RvR Z B0 [] H H' v r → Q v H'
section
variable {Z : Zn} {X : Cx} {B0 : Addr → Prop} {H0 H H1 H2 : Hp} {ρ ρ1 ρ2 : List Sl} {s s1 s2 : Z.S} {σ : L2.St} {v u : V} {r x y : Rv} {e a b c tg : Expr} {es rest : List Expr} {de da db dc : DX Z} {dt du : DT Z} {das : DA Z} {pos p : Pos} {K : PySem.W.Frag} {B : Addr → Prop}
theorem ArgRs.length : ∀ {vs : List V} {as : List Sl}, ArgRs B H vs as → vs.length = as.length
  | _, _, .nil => rfl
  | _, _, .cons _ q => congrArg (· + 1) q.length
theorem ArgRs.own : ∀ {vs : List V} {as : List Sl}, ArgRs B H vs as → ∀ {m : Nat}, Lf.own (as ++ List.replicate m .no) = []
  | _, _, .nil, 0 => rfl
  | _, _, .nil, m + 1 => by
    rw [List.nil_append, List.replicate_succ, own_cons]
    have := ArgRs.own (ArgRs.nil (B := B) (H := H)) (m := m)
    rw [List.nil_append] at this
    rw [this]
    rfl
  | _, _, .cons (x := x) h q, m => by
    rw [List.cons_append, own_cons, q.own]
    cases x with
    | im d => rfl
    | raw u => rfl
    | no => exact h.elim
    | ow _ _ => exact h.elim
    | od _ _ => exact h.elim
    | ot _ _ => exact h.elim
theorem ArgRs.get : ∀ {vs : List V} {as : List Sl} {i : Nat} {x : Sl}, ArgRs B H vs as → as[i]? = some x → ∃ v, vs[i]? = some v ∧ ArgR B H v x
  | _, _, 0, _, .cons h q, e => by cases e; exact ⟨_, rfl, h⟩
  | _, _, i + 1, _, .cons h q, e => q.get (i := i) e
  | _, _, 0, _, .nil, e => by cases e
  | _, _, _ + 1, _, .nil, e => by cases e
theorem rel_start {N : List Str} {vs : List V} {as : List Sl} (ok : Z.ok s H) (hB : ∀ a, B0 a → H a ≠ none) (h : ArgRs (Bad Z B0 []) H vs as) (hl : vs.length ≤ N.length) : Rel Z B0 H (as ++ List.replicate (N.length - as.length) .no) s (L2.start N vs) H := by
  have eo : own (as ++ List.replicate (N.length - as.length) .no) = [] := h.own
  have el := h.length
  refine ⟨ok, ?_, fun i x e => ?_, (by rw [eo]; exact List.nodup_nil), (fun a ha => by rw [eo] at ha; exact absurd ha List.not_mem_nil), hB, fun b o e _ => e⟩
  · unfold L2.start
    simp only [List.length_append, List.length_map, List.length_replicate]
    omega
  · have hb : ∀ a, Bad Z B0 (as ++ List.replicate (N.length - as.length) .no) a → Bad Z B0 [] a := fun a z => by unfold Bad at z ⊢; rw [eo] at z; exact z
    unfold L2.start
    rcases Nat.lt_or_ge i as.length with hi | hi
    · rw [List.getElem?_append_left hi] at e
      obtain ⟨v, hv, ha⟩ := h.get e
      refine ⟨some v, by rw [List.getElem?_append_left (by rw [List.length_map]; omega), List.getElem?_map, hv]; rfl, ?_⟩
      cases x with
      | im d => exact ⟨v, rfl, Im.bad hb ha⟩
      | raw u => cases (show v = u from ha); rfl
      | no => trivial
      | ow _ _ => exact ha.elim
      | od _ _ => exact ha.elim
      | ot _ _ => exact ha.elim
    · rw [List.getElem?_append_right hi] at e
      have hm := List.getElem?_eq_some_iff.mp e
      have hx : x = .no := by rw [← hm.2]; exact List.getElem_replicate ..
      subst hx
      have hlt : i - as.length < N.length - as.length := by have := hm.1; rw [List.length_replicate] at this; exact this
      refine ⟨none, ?_, trivial⟩
      rw [List.getElem?_append_right (by rw [List.length_map]; omega), List.length_map, List.getElem?_replicate, if_pos (by omega)]
/-- the ends of a def -/
def ends (Qd : Rv → Z.S → Prop) : DEnds Z := { nx := fun s' _ => Qd (.im .none) s', rt := Qd }
theorem body_ok {N : List Str} {d : DSt Z} {F : DF Z} {vs : List V} {Q : VK} {E : XK} (hl : vs.length ≤ N.length) (hd : ∀ s as Qd, F s as Qd → d (ends Qd) s (as ++ List.replicate (N.length - as.length) .no)) (h : spD Z F vs H Q E) : liftS Z d { nx := fun _ H' => Q .non H', rt := Q } (L2.start N vs) H := by
  obtain ⟨B0, s, as, Qd, ok, hB, ha, hf, hq⟩ := h
  refine ⟨B0, H, _, s, ends Qd, rel_start ok hB ha hl, hd s as Qd hf, fun s' ρ' σ' H' q R' st => ?_, fun _ _ _ _ q => q.elim, fun _ _ _ _ q => q.elim, fun r s' v H' q ok' g' rr => hq r s' v H' q ok' g' rr⟩
  exact hq _ s' .non H' q R'.ok R'.frm Im.non
end
section
variable {P : Program} {w : World} {K : PySem.W.Frag} {mg : Str → Option Value} {base : Heap} {Z : Zn}
theorem def_ok {nm : Str} {st : Stmt} {N ps : List Str} {k : Nat} {F : DF Z} {d : DSt Z} (M : Mk K mg nm st ps) (Sc : FnScope N ps (defScope st)) (hl : ps.length ≤ N.length) (len : ∀ s as Qd, F s as Qd → as.length = ps.length)
    (body : ∀ (f : Addr) (cdv : Value) (A : Around) (outer : List Env) (s : Shared) (H : Hp) (E : XK), Room k (A.deeper (envOfC nm (defScope st) s.heap.objs.size f cdv)) → DSs Z (cxOf CX0 P w K mg base N nm (defScope st) f cdv A outer s H E).nox (defBody st) d)
    (hd : ∀ s as Qd, F s as Qd → d (ends Qd) s (as ++ List.replicate (N.length - as.length) .no)) : Df P w K mg base CX0 (k + 1) nm ps (spD Z F) := by
  obtain ⟨f, fd, Fn, b, g⟩ := M
  have hlen : ∀ vs H Q E, spD Z F vs H Q E → vs.length = ps.length := fun vs H Q E ⟨B0, s, as, Qd, _, _, ha, hf, _⟩ => by rw [ha.length, len s as Qd hf]
  refine Df.of Fn b g (Fn.ok Sc hlen fun cdv A outer s H vs Q E hr h => ⟨_, body f cdv A outer s H E hr, body_ok ?_ hd h⟩)
  rw [hlen vs H Q E h]
  exact hl
theorem def_okG {nm : Str} {st : Stmt} {N ps : List Str} {k : Nat} {F : DF Z} {d : DSt Z} (M : Mk K mg nm st ps) (Sc : FnScope N ps (defScope st)) (hl : ps.length ≤ N.length) (len : ∀ s as Qd, F s as Qd → as.length = ps.length)
    (body : ∀ (f : Addr) (cdv : Value) (A : Around) (outer : List Env) (s : Shared) (H : Hp) (E : XK), A.guards = some [] → Room k (A.deeper (envOfC nm (defScope st) s.heap.objs.size f cdv)) → DSs Z (cxOf CX0 P w K mg base N nm (defScope st) f cdv A outer s H E).nox (defBody st) d)
    (hd : ∀ s as Qd, F s as Qd → d (ends Qd) s (as ++ List.replicate (N.length - as.length) .no)) : DfG P w K mg base (k + 1) nm ps (spD Z F) := by
  obtain ⟨f, fd, Fn, b, g⟩ := M
  have hlen : ∀ vs H Q E, spD Z F vs H Q E → vs.length = ps.length := fun vs H Q E ⟨B0, s, as, Qd, _, _, ha, hf, _⟩ => by rw [ha.length, len s as Qd hf]
  refine ⟨f, fd, runG_of Fn Sc hlen fun cdv A outer s H vs Q E hgu hr h => ⟨_, body f cdv A outer s H E hgu hr, body_ok ?_ hd h⟩, b, g, Fn.kp, hlen⟩
  rw [hlen vs H Q E h]
  exact hl
theorem Df.imp {CX : CXT} {k : Nat} {x : Str} {ps : List Str} {sp sp' : Sp} (D : Df P w K mg base CX k x ps sp) (h : ∀ vs H Q E, sp' vs H Q E → sp vs H Q E) : Df P w K mg base CX k x ps sp' := by
  obtain ⟨f, fd, F, b, g, kp⟩ := D
  exact ⟨f, fd, F.imp h, b, g, kp⟩
end
/-! ### calls -/
def argOf : Rv → Sl
  | .im d => .im d
  | .bo l => .im (.list l)
  | .fr l => .im (.list l)
  | .rw v => .raw v
def isBo : Rv → Bool
  | .bo _ => true
  | _ => false
def cleanR : Rv → Bool
  | .im d => noL d
  | .fr l => noLs l
  | .rw _ => true
  | .bo _ => false
def okR (rs : List Rv) (r : Rv) : Prop := rs.any isBo = false ∨ cleanR r = true
section
variable {Z : Zn} {X : Cx} {B0 : Addr → Prop} {H0 H H1 H2 : Hp} {ρ ρ1 ρ2 : List Sl} {s s1 s2 : Z.S} {σ : L2.St} {v u : V} {r x y : Rv} {e a b c tg : Expr} {es rest : List Expr} {de da db dc : DX Z} {dt du : DT Z} {das : DA Z} {pos p : Pos} {K : PySem.W.Frag} {B : Addr → Prop}
theorem args_st (R : Rel Z B0 H0 ρ s σ H) {B1 : Addr → Prop} (hB : ∀ a, B1 a → Bad Z B0 ρ a) : ∀ {vs : List V} {rs : List Rv}, RvRs Z B0 ρ H H1 vs rs → rs.any isBo = false → ArgRs B1 H1 vs (rs.map argOf)
  | _, _, .nil, _ => .nil
  | _, _, .cons (r := r) h q, hb => by
    rw [List.any_cons, Bool.or_eq_false_iff] at hb
    refine .cons ?_ (args_st R hB q hb.2)
    cases r with
    | im d => exact Im.bad hB h
    | rw w => exact h
    | fr l => exact Im.bad hB (RvR.st (r := .fr l) R h rfl)
    | bo l => cases hb.1
theorem args_rd (R : Rel Z B0 H0 ρ s σ H) {B1 : Addr → Prop} (hB : ∀ a, B1 a → Z.at_ a ∨ B0 a) : ∀ {vs : List V} {rs : List Rv}, RvRs Z B0 ρ H H1 vs rs → ArgRs B1 H1 vs (rs.map argOf)
  | _, _, .nil => .nil
  | _, _, .cons (r := r) h q => by
    have hB' : ∀ a, B1 a → Bad Z B0 ρ a := fun a z => (hB a z).imp id fun z => .inl z
    refine .cons ?_ (args_rd R hB q)
    cases r with
    | im d => exact Im.bad hB' h
    | rw w => exact h
    | fr l => exact Im.bad hB' (RvR.st (r := .fr l) R h rfl)
    | bo l =>
      obtain ⟨a, xs, h1, rfl, h3, h4⟩ := h
      exact .lst h3 (fun z => (hB a z).elim (R.fr a h1).2.1 (R.fr a h1).2.2) (h4.bad hB')
/-- from a call's result to ours -/
theorem res_ok {Z1 : Zn} {B1 : Addr → Prop} (hz : ∀ a, Bad Z B0 ρ a → Bad Z1 B1 [] a ∨ True) (hB : ∀ a, Bad Z B0 ρ a → Bad Z1 B1 [] a) (hzn : ∀ p, H1 p = none → ¬ Z.at_ p) (h : RvR Z1 B1 [] H1 H2 v r) : RvR Z B0 ρ H1 H2 v r := by
  cases r with
  | im d => exact Im.bad hB h
  | rw w => exact h
  | fr l =>
    obtain ⟨p, xs, rfl, h1, h2, h3, h4⟩ := h
    exact ⟨p, xs, rfl, h1, hzn p h1, h3, h4.bad fun a z => z.imp (hB a) id⟩
  | bo l =>
    obtain ⟨a, xs, h1, _⟩ := h
    cases h1
theorem res_clean {Z1 : Zn} {B1 : Addr → Prop} (hzn : ∀ p, H1 p = none → ¬ Z.at_ p) (hc : cleanR r = true) (h : RvR Z1 B1 [] H1 H2 v r) : RvR Z B0 ρ H1 H2 v r := by
  cases r with
  | im d => exact Im.free hc h
  | rw w => exact h
  | fr l =>
    obtain ⟨p, xs, rfl, h1, h2, h3, h4⟩ := h
    exact ⟨p, xs, rfl, h1, hzn p h1, h3, ImAll.free hc h4⟩
  | bo l => cases hc
/-- a call in the same zone -/
def dCall (F : DF Z) (da : DA Z) : DX Z := fun s ρ Q => da s ρ fun rs s1 => F s1 (rs.map argOf) fun r s2 => okR rs r ∧ Q r s2
/-- a call of a def that knows no zone -/
def dCallP (F : DF Z0) (da : DA Z) : DX Z := fun s ρ Q => da s ρ fun rs s1 => F () (rs.map argOf) fun r _ => okR rs r ∧ Q r s1
theorem app0 {sp : Sp} {vs : List V} {Q : VK} {E : XK} (h : sp vs H Q E) : sp (vs ++ []) H Q E := by rw [List.append_nil]; exact h
theorem lift_call {F : DF Z} {E : XK} {σ : L2.St} {H : Hp} {Q : VK} (h : liftE Z (dCall F das) σ H Q) : tCall (spD Z F) [] E (liftA Z das) σ H Q := by
  obtain ⟨B0, H0, ρ, s, Qd, R, hd, hq⟩ := h
  refine ⟨B0, H0, ρ, s, _, R, hd, fun rs s1 vs H1 qx R1 g1 r1 => app0 ?_⟩
  have hzn : ∀ p, H1 p = none → ¬ Z.at_ p := fun p hp z => Z.trk R1.ok z hp
  cases hb : rs.any isBo with
  | false =>
    have eB : ∀ a, Bad Z (fun a => B0 a ∨ a ∈ own ρ) [] a ↔ Bad Z B0 ρ a := fun a => ⟨fun z => z.imp id fun z => z.elim id (fun z => absurd z List.not_mem_nil), fun z => z.imp id fun z => .inl z⟩
    refine ⟨fun a => B0 a ∨ a ∈ own ρ, s1, _, _, R1.ok, fun a ha => ha.elim (R1.btr a) fun z => R1.otr z, args_st R (fun a z => (eB a).mp z) r1 hb, qx, fun r s2 v H2 q ok2 g2 rr => ?_⟩
    have rr2 : RvR Z B0 ρ H1 H2 v r := res_ok (fun _ _ => .inr trivial) (fun a z => (eB a).mpr z) hzn rr
    exact hq r s2 v H2 q.2 (R1.grow ok2 g2) (g1.trans g2) (rr2.back R1.ok g1)
  | true =>
    refine ⟨B0, s1, _, _, R1.ok, R1.btr, args_rd R (fun a z => z.imp id fun z => z.elim id fun z => by cases z) r1, qx, fun r s2 v H2 q ok2 g2 rr => ?_⟩
    have hc : cleanR r = true := q.1.elim (fun z => by rw [hb] at z; cases z) id
    have rr2 : RvR Z B0 ρ H1 H2 v r := res_clean hzn hc rr
    exact hq r s2 v H2 q.2 (R1.grow ok2 g2) (g1.trans g2) (rr2.back R1.ok g1)
theorem lift_callP {F : DF Z0} {E : XK} {σ : L2.St} {H : Hp} {Q : VK} (h : liftE Z (dCallP F das) σ H Q) : tCall (spD Z0 F) [] E (liftA Z das) σ H Q := by
  obtain ⟨B0, H0, ρ, s, Qd, R, hd, hq⟩ := h
  refine ⟨B0, H0, ρ, s, _, R, hd, fun rs s1 vs H1 qx R1 g1 r1 => app0 ?_⟩
  have hzn : ∀ p, H1 p = none → ¬ Z.at_ p := fun p hp z => Z.trk R1.ok z hp
  have same : ∀ {H2 : Hp}, Gr Z0 H1 H2 → Same H1 H2 := fun g b o e => g b o e id
  cases hb : rs.any isBo with
  | false =>
    have eB : ∀ a, Bad Z0 (fun a => Bad Z B0 ρ a) [] a ↔ Bad Z B0 ρ a := fun a => ⟨fun z => z.elim (fun z => z.elim) fun z => z.elim id (fun z => absurd z List.not_mem_nil), fun z => .inr (.inl z)⟩
    refine ⟨fun a => Bad Z B0 ρ a, (), _, _, trivial, fun a ha => R1.bad ha, args_st R (fun a z => (eB a).mp z) r1 hb, qx, fun r s2 v H2 q ok2 g2 rr => ?_⟩
    have rr2 : RvR Z B0 ρ H1 H2 v r := res_ok (fun _ _ => .inr trivial) (fun a z => (eB a).mpr z) hzn rr
    exact hq r s1 v H2 q.2 (R1.same (same g2)) (g1.trans (Gr.of (same g2))) (rr2.back R1.ok g1)
  | true =>
    refine ⟨fun a => Z.at_ a ∨ B0 a, (), _, _, trivial, fun a ha => ha.elim (fun z => Z.trk R1.ok z) (R1.btr a), args_rd R (fun a z => z.elim (fun z => z.elim) fun z => z.elim id fun z => by cases z) r1, qx, fun r s2 v H2 q ok2 g2 rr => ?_⟩
    have hc : cleanR r = true := q.1.elim (fun z => by rw [hb] at z; cases z) id
    have rr2 : RvR Z B0 ρ H1 H2 v r := res_clean hzn hc rr
    exact hq r s1 v H2 q.2 (R1.same (same g2)) (g1.trans (Gr.of (same g2))) (rr2.back R1.ok g1)
variable {k j : Nat} {ps : List Str} {n : Str} {CX : CXT}
theorem de_call {F : DF Z} {E : XK} (D : Df X.prog X.w X.K X.mg X.base CX k n ps (spD Z F)) (hx : Passes CX X E) (hr : Room j X.A) (ha : DAs Z X (e :: es) das) (hj : k ≤ j := by decide) (hg : Gl X n := by rfl)
    (hdb : (n == ("__debug__" : Str)) = false := by decide) (he : starEach (e :: es) X.env = (false, eval e X.env) :: starEach es X.env := by rfl) (hpl : (backTo pos (starEach es X.env)).any (·.1) = false := by rfl) : DE Z X (.Call (.Name n p) (e :: es) [] pos) (dCall F das) :=
  PE.of (pe_dD D hx hr ha hj hg hdb he hpl) fun σ H Q h => lift_call h
theorem de_callP {F : DF Z0} {E : XK} (D : Df X.prog X.w X.K X.mg X.base CX k n ps (spD Z0 F)) (hx : Passes CX X E) (hr : Room j X.A) (ha : DAs Z X (e :: es) das) (hj : k ≤ j := by decide) (hg : Gl X n := by rfl)
    (hdb : (n == ("__debug__" : Str)) = false := by decide) (he : starEach (e :: es) X.env = (false, eval e X.env) :: starEach es X.env := by rfl) (hpl : (backTo pos (starEach es X.env)).any (·.1) = false := by rfl) : DE Z X (.Call (.Name n p) (e :: es) [] pos) (dCallP F das) :=
  PE.of (pe_dD D hx hr ha hj hg hdb he hpl) fun σ H Q h => lift_callP h
theorem de_callG {F : DF Z} (D : DfG X.prog X.w X.K X.mg X.base k n ps (spD Z F)) (hgu : X.A.guards = some []) (hr : Room j X.A) (ha : DAs Z X (e :: es) das) (hj : k ≤ j := by decide) (hg : Gl X n := by rfl)
    (hdb : (n == ("__debug__" : Str)) = false := by decide) (he : starEach (e :: es) X.env = (false, eval e X.env) :: starEach es X.env := by rfl) (hpl : (backTo pos (starEach es X.env)).any (·.1) = false := by rfl) : DE Z X (.Call (.Name n p) (e :: es) [] pos) (dCall F das) :=
  PE.of (pe_dG D hgu hr ha hj hg hdb he hpl) fun σ H Q h => lift_call h
theorem de_callGP {F : DF Z0} (D : DfG X.prog X.w X.K X.mg X.base k n ps (spD Z0 F)) (hgu : X.A.guards = some []) (hr : Room j X.A) (ha : DAs Z X (e :: es) das) (hj : k ≤ j := by decide) (hg : Gl X n := by rfl)
    (hdb : (n == ("__debug__" : Str)) = false := by decide) (he : starEach (e :: es) X.env = (false, eval e X.env) :: starEach es X.env := by rfl) (hpl : (backTo pos (starEach es X.env)).any (·.1) = false := by rfl) : DE Z X (.Call (.Name n p) (e :: es) [] pos) (dCallP F das) :=
  PE.of (pe_dG D hgu hr ha hj hg hdb he hpl) fun σ H Q h => lift_callP h
/-! ### repr -/
def opRepr : Cb := fun rs Q => match rs with
  | [x] => match x.D with
    | some d => d.showable = true ∧ d.depth ≤ 100 ∧ d.shown.length ≤ sizeLine ∧ Q (.im (.str d.shown))
    | _ => False
  | _ => False
theorem de_repr (sys : ∃ o, X.base.get? sysModules = some o) (hgu : X.A.guards = some []) (hu : X.A.units + 200 < cLine) (hg : Gl X "repr") (hm : X.mg "repr" = none) (ha : DAs Z X (e :: es) das) (he : starEach (e :: es) X.env = (false, eval e X.env) :: starEach es X.env := by rfl) (hpl : (backTo pos (starEach es X.env)).any (·.1) = false := by rfl) : DE Z X (.Call (.Name "repr" p) (e :: es) [] pos) (dCB opRepr das) := by
  refine PE.of (pe_callB (call_reprA sys hgu hu) hg hm (by decide +kernel) ha (by decide) (by decide) he hpl) fun σ H Q h => lift_cb ?_ h
  intro Z B0 ρ s H0 σ Ha H vs xs Qd Q R rr q k
  unfold opRepr at q
  split at q
  · obtain ⟨v, rfl, r1⟩ := rr.one
    split at q
    · rename_i d e1
      exact ⟨v, d, rfl, (r1.rd e1).rp, q.1, q.2.1, q.2.2.1, k _ _ _ q.2.2.2 (Same.refl H) (Im.str _)⟩
    · exact q.elim
  · exact q.elim
/-! ### list(range(..)), tuple(range(..)) -/
theorem rgV_im {lo hi : Int} : ImAll B H (rgV lo hi) (rngD lo (hi - lo).toNat) := by
  unfold rgV rngD
  have h : ∀ l : List Nat, ImAll B H (l.map fun k => V.int (lo + (k : Nat))) (l.map fun k => PyData.int (lo + (k : Nat))) := fun l => by
    induction l with
    | nil => exact .nil
    | cons x l ih => exact .cons (.int _) ih
  exact h _
def dRg1 (tup : Bool) (da : DX Z) : DX Z := fun s ρ Q => da s ρ fun x s1 => match x.D with
  | some (.int j) => j ≤ 1000000 ∧ -1000000 ≤ j ∧ Q (if tup then .im (.tuple (rngD 0 j.toNat)) else .fr (rngD 0 j.toNat)) s1
  | _ => False
def dRg2 (tup : Bool) (da db : DX Z) : DX Z := fun s ρ Q => da s ρ fun x s1 => db s1 ρ fun y s2 => match x.D, y.D with
  | some (.int i), some (.int j) => (i ≤ 1000000 ∧ -1000000 ≤ i) ∧ (j ≤ 1000000 ∧ -1000000 ≤ j) ∧ Q (if tup then .im (.tuple (rngD i (j - i).toNat)) else .fr (rngD i (j - i).toNat)) s2
  | _, _ => False
theorem rg1 {j : Int} : ImAll B H (rgV 0 j) (rngD 0 j.toNat) := by
  have := rgV_im (B := B) (H := H) (lo := 0) (hi := j)
  rw [Int.sub_zero] at this
  exact this
theorem de_listR1 {p2 pos2 : Pos} (hc : X.calm = true) (hg : Gl X "list") (hm : X.mg "list" = none) (hg2 : Gl X "range") (hm2 : X.mg "range" = none) (ha : DE Z X a da) (na2 : starEach [a] X.env = (false, eval a X.env) :: starEach [] X.env := by rfl) (na : starEach [.Call (.Name "range" p2) [a] [] pos2] X.env = (false, eval (.Call (.Name "range" p2) [a] [] pos2) X.env) :: starEach [] X.env := by rfl) :
    DE Z X (.Call (.Name "list" p) [.Call (.Name "range" p2) [a] [] pos2] [] pos) (dRg1 false da) := by
  refine PE.of (pe_listRg hc hg hm (prg_1 hg2 hm2 ha na2) na) fun σ H Q ⟨B0, H0, ρ, s, Qd, R, hd, hq⟩ => ?_
  refine ⟨B0, H0, ρ, s, _, R, hd, fun x s1 v H1 qx R1 g1 r1 => ?_⟩
  split at qx
  · rename_i j e1
    refine ⟨j, r1.vI e1, ⟨by omega, by omega, by omega, by omega, by omega⟩, fun q hq1 => hq _ s1 _ _ qx.2.2 (R1.same (same_new hq1)) (g1.trans (Gr.of (same_new hq1))) ((R1.newL hq1 rg1).back R1.ok g1)⟩
  · exact qx.elim
theorem de_tupR1 {p2 pos2 : Pos} (hc : X.calm = true) (hg : Gl X "tuple") (hm : X.mg "tuple" = none) (hg2 : Gl X "range") (hm2 : X.mg "range" = none) (ha : DE Z X a da) (na2 : starEach [a] X.env = (false, eval a X.env) :: starEach [] X.env := by rfl) (na : starEach [.Call (.Name "range" p2) [a] [] pos2] X.env = (false, eval (.Call (.Name "range" p2) [a] [] pos2) X.env) :: starEach [] X.env := by rfl) :
    DE Z X (.Call (.Name "tuple" p) [.Call (.Name "range" p2) [a] [] pos2] [] pos) (dRg1 true da) := by
  refine PE.of (pe_tupRg hc hg hm (prg_1 hg2 hm2 ha na2) na) fun σ H Q ⟨B0, H0, ρ, s, Qd, R, hd, hq⟩ => ?_
  refine ⟨B0, H0, ρ, s, _, R, hd, fun x s1 v H1 qx R1 g1 r1 => ?_⟩
  split at qx
  · rename_i j e1
    refine ⟨j, r1.vI e1, ⟨by omega, by omega, by omega, by omega, by omega⟩, fun q hq1 => hq _ s1 _ _ qx.2.2 (R1.same (same_new hq1)) (g1.trans (Gr.of (same_new hq1))) (newT hq1 rg1)⟩
  · exact qx.elim
theorem de_listR2 {p2 pos2 : Pos} (hc : X.calm = true) (hg : Gl X "list") (hm : X.mg "list" = none) (hg2 : Gl X "range") (hm2 : X.mg "range" = none) (ha : DE Z X a da) (hb : DE Z X b db) (na2 : starEach [a, b] X.env = (false, eval a X.env) :: starEach [b] X.env := by rfl) (nb : starEach [b] X.env = (false, eval b X.env) :: starEach [] X.env := by rfl) (hp : (backTo pos2 (starEach [b] X.env)).any (·.1) = false := by rfl) (na : starEach [.Call (.Name "range" p2) [a, b] [] pos2] X.env = (false, eval (.Call (.Name "range" p2) [a, b] [] pos2) X.env) :: starEach [] X.env := by rfl) :
    DE Z X (.Call (.Name "list" p) [.Call (.Name "range" p2) [a, b] [] pos2] [] pos) (dRg2 false da db) := by
  refine PE.of (pe_listRg hc hg hm (prg_2 hg2 hm2 ha hb na2 nb hp) na) fun σ H Q ⟨B0, H0, ρ, s, Qd, R, hd, hq⟩ => ?_
  refine ⟨B0, H0, ρ, s, _, R, hd, fun x s1 v H1 qx R1 g1 r1 => ?_⟩
  refine ⟨B0, H0, ρ, s1, _, R1, qx, fun y s2 u H2 qy R2 g2 r2 => ?_⟩
  have r1 := r1.grow R1 g2
  split at qy
  · rename_i i j e1 e2
    refine ⟨i, j, r1.vI e1, r2.vI e2, ⟨by omega, by omega, by omega, by omega, by omega⟩, fun q hq1 => hq _ s2 _ _ qy.2.2 (R2.same (same_new hq1)) (g1.trans (g2.trans (Gr.of (same_new hq1)))) ((R2.newL hq1 rgV_im).back R2.ok (g1.trans g2))⟩
  · exact qy.elim
end
end Lf
namespace Lf
open PySem PySem.Spec PyProof.Rows L2
section
variable {Z : Zn} {X : Cx} {B0 : Addr → Prop} {H0 H H1 H2 : Hp} {ρ ρ1 ρ2 : List Sl} {s s1 s2 : Z.S} {σ : L2.St} {v u : V} {r x y : Rv} {e a b c tg : Expr} {es rest : List Expr} {de da db dc : DX Z} {dt du : DT Z} {das : DA Z} {pos p : Pos} {K : PySem.W.Frag} {B : Addr → Prop}
theorem dv (i : Nat) {n : Str} {pos : Pos} (hN : X.N[i]? = some n := by rfl) (hv : Vis X.env.scope n := by first | exact Or.inl rfl | exact Or.inr (Or.inl rfl) | exact Or.inr (Or.inr rfl)) (hd : (n == ("__debug__" : Str)) = false := by decide)
    (hcd : (n == ("__classdict__" : Str)) = false := by decide) : DE Z X (.Name n pos) (dVar i) := de_var hN hv hd hcd
theorem hu65 {k : Nat} {A : Around} (hr : Room k A) : A.units + 65 < cLine := by have := hr.un; omega
theorem hu200 {k : Nat} {A : Around} (hr : Room k A) : A.units + 200 < cLine := by have := hr.un; omega
/-! ### enumerate of a list or a tuple -/
theorem pi_enumQ {elts : List Expr} {kk : Nat} {tpos : Pos} {ta : TA} (hg : Gl X "enumerate") (hm : X.mg "enumerate" = none) (ha : PA X [e] ta) (hs : starEach [e] X.env = [(false, eval e X.env)] := by rfl) :
    PI X (.Tuple elts kk tpos) (.Call (.Name "enumerate" p) [e] [] pos) (fun σ H R => ta σ H fun vs H1 => ∃ a xs, vs = [.ref a] ∧ ((SqL X.K H1 a xs ∧ R (Ite X.K a) H1) ∨ (SqT X.K H1 a xs ∧ R (ItT X.K a) H1))) := by
  refine ⟨fun pins s σ H R I h => ?_⟩
  refine Call_ (ld_blt I hg hm boot_enumerate (PyProof.Rows.callWith_type1 (thn (ha.run pos pins s σ H _ I h) ?_) hs rfl))
  rintro us s1 ⟨vs, H1, I1, r1, a, xs, rfl, q⟩
  obtain ⟨u, rfl, r⟩ := vals1 r1
  cases (show u = Value.ref a from r)
  rcases q with ⟨hq, q⟩ | ⟨hq, q⟩
  · obtain ⟨its, rv, p', hz⟩ := I1.list hq
    refine call_enumerate_list p'.isList fun h' he hit hsz hk => wpAny_pyIter_enum he ?_
    have I2 : Inv X pins σ H1 { s1 with heap := h' } := I1.kept (t' := s1.toks) hk
    refine ⟨s1.heap.objs.size + 1, [s1.heap.objs.size + 1, s1.heap.objs.size], _, _, H1, rfl, I2, turn_enum a (s1.heap.objs.size + 1) s1.heap.objs.size, ⟨⟨.none, he⟩, hit, Nat.succ_ne_self _⟩, fun b hb => ?_, q⟩
    have e' : b = s1.heap.objs.size + 1 ∨ b = s1.heap.objs.size := by simpa using hb
    have hle : s1.heap.objs.size ≤ b := by
      rcases e' with z | z
      · rw [z]; exact Nat.le_add_right _ _
      · rw [z]; exact Nat.le_refl _
    exact I1.fpOk hle (I1.hok.fresh hle)
  · obtain ⟨its, rv, tp, hz⟩ := I1.tuple hq
    have isT : s1.heap.IsTuple a its.toArray := by
      obtain ⟨o, ho, ht, n, hd⟩ := tp
      exact ⟨o, ho, ht, n, hd⟩
    have al : a < s1.heap.objs.size := by
      obtain ⟨o, ho, _⟩ := tp
      exact Heap.lt_size ho
    refine enumMade (begins_tuple a its.toArray) isT ?_
    intro h1 isE isI kept
    refine wpAny_pyIter_enum isE ?_
    have I2 : Inv X pins σ H1 { s1 with heap := h1 } := I1.kept (t' := s1.toks) kept
    refine ⟨s1.heap.objs.size + 1, [s1.heap.objs.size + 1, s1.heap.objs.size], _, _, H1, rfl, I2, turnT a (s1.heap.objs.size + 1) s1.heap.objs.size, ⟨⟨.none, isE⟩, ⟨_, isI, rfl, rfl⟩, Nat.succ_ne_self _, Nat.ne_of_lt al, Nat.ne_of_gt (Nat.lt_succ_of_lt al)⟩, fun b hb => ?_, q⟩
    have le : s1.heap.objs.size ≤ b := by
      rcases List.mem_cons.mp hb with rfl | hb
      · exact Nat.le_succ _
      · rw [List.mem_singleton.mp hb]
        exact Nat.le_refl _
    exact I1.fpOk le (I1.hok.fresh le)
theorem it_enumL {P Bd : Addr → Prop} {a : Addr} {xs : List V} {l : List PyData} (h : H a = some (.lst xs)) (ha : P a) (im : ImAll Bd H xs l) : ItOk P Bd (Ite K a) (enumD l) H := by
  intro Hk Bk k1 k2 k3 k4
  have h1 : SqL K Hk a xs := SqL.of (k1 a _ h ha)
  have im1 : ImAll Bk Hk xs l := im.mono k2 k3 k4
  refine ⟨fun i hi => ?_, fun i d x H' hd hy => ?_, ⟨xs, h1, by rw [enumD_len, im.length]; exact Nat.le_refl _⟩⟩
  · have hx : i < xs.length := by rw [im.length]; rw [enumD_len] at hi; exact hi
    exact ⟨xs, xs[i], h1, List.getElem?_eq_getElem hx⟩
  · obtain ⟨T, w, rfl, hT, rfl, hy⟩ := hy
    obtain ⟨z, hz, rfl⟩ := enumD_get hd
    obtain ⟨d', hd', iv⟩ := im1.gets (hy xs h1)
    rw [hz] at hd'
    cases hd'
    exact ⟨same_new hT, .tup upd_same (.cons (.int _) (.cons (iv.same (same_new hT)) .nil))⟩
def dIEnQ (da : DA Z) : DI Z := fun s ρ Q => da s ρ fun rs s1 => match rs with
  | [.im (.tuple l)] => Q (enumD l) true s1
  | [.im (.list l)] => Q (enumD l) true s1
  | [.fr l] => Q (enumD l) true s1
  | [.bo l] => Q (enumD l) false s1
  | _ => False
theorem di_enumQ {elts : List Expr} {kk : Nat} {tpos : Pos} (hg : Gl X "enumerate") (hm : X.mg "enumerate" = none) (ha : DAs Z X [e] das) (hs : starEach [e] X.env = [(false, eval e X.env)] := by rfl) : DIs Z X (.Tuple elts kk tpos) (.Call (.Name "enumerate" p) [e] [] pos) (dIEnQ das) := by
  refine PI.of (pi_enumQ hg hm ha hs) fun σ H R ⟨B0, H0, ρ, s, Qd, R0, hd, hq⟩ => ?_
  refine ⟨B0, H0, ρ, s, _, R0, hd, fun rs s1 vs H1 qx R1 g1 r1 => ?_⟩
  split at qx
  · rename_i l
    obtain ⟨w, rfl, r2⟩ := r1.one
    obtain ⟨a, xs, rfl, h1, h2⟩ := RvR.tupH (r := .im (.tuple l)) r2 rfl
    refine ⟨a, xs, rfl, .inr ⟨?_, hq _ _ s1 _ H1 qx R1 g1 (it_enumT h1 h2)⟩⟩
    rcases h1 with h1 | ⟨o, h1⟩
    · exact SqT.of h1
    · exact .inl (.inr ⟨o, h1⟩)
  · rename_i l
    obtain ⟨w, rfl, r2⟩ := r1.one
    cases r2 with
    | lst h1 n h2 => exact ⟨_, _, rfl, .inl ⟨SqL.of h1, hq _ _ s1 _ H1 qx R1 g1 (it_enumL (P := keepP Z B0 ρ true) h1 n h2)⟩⟩
  · rename_i l
    obtain ⟨w, rfl, r2⟩ := r1.one
    obtain ⟨p, xs, rfl, h1, h2, h3, h4⟩ := r2
    exact ⟨p, xs, rfl, .inl ⟨SqL.of h3, hq _ _ s1 _ H1 qx R1 g1 (it_enumL (P := keepP Z B0 ρ true) h3 (fun z => R0.bad z h1) (h4.bad fun a z => .inl z))⟩⟩
  · rename_i l
    obtain ⟨w, rfl, r2⟩ := r1.one
    obtain ⟨a, xs, h1, rfl, h3, h4⟩ := r2
    exact ⟨a, xs, rfl, .inl ⟨SqL.of h3, hq _ _ s1 _ H1 qx R1 g1 (it_enumL (P := keepP Z B0 ρ false) h3 (R1.fr a h1).2.1 h4)⟩⟩
  · exact qx.elim
/-! ### ys.append(xs.pop(k)) -/
def dAppPop (i j : Nat) (da : DA Z) : DSt Z := fun De s ρ => match ρ[i]?, ρ[j]? with
  | some (.ow q l), some (.ow q' m) => i ≠ j ∧ da s ρ fun rs s1 => mPopAt m rs fun d m' => l.length < 1000000 ∧ De.nx s1 ((ρ.set j (.ow q' m')).set i (.ow q (l ++ [d])))
  | _, _ => False
theorem ds_appPop {i j : Nat} {n n2 : Str} {np np2 ap ap2 cp cp2 : Pos} (hN : X.N[i]? = some n) (hv : Vis X.env.scope n) (hN2 : X.N[j]? = some n2) (hv2 : Vis X.env.scope n2) (ha : DAs Z X [e] das)
    (hd : (n == ("__debug__" : Str)) = false := by decide) (hcd : (n == ("__classdict__" : Str)) = false := by decide) (hd2 : (n2 == ("__debug__" : Str)) = false := by decide) (hcd2 : (n2 == ("__classdict__" : Str)) = false := by decide)
    (hbase : attributeBase (.Name n np) "append" X.env (eval (.Name n np) X.env) = eval (.Name n np) X.env := by rfl) (hbase2 : attributeBase (.Name n2 np2) "pop" X.env (eval (.Name n2 np2) X.env) = eval (.Name n2 np2) X.env := by rfl)
    (hfew2 : ((backTo cp2 (starEach [e] X.env)).all (fun x => !x.1) && (backToKw cp2 (keywordEach [] X.env)).all (fun x => x.1.isSome) && decide ([e].length + ([] : List Keyword).length + (if ([] : List Keyword).isEmpty then 0 else 1) < 30)) = true := by rfl)
    (hfew : ((backTo cp (starEach [.Call (.Attribute (.Name n2 np2) "pop" ap2) [e] [] cp2] X.env)).all (fun x => !x.1) && (backToKw cp (keywordEach [] X.env)).all (fun x => x.1.isSome) && decide ([Expr.Call (.Attribute (.Name n2 np2) "pop" ap2) [e] [] cp2].length + ([] : List Keyword).length + (if ([] : List Keyword).isEmpty then 0 else 1) < 30)) = true := by rfl)
    (hline : (ap.endLine == cp.line) = true := by rfl) (hline2 : (ap2.endLine == cp2.line) = true := by rfl) (hs2 : starEach [e] X.env = (false, eval e X.env) :: starEach [] X.env := by rfl) (hs : starEach [.Call (.Attribute (.Name n2 np2) "pop" ap2) [e] [] cp2] X.env = (false, eval (.Call (.Attribute (.Name n2 np2) "pop" ap2) [e] [] cp2) X.env) :: starEach [] X.env := by rfl)
    (hp : (backTo cp (starEach [] X.env)).any (·.1) = false := by rfl) (hp2 : (backTo cp2 (starEach [] X.env)).any (·.1) = false := by rfl) (hsw : swapsWith (.Call (.Attribute (.Name n np) "append" ap) [.Call (.Attribute (.Name n2 np2) "pop" ap2) [e] [] cp2] [] cp) none pos.line X.env = pure false := by rfl) :
    DS Z X (.Expr (.Call (.Attribute (.Name n np) "append" ap) [.Call (.Attribute (.Name n2 np2) "pop" ap2) [e] [] cp2] [] cp) pos) (dAppPop i j das) := by
  refine PS.of (ps_expr (pe_bm PySem.F.plainAttrs_list PySem.F.slot_list_append PySem.F.type_list_append mt_append (pe_var hN hv hd hcd) (pa_cons (pe_bm PySem.F.plainAttrs_list PySem.F.slot_list_pop PySem.F.type_list_pop mt_popAt (pe_var hN2 hv2 hd2 hcd2) ha hbase2 hfew2 hline2 hs2 hp2) pa_nil hs) hbase hfew hline hs hp) hsw) fun D σ H ⟨B0, H0, ρ, s, De, R, hd, hn, _⟩ => ?_
  unfold dAppPop at hd
  split at hd
  · rename_i q l q' m e1 e2
    obtain ⟨hij, hd⟩ := hd
    obtain ⟨o, s0, rfl, xs, hq, im⟩ := R.sl i _ e1
    obtain ⟨o', s0', rfl, ys, hq', im'⟩ := R.sl j _ e2
    refine ⟨.ref q, s0, .inl ⟨rfl, xs, SqL.of hq⟩, .ref q', s0', .inl ⟨rfl, ys, SqL.of hq'⟩, B0, H0, ρ, s, _, R, hd, fun rs s1 vs H1 qx R1 g1 r1 => ?_⟩
    have hq1' := g1 q' _ hq' (R.fr q' (own_mem e2)).2.1
    refine m2_popAt Z B0 ρ s s1 H0 σ H H1 q' ys vs m rs _ _ R R1 hq1' (im'.grow badZ R.ok g1) r1 qx fun d v' m' ys' qd hv hx => ?_
    obtain ⟨hl, qn⟩ := qd
    have R2 := R1.mutL (l' := m') e2 hx
    have e1' : (ρ.set j (.ow q' m'))[i]? = some (.ow q l) := by rw [List.getElem?_set_ne (Ne.symm hij)]; exact e1
    obtain ⟨_, s02, z, xs2, hq2, im2⟩ := R2.sl i _ e1'
    have mq' := own_mem e2
    obtain ⟨_, _, _, ys0, hq0, _⟩ := R1.sl j _ e2
    have iv : Im (Bad Z B0 (ρ.set j (.ow q' m'))) (upd H1 q' (.lst ys')) v' d := hv.mono (fun b o e n => ⟨by rw [upd_ne (fun z => n (by rw [z]; exact .inr (.inr mq')))]; exact e, fun z => n (by unfold Bad at z ⊢; rw [own_set_same e2] at z; exact z)⟩) (fun b ys e => by rw [upd_ne (fun z => by rw [z, hq0] at e; cases e)]; exact e) (fun b o u e => by rw [upd_ne (fun z => by rw [z, hq0] at e; cases e)]; exact e)
    refine ⟨q, xs2, v', rfl, rfl, hq2, by rw [im2.length]; exact smL hl, ?_⟩
    exact hn s1 _ σ _ qn (R2.mutL e1' (im2.snoc iv)) (((g1.stp R).trans R1 (mut_stp R1 e2)).trans R2 (mut_stp R2 e1'))
  · exact hd.elim
/-! ### {} and a module's numbers -/
def dEmp : DX Z := fun s _ Q => Q (.im (.dict [])) s
theorem de_emp : DE Z X (.Dict [] [] pos) dEmp := by
  refine PE.of pe_dnewK fun σ H Q ⟨B0, H0, ρ, s, Qd, R, hd, hq⟩ => ?_
  exact fun d hd1 => hq _ s _ _ hd (R.same (same_new hd1)) (Gr.of (same_new hd1)) (Im.dct upd_same (fun z => R.bad z hd1) .nil)
theorem de_gi {n : Str} {i : Int} {t : Tok} (hg : Gl X n) (hm : X.mg n = some (.int i t)) (hd : (n == ("__debug__" : Str)) = false := by decide) : DE Z X (.Name n pos) (dC (.int i)) := de_c (pe_glob (v := .int i) hg hm ⟨t, rfl⟩ hd) fun _ _ => .int i
/-! ### comprehensions -/
theorem lcR_fun {g : DG Z} {tt : DT Z} {te : DX Z} {f : PyData → Option PyData} {s : Z.S} {Q : List PyData → Z.S → Prop} : ∀ {items acc : List PyData}, (∀ d ∈ items, ∀ C : Option PyData → Z.S → Prop, C (f d) s → g d ρ fun ρ' => tt s ρ' fun b s1 => if b = true then te s1 ρ' fun r s2 => ∃ x, r.st = some x ∧ C (some x) s2 else C none s1) → acc.length + items.length ≤ 1000000 → Q (acc ++ items.filterMap f) s → lcR g tt te ρ items s acc Q
  | [], acc, _, _, q => by
    rw [List.filterMap_nil, List.append_nil] at q
    exact q
  | d :: ds, acc, h, hl, q => by
    rw [List.length_cons] at hl
    refine h d List.mem_cons_self (fun o s1 => match o with
      | some x => acc.length < 1000000 ∧ lcR g tt te ρ ds s1 (acc ++ [x]) Q
      | none => lcR g tt te ρ ds s1 acc Q) ?_
    have h2 : ∀ d' ∈ ds, ∀ C : Option PyData → Z.S → Prop, C (f d') s → g d' ρ fun ρ' => tt s ρ' fun b s1 => if b = true then te s1 ρ' fun r s2 => ∃ x, r.st = some x ∧ C (some x) s2 else C none s1 := fun d' hd' => h d' (List.mem_cons_of_mem _ hd')
    cases e : f d with
    | none =>
      rw [List.filterMap_cons_none e] at q
      exact lcR_fun h2 (by omega) q
    | some x =>
      rw [List.filterMap_cons_some e] at q
      refine ⟨by omega, lcR_fun h2 (by rw [List.length_append]; show acc.length + 1 + ds.length ≤ 1000000; omega) ?_⟩
      rw [List.append_assoc]
      exact q
theorem lcR_inv {g : DG Z} {tt : DT Z} {te : DX Z} {Q : List PyData → Z.S → Prop} (I : Nat → Z.S → List PyData → Prop) : ∀ {items : List PyData} {k : Nat} {s : Z.S} {acc : List PyData}, (∀ (j : Nat) (d : PyData) (s : Z.S) (acc : List PyData), items[j]? = some d → I (k + j) s acc → g d ρ fun ρ' => tt s ρ' fun b s1 => if b = true then te s1 ρ' fun r s2 => ∃ x, r.st = some x ∧ acc.length < 1000000 ∧ I (k + j + 1) s2 (acc ++ [x]) else I (k + j + 1) s1 acc) → I k s acc →
    (∀ s acc, I (k + items.length) s acc → Q acc s) → (∀ d ∈ items, True) → (∀ {G G' : List Sl → Prop} {d : PyData}, (∀ x, G x → G' x) → g d ρ G → g d ρ G') → (∀ {s : Z.S} {ρ' : List Sl} {G G' : Bool → Z.S → Prop}, (∀ b s, G b s → G' b s) → tt s ρ' G → tt s ρ' G') → (∀ {s : Z.S} {ρ' : List Sl} {G G' : Rv → Z.S → Prop}, (∀ b s, G b s → G' b s) → te s ρ' G → te s ρ' G') → lcR g tt te ρ items s acc Q
  | [], k, s, acc, _, i, q, _, _, _, _ => q s acc i
  | d :: ds, k, s, acc, h, i, q, _, mg, mt, me => by
    have h0 := h 0 d s acc rfl i
    refine mg (fun ρ' z => mt (fun b s1 z => ?_) z) h0
    have go : ∀ s2 acc2, I (k + 0 + 1) s2 acc2 → lcR g tt te ρ ds s2 acc2 Q := fun s2 acc2 i2 => lcR_inv I (k := k + 1) (fun j d' s' acc' hd' i' => by
      have := h (j + 1) d' s' acc' hd' (by rw [show k + (j + 1) = k + 1 + j from by omega]; exact i')
      rw [show k + (j + 1) = k + 1 + j from by omega] at this
      exact this) i2 (fun s' acc' i' => q s' acc' (by rw [List.length_cons, show k + (ds.length + 1) = k + 1 + ds.length from by omega]; exact i')) (fun _ _ => trivial) mg mt me
    cases b with
    | true =>
      exact me (fun r s2 z => by
        obtain ⟨x, h1, h2, h3⟩ := z
        exact ⟨x, h1, h2, go s2 _ h3⟩) z
    | false => exact go s1 acc z
end
end Lf
namespace Lf
open PySem PySem.Spec PyProof.Rows L2
section
variable {Z : Zn} {X : Cx} {st : Stmt}
def dNever : DSt Z := fun _ _ _ => False
theorem ds_never : DS Z X st dNever := PS.of ps_never fun D σ H ⟨_, _, _, _, _, _, hd, _⟩ => hd
end
/-! ### numbers as data -/
abbrev tupN (l : List Nat) : PyData := .tuple (nD l)
theorem nD_len (l : List Nat) : (nD l).length = l.length := List.length_map ..
theorem nD_app (l m : List Nat) : nD (l ++ m) = nD l ++ nD m := List.map_append ..
theorem nD_set (l : List Nat) (i x : Nat) : nD (l.set i x) = (nD l).set i (.int (x : Nat)) := List.map_set ..
theorem nD_rep (n x : Nat) : nD (List.replicate n x) = List.replicate n (.int (x : Nat)) := List.map_replicate ..
theorem nD_get {l : List Nat} {v : Nat} (h : v < l.length) : (nD l)[v]? = some (.int ((l.getD v 0 : Nat))) := by
  unfold nD
  rw [List.getElem?_map, List.getD_eq_getElem?_getD, List.getElem?_eq_getElem h]
  rfl
theorem nD_some {l : List Nat} {i : Nat} {d : PyData} (h : (nD l)[i]? = some d) : ∃ x, l[i]? = some x ∧ d = .int (x : Nat) := by
  unfold nD at h
  rw [List.getElem?_map] at h
  cases e : l[i]? with
  | none => rw [e] at h; cases h
  | some x => rw [e] at h; exact ⟨x, rfl, (Option.some.inj h).symm⟩
theorem nD_at {l : List Nat} {v : Nat} (h : v < l.length) : atI (nD l) ((v : Nat) : Int) = some (.int ((l.getD v 0 : Nat))) := atI_nat (nD_get h)
theorem nD_last (l : List Nat) (x : Nat) : atI (nD (l ++ [x])) (-1) = some (.int (x : Nat)) := by
  rw [nD_app]
  exact atI_last _ _
theorem nD_ix {l : List Nat} {v : Nat} (h : v < l.length) : ixN (nD l).length ((v : Nat) : Int) = some v := by
  unfold ixN
  rw [nD_len, if_pos (by omega), if_pos (by omega), Int.toNat_natCast]
theorem noL_nD : ∀ l : List Nat, noLs (nD l) = true
  | [] => rfl
  | _ :: l => by
    show (true && noLs (nD l)) = true
    rw [noL_nD l]
    rfl
theorem nD_I (l : List Nat) : nD l = (l.map fun x => ((x : Nat) : Int)).map PyData.int := by
  unfold nD
  rw [List.map_map]
  rfl
theorem lay_nD (l : List Nat) : PyData.canLayAll0 (nD l) = true := layRow l
theorem sh_nD (l : List Nat) : SeqAt.shaped (.list (nD l)) = true := by rw [nD_I]; exact shInts _
theorem sh_tupN (l : List Nat) : SeqAt.shaped (tupN l) = true := shRow l
theorem eqv_int (i j : Int) : PyData.eqv (.int i) (.int j) = decide (i = j) := by
  show (i == j) = _
  rw [Bool.eq_iff_iff]; simp
theorem any_nD (x : Nat) : ∀ l : List Nat, ((nD l).any fun z => PyData.eqv z (.int (x : Nat))) = decide (x ∈ l)
  | [] => rfl
  | y :: l => by
    show (PyData.eqv (.int (y : Nat)) (.int (x : Nat)) || ((nD l).any fun z => PyData.eqv z (.int (x : Nat)))) = _
    rw [any_nD x l, eqv_int]
    by_cases h : x = y
    · subst h; simp
    · have : ¬ ((y : Nat) : Int) = (x : Nat) := by omega
      rw [decide_eq_false this, Bool.false_or]
      exact decide_eq_decide.mpr (by simp [h])
theorem rng_nD (n : Nat) : rngD 0 n = nD (List.range n) := by
  unfold rngD nD
  refine List.map_congr_left fun k _ => ?_
  rw [Int.zero_add]
theorem flat_rep (n : Nat) (x : PyData) : (List.replicate n [x]).flatten = List.replicate n x := by
  induction n with
  | zero => rfl
  | succ n ih => rw [List.replicate_succ, List.flatten_cons, ih, List.replicate_succ]; rfl
/-! ### comprehensions over numbers -/
section
variable {Z : Zn} {ρ : List Sl} {s : Z.S}
theorem lcR_map {α : Type} {h : α → PyData} {f : α → Option PyData} {g : DG Z} {tt : DT Z} {te : DX Z} {Q : List PyData → Z.S → Prop} : ∀ {l : List α} {acc : List PyData}, (∀ a ∈ l, ∀ C : Option PyData → Z.S → Prop, C (f a) s → g (h a) ρ fun ρ' => tt s ρ' fun b s1 => if b = true then te s1 ρ' fun r s2 => ∃ x, r.st = some x ∧ C (some x) s2 else C none s1) → acc.length + l.length ≤ 1000000 → Q (acc ++ l.filterMap f) s → lcR g tt te ρ (l.map h) s acc Q
  | [], acc, _, _, q => by
    rw [List.filterMap_nil, List.append_nil] at q
    exact q
  | d :: ds, acc, hs, hl, q => by
    rw [List.length_cons] at hl
    refine hs d List.mem_cons_self (fun o s1 => match o with
      | some x => acc.length < 1000000 ∧ lcR g tt te ρ (ds.map h) s1 (acc ++ [x]) Q
      | none => lcR g tt te ρ (ds.map h) s1 acc Q) ?_
    have h2 := fun a (ha : a ∈ ds) => hs a (List.mem_cons_of_mem _ ha)
    cases e : f d with
    | none =>
      rw [List.filterMap_cons_none e] at q
      exact lcR_map h2 (by omega) q
    | some x =>
      rw [List.filterMap_cons_some e] at q
      refine ⟨by omega, lcR_map h2 (by rw [List.length_append]; show acc.length + 1 + ds.length ≤ 1000000; omega) ?_⟩
      rw [List.append_assoc]
      exact q
theorem lcR_rng {f : Nat → Option PyData} {g : DG Z} {tt : DT Z} {te : DX Z} {Q : List PyData → Z.S → Prop} {n : Nat} (hs : ∀ k, k < n → ∀ C : Option PyData → Z.S → Prop, C (f k) s → g (.int (k : Nat)) ρ fun ρ' => tt s ρ' fun b s1 => if b = true then te s1 ρ' fun r s2 => ∃ x, r.st = some x ∧ C (some x) s2 else C none s1) (hn : n ≤ 1000000) (q : Q ((List.range n).filterMap f) s) : lcR g tt te ρ (rngD 0 n) s [] Q := by
  rw [rng_nD]
  exact lcR_map (fun a ha => hs a (List.mem_range.mp ha)) (by rw [List.length_range]; show 0 + n ≤ 1000000; omega) q
theorem lcR_nD {f : Nat → Option PyData} {g : DG Z} {tt : DT Z} {te : DX Z} {Q : List PyData → Z.S → Prop} {l : List Nat} (hs : ∀ k ∈ l, ∀ C : Option PyData → Z.S → Prop, C (f k) s → g (.int (k : Nat)) ρ fun ρ' => tt s ρ' fun b s1 => if b = true then te s1 ρ' fun r s2 => ∃ x, r.st = some x ∧ C (some x) s2 else C none s1) (hn : l.length ≤ 1000000) (q : Q (l.filterMap f) s) : lcR g tt te ρ (nD l) s [] Q := lcR_map hs (by show 0 + _ ≤ _; omega) q
end
theorem fm_some {α β : Type} (f : α → β) (l : List α) : l.filterMap (fun a => some (f a)) = l.map f := by rw [← List.filterMap_eq_map]; rfl
theorem fm_if {α β : Type} (p : α → Bool) (f : α → β) (l : List α) : l.filterMap (fun a => if p a = true then some (f a) else none) = (l.filter p).map f := by
  induction l with
  | nil => rfl
  | cons a l ih =>
    by_cases h : p a = true
    · rw [List.filterMap_cons_some (b := f a) (by rw [if_pos h]), List.filter_cons_of_pos h, List.map_cons, ih]
    · rw [List.filterMap_cons_none (by rw [if_neg h]), List.filter_cons_of_neg h, ih]
theorem enum_nD (l : List Nat) : enumD (nD l) = (List.range l.length).map fun k => .tuple [.int (k : Nat), .int (l.getD k 0 : Nat)] := by
  unfold enumD
  rw [nD_len]
  refine List.map_congr_left fun k hk => ?_
  rw [List.getD_eq_getElem?_getD (l := nD l), nD_get (List.mem_range.mp hk)]
  rfl
/-! ### the way up -/
def wayN : Nat → List Nat → Nat → List Nat
  | 0, _, v => [v]
  | n + 1, fs, v => if par fs v = v then [v] else v :: wayN n fs (par fs v)
def way (fs : List Nat) (v : Nat) : List Nat := wayN fs.length fs v
theorem wayN_pth {fs : List Nat} : ∀ {n k v : Nat}, Rch fs k v → k ≤ n → Pth fs v (wayN n fs v)
  | n, _, v, .root h, _ => by
    cases n with
    | zero => exact .root h
    | succ n =>
      unfold wayN
      rw [if_pos h]
      exact .root h
  | 0, _, v, .step _ _, h => absurd h (Nat.not_succ_le_zero _)
  | n + 1, _, v, .step ne r, h => by
    unfold wayN
    rw [if_neg ne]
    exact .step ne (wayN_pth r (Nat.le_of_succ_le_succ h))
theorem way_pth {fs : List Nat} (F : Forest fs) {v : Nat} (hv : v < fs.length) : Pth fs v (way fs v) := by
  obtain ⟨l, p, nd, le, _, r, pos⟩ := F.path hv
  exact wayN_pth r (by omega)
theorem way_len {fs : List Nat} (F : Forest fs) {v : Nat} (hv : v < fs.length) : 0 < (way fs v).length ∧ (way fs v).length ≤ fs.length := by
  obtain ⟨l, p, nd, le, _, r, pos⟩ := F.path hv
  rw [(way_pth F hv).inj p]
  exact ⟨pos, le⟩
theorem way_lt {fs : List Nat} (F : Forest fs) {v : Nat} (hv : v < fs.length) : ∀ x ∈ way fs v, x < fs.length := by
  obtain ⟨l, p, nd, le, h, r, pos⟩ := F.path hv
  rw [(way_pth F hv).inj p]
  exact h
end Lf
namespace Lf
open PySem PySem.Spec PyProof.Rows L2
def topS (i : Nat) : Stmt := PySem.Challenge.pw_linkforests_k12_whole_forests_changed.main.body.getD i (.Pass ⟨0, 0, 0, 0⟩)
end Lf
namespace Lf
open PySem PySem.Spec PyProof.Rows L2
/-! ### forests.py over data, for what is valid -/
theorem isV_natD {n x : Nat} (h : x < n) : isV n (.int (x : Nat)) = true := show (decide (0 ≤ ((x : Nat) : Int)) && decide (((x : Nat) : Int) < (n : Int))) = true from Bool.and_eq_true_iff.mpr ⟨decide_eq_true (by omega), decide_eq_true (by omega)⟩
def fPI : DF Z0 := fun s as Q => ∃ d, as = [.im d] ∧ Q (.im (.bool (isInt d))) s
def fIV : DF Z0 := fun s as Q => ∃ (n : Nat) (d : PyData), as = [.im (.int (n : Nat)), .im d] ∧ Q (.im (.bool (isV n d))) s
def fCheck : DF Z0 := fun s as Q => ∃ (fs : List Nat) (v : Nat), as = [.im (tupN fs), .im (.int (v : Nat))] ∧ v < fs.length ∧ Q (.im .none) s
def fPath : DF Z0 := fun s as Q => ∃ (fs : List Nat) (v : Nat), as = [.im (tupN fs), .im (.int (v : Nat))] ∧ Forest fs ∧ v < fs.length ∧ Q (.im (tupN (way fs v))) s
section
variable {P : Program} {w : World} {K : PySem.W.Frag} {mg : Str → Option Value} {base : Heap}
abbrev s_is_plain_int : Stmt := topS (8)
abbrev N_is_plain_int : List Str := ["value"]
abbrev p_is_plain_int : List Str := ["value"]
theorem sc_is_plain_int : FnScope N_is_plain_int p_is_plain_int (defScope s_is_plain_int) := ⟨rfl, rfl, rfl, by decide +kernel, rfl, by decide +kernel, by decide +kernel⟩
theorem ok_is_plain_int (M : Mk K mg "is_plain_int" s_is_plain_int p_is_plain_int) (m_isinstance : mg "isinstance" = none) (m_int : mg "int" = none) (m_bool : mg "bool" = none) : Df P w K mg base CX0 1 "is_plain_int" p_is_plain_int (spD Z0 fPI) := by
  have nd := sc_is_plain_int.nd
  refine def_ok (k := 0) M sc_is_plain_int (by decide) ?_ (fun f cdv A outer s H E hr => have hu := hu65 hr; (ds_one (ds_ret (de_and (de_isi (by rfl) m_isinstance (da_cons (dv 0) (da_cons (de_raw (pe_bltn (v := .ty "int") (by rfl) m_int (by decide +kernel) rfl)) da_nil))) (de_one (de_not (de_isi (by rfl) m_isinstance (da_cons (dv 0) (da_cons (de_raw (pe_bltn (v := .ty "bool") (by rfl) m_bool (by decide +kernel) rfl)) da_nil))))))))) ?_
  · rintro s as Qd ⟨d, rfl, _⟩; rfl
  · rintro s as Qd ⟨d, rfl, q⟩
    refine ⟨.inl rfl, ?_⟩
    cases d with
    | int i => exact ⟨.inr (.inl rfl), q⟩
    | bool b => exact ⟨.inr (.inl rfl), q⟩
    | _ => exact q
abbrev s_is_vertex : Stmt := topS (9)
abbrev N_is_vertex : List Str := ["n", "value"]
abbrev p_is_vertex : List Str := ["n", "value"]
theorem sc_is_vertex : FnScope N_is_vertex p_is_vertex (defScope s_is_vertex) := ⟨rfl, rfl, rfl, by decide +kernel, rfl, by decide +kernel, by decide +kernel⟩
theorem ok_is_vertex (M : Mk K mg "is_vertex" s_is_vertex p_is_vertex) (d_is_plain_int : Df P w K mg base CX0 1 "is_plain_int" p_is_plain_int (spD Z0 fPI)) : Df P w K mg base CX0 2 "is_vertex" p_is_vertex (spD Z0 fIV) := by
  have nd := sc_is_vertex.nd
  refine def_ok (k := 1) M sc_is_vertex (by decide) ?_ (fun f cdv A outer s H E hr => have hu := hu65 hr; (ds_one (ds_ret (de_and (de_callP d_is_plain_int pass0 hr (da_cons (dv 1) da_nil)) (de_one (de_chain op_le op_lt de_int (dv 1) (dv 0))))))) ?_
  · rintro s as Qd ⟨n, d, rfl, _⟩; rfl
  · rintro s as Qd ⟨n, d, rfl, q⟩
    refine ⟨d, rfl, .inl rfl, ?_⟩
    cases d with
    | int i =>
      show if decide (0 ≤ i) = true then Qd (.im (.bool (decide (i < (n : Int))))) s else Qd (.im (.bool false)) s
      have e : isV n (.int i) = (decide (0 ≤ i) && decide (i < (n : Int))) := rfl
      rw [e] at q
      by_cases h : 0 ≤ i
      · rw [if_pos (decide_eq_true h)]
        rw [decide_eq_true h] at q
        exact q
      · rw [if_neg (by rw [decide_eq_false h]; exact Bool.false_ne_true)]
        rw [decide_eq_false h] at q
        exact q
    | _ => exact q
abbrev s_check_vertex : Stmt := topS (10)
abbrev N_check_vertex : List Str := ["forest", "value"]
abbrev p_check_vertex : List Str := ["forest", "value"]
theorem sc_check_vertex : FnScope N_check_vertex p_check_vertex (defScope s_check_vertex) := ⟨rfl, rfl, rfl, by decide +kernel, rfl, by decide +kernel, by decide +kernel⟩
theorem ok_check_vertex (M : Mk K mg "check_vertex" s_check_vertex p_check_vertex) (d_is_vertex : Df P w K mg base CX0 2 "is_vertex" p_is_vertex (spD Z0 fIV)) (m_len : mg "len" = none) : Df P w K mg base CX0 3 "check_vertex" p_check_vertex (spD Z0 fCheck) := by
  have nd := sc_check_vertex.nd
  refine def_ok (k := 2) M sc_check_vertex (by decide) ?_ (fun f cdv A outer s H E hr => have hu := hu65 hr; (ds_one (ds_if (dt_not (dt_val (de_callP d_is_vertex pass0 hr (da_cons (de_len (by rfl) m_len (da_cons (dv 0) da_nil)) (da_cons (dv 1) da_nil))))) (ds_one ds_never) ds_nil))) ?_
  · rintro s as Qd ⟨fs, v, rfl, _⟩; rfl
  · rintro s as Qd ⟨fs, v, rfl, hv, q⟩
    refine ⟨(nD fs).length, _, rfl, .inl rfl, ?_⟩
    rw [isV_natD (by rw [nD_len]; exact hv)]
    exact q
abbrev s_path_of : Stmt := topS (14)
abbrev N_path_of : List Str := ["forest", "vertex", "path"]
abbrev p_path_of : List Str := ["forest", "vertex"]
theorem sc_path_of : FnScope N_path_of p_path_of (defScope s_path_of) := ⟨rfl, rfl, rfl, by decide +kernel, rfl, by decide +kernel, by decide +kernel⟩
theorem ok_path_of (M : Mk K mg "path_of" s_path_of p_path_of) (d_check_vertex : Df P w K mg base CX0 3 "check_vertex" p_check_vertex (spD Z0 fCheck)) (m_tuple : mg "tuple" = none) : Df P w K mg base CX0 4 "path_of" p_path_of (spD Z0 fPath) := by
  have nd := sc_path_of.nd
  refine def_ok (k := 3) M sc_path_of (by decide) ?_ (fun f cdv A outer s H E hr => have hu := hu65 hr; (ds_cons (ds_expr (de_callP d_check_vertex pass0 hr (da_cons (dv 0) (da_cons (dv 1) da_nil))))
      (ds_cons (ds_set (i := 2) nd rfl (.inl rfl) (de_lst (da_cons (dv 1) da_nil)))
      (ds_cons (ds_while PassesOwn.never (dt_ne hu (de_ix (dv 0) (de_ix (dv 2) (de_neg de_int))) (de_ix (dv 2) (de_neg de_int)))
      (ds_one (ds_mt (i := 2) m2_app PySem.F.slot_list_append PySem.F.type_list_append mt_append rfl (by first | exact Or.inl rfl | exact Or.inr (Or.inl rfl) | exact Or.inr (Or.inr rfl)) (da_cons (de_ix (dv 0) (de_ix (dv 2) (de_neg de_int))) da_nil))))
      (ds_one (ds_ret (de_tuple (by rfl) m_tuple (da_cons (dv 2) da_nil)))))))) ?_
  · rintro s as Qd ⟨fs, v, rfl, _⟩; rfl
  · rintro s as Qd ⟨fs, v, rfl, hF, hv, q⟩
    refine ⟨fs, v, rfl, hv, .inl rfl, _, rfl, by show 1 ≤ 1000000; decide, fun a => ?_⟩
    obtain ⟨k, rk⟩ := hF.rch v hv
    have pf := way_pth hF hv
    have lf := way_len hF hv
    refine ⟨fun m s ρ => ∃ (pre : List Nat) (cur : Nat), ρ = [.im (tupN fs), .im (.int (v : Nat)), .ow a (nD (pre ++ [cur]))] ∧ cur < fs.length ∧ Rch fs m cur ∧ ∀ l, Pth fs cur l → Pth fs v (pre ++ l), ⟨k, [], v, rfl, hv, rk, fun l h => h⟩, ?_⟩
    rintro m s ρ ⟨pre, cur, rfl, hc, rc, ext⟩
    have few := hF.few
    have short : pre.length + 1 + m ≤ fs.length := by
      obtain ⟨l, pl, el⟩ := Pth.of rc
      have e := (ext l pl).inj pf
      have := congrArg List.length e
      rw [List.length_append, el] at this
      omega
    refine ⟨_, nD_last pre cur, _, nD_at hc, _, nD_last pre cur, ?_⟩
    show if (!decide (((par fs cur : Nat) : Int) = ((cur : Nat) : Int))) = true then _ else _
    by_cases hn : par fs cur = cur
    · rw [if_neg (by rw [decide_eq_true (by rw [hn])]; exact Bool.false_ne_true)]
      have e := (ext _ (.root hn)).inj pf
      show Qd (.im (.tuple (nD (pre ++ [cur])))) s
      rw [e]
      exact q
    · rw [if_pos (by rw [decide_eq_false (by omega)]; rfl)]
      cases rc with
      | root z => exact absurd z hn
      | @step m' _ _ r =>
        refine ⟨_, nD_last pre cur, _, nD_at hc, _, rfl, by rw [nD_len, List.length_append]; show pre.length + 1 < 1000000; omega, m', Nat.lt_succ_self _, pre ++ [cur], par fs cur, ?_, hF.rng cur hc, r, fun l hl => ?_⟩
        · rw [nD_app (pre ++ [cur])]
          rfl
        · rw [List.append_assoc]
          exact ext _ (.step hn hl)
end
end Lf
namespace Lf
open PySem PySem.Spec PyProof.Rows L2
theorem up_rank {fs : List Nat} (r : Nat → Nat) (h : ∀ v, v < fs.length → par fs v < fs.length ∧ (par fs v = v ∨ r (par fs v) < r v)) : ∀ (n v : Nat), r v < n → v < fs.length → ∃ k, Rch fs k v
  | 0, _, hn, _ => absurd hn (Nat.not_lt_zero _)
  | n + 1, v, hn, hv => by
    obtain ⟨h1, h2⟩ := h v hv
    by_cases e : par fs v = v
    · exact ⟨0, .root e⟩
    · have h3 := h2.resolve_left e
      obtain ⟨k, hk⟩ := up_rank r h n (par fs v) (by omega) h1
      exact ⟨k + 1, .step e hk⟩
theorem forest_rank {fs : List Nat} (r : Nat → Nat) (h0 : 0 < fs.length) (h1 : fs.length ≤ 24) (h : ∀ v, v < fs.length → par fs v < fs.length ∧ (par fs v = v ∨ r (par fs v) < r v)) : Forest fs :=
  ⟨h0, h1, fun v hv => (h v hv).1, fun v hv => up_rank r h (r v + 1) v (Nat.lt_succ_self _) hv⟩
theorem nD_erase : ∀ (l : List Nat) (i : Nat), (nD l).eraseIdx i = nD (l.eraseIdx i)
  | [], _ => rfl
  | _ :: _, 0 => rfl
  | x :: l, i + 1 => congrArg (PyData.int (x : Nat) :: ·) (nD_erase l i)
theorem eqv_nD_nil (l : List Nat) : PyData.eqv (.list (nD l)) (.list []) = l.isEmpty := by cases l <;> rfl
theorem erase_perm : ∀ {l : List Nat} {i x : Nat}, l[i]? = some x → (x :: l.eraseIdx i).Perm l
  | [], _, _, h => by cases h
  | y :: l, 0, x, h => by cases h; exact .refl _
  | y :: l, i + 1, x, h => (List.Perm.swap y x _).trans ((erase_perm (i := i) h).cons y)
theorem idx_get {l : List Nat} (nd : l.Nodup) {i x : Nat} (h : l[i]? = some x) : l.idxOf x = i := by
  obtain ⟨h1, h2⟩ := List.getElem?_eq_some_iff.mp h
  rw [← h2]
  exact List.Nodup.idxOf_getElem nd i h1
end Lf
namespace Lf
/-! ### weights: plain mathematics -/
theorem rg_filter_succ {k : Nat} (p : Nat → Bool) : (List.range (k + 1)).filter p = if p k = true then (List.range k).filter p ++ [k] else (List.range k).filter p := by
  rw [List.range_succ, List.filter_append]
  by_cases h : p k = true
  · rw [if_pos h, List.filter_cons_of_pos h]
    rfl
  · rw [if_neg h, List.filter_cons_of_neg h]
    simp
section
open Classical
/-- how many of the first k vertices have v on their way -/
noncomputable def cnt (fs : List Nat) (v k : Nat) : Nat := ((List.range k).filter fun u => decide (Bel fs v u)).length
theorem cnt_zero (fs : List Nat) (v : Nat) : cnt fs v 0 = 0 := rfl
theorem cnt_succ (fs : List Nat) (v k : Nat) : cnt fs v (k + 1) = cnt fs v k + (if Bel fs v k then 1 else 0) := by
  unfold cnt
  rw [rg_filter_succ]
  by_cases h : Bel fs v k
  · rw [if_pos (decide_eq_true h), if_pos h, List.length_append]
    rfl
  · rw [if_neg (fun z => h (of_decide_eq_true z)), if_neg h]
    rfl
end
theorem same_len {l m : List Nat} (hl : l.Nodup) (hm : m.Nodup) (h : ∀ u, u ∈ l ↔ u ∈ m) : l.length = m.length := ((List.perm_ext_iff_of_nodup hl hm).mpr h).length_eq
open Classical in
theorem cnt_of {fs : List Nat} {v : Nat} {l : List Nat} (nd : l.Nodup) (h : ∀ u, u ∈ l ↔ u < fs.length ∧ Bel fs v u) : cnt fs v fs.length = l.length := by
  unfold cnt
  refine same_len (List.Pairwise.filter _ List.nodup_range) nd fun u => ?_
  rw [h, List.mem_filter, List.mem_range, decide_eq_true_iff]
/-- the weight of v -/
noncomputable abbrev wt (fs : List Nat) (v : Nat) : Nat := cnt fs v fs.length
/-! sums -/
theorem sum_add {α : Type} (f g : α → Nat) : ∀ l : List α, (l.map fun x => f x + g x).sum = (l.map f).sum + (l.map g).sum
  | [] => rfl
  | x :: l => by
    have := sum_add f g l
    simp only [List.map_cons, List.sum_cons]
    omega
theorem sum_zero {α : Type} {f : α → Nat} : ∀ {l : List α}, (∀ x ∈ l, f x = 0) → (l.map f).sum = 0
  | [], _ => rfl
  | x :: l, h => by
    have := sum_zero (f := f) (l := l) fun y hy => h y (List.mem_cons_of_mem _ hy)
    have := h x List.mem_cons_self
    simp only [List.map_cons, List.sum_cons]
    omega
theorem sum_congr {α : Type} {f g : α → Nat} : ∀ {l : List α}, (∀ x ∈ l, f x = g x) → (l.map f).sum = (l.map g).sum
  | [], _ => rfl
  | x :: l, h => by
    have := sum_congr (f := f) (g := g) (l := l) fun y hy => h y (List.mem_cons_of_mem _ hy)
    have := h x List.mem_cons_self
    simp only [List.map_cons, List.sum_cons]
    omega
theorem sum_le {α : Type} {f g : α → Nat} : ∀ {l : List α}, (∀ x ∈ l, f x ≤ g x) → (l.map f).sum ≤ (l.map g).sum
  | [], _ => Nat.le_refl _
  | x :: l, h => by
    have := sum_le (f := f) (g := g) (l := l) fun y hy => h y (List.mem_cons_of_mem _ hy)
    have := h x List.mem_cons_self
    simp only [List.map_cons, List.sum_cons]
    omega
theorem sum_swap {α β : Type} (f : α → β → Nat) (ds : List β) : ∀ us : List α, (us.map fun u => (ds.map fun d => f u d).sum).sum = (ds.map fun d => (us.map fun u => f u d).sum).sum
  | [] => (sum_zero fun _ _ => rfl).symm
  | u :: us => by
    have := sum_swap f ds us
    simp only [List.map_cons, List.sum_cons]
    rw [sum_add, this]
theorem sum_mem {α : Type} {f : α → Nat} {x : α} : ∀ {l : List α}, x ∈ l → f x ≤ (l.map f).sum
  | y :: l, h => by
    simp only [List.map_cons, List.sum_cons]
    rcases List.mem_cons.mp h with z | z
    · subst z
      omega
    · have := sum_mem (f := f) z
      omega
theorem len_sum {α : Type} (p : α → Bool) : ∀ l : List α, (l.filter p).length = (l.map fun x => if p x = true then 1 else 0).sum
  | [] => rfl
  | x :: l => by
    have := len_sum p l
    simp only [List.map_cons, List.sum_cons]
    by_cases h : p x = true
    · rw [List.filter_cons_of_pos h, List.length_cons, if_pos h]
      omega
    · rw [List.filter_cons_of_neg h, if_neg h]
      omega
theorem filter_sum {α : Type} (p : α → Bool) (f : α → Nat) : ∀ l : List α, ((l.filter p).map f).sum = (l.map fun x => if p x = true then f x else 0).sum
  | [] => rfl
  | x :: l => by
    have := filter_sum p f l
    simp only [List.map_cons, List.sum_cons]
    by_cases h : p x = true
    · rw [List.filter_cons_of_pos h, List.map_cons, List.sum_cons, if_pos h]
      omega
    · rw [List.filter_cons_of_neg h, if_neg h]
      omega
open Classical in
theorem sum_one {l : List Nat} {p : Nat → Prop} {d : Nat} (nd : l.Nodup) (hd : d ∈ l) (pd : p d) (h : ∀ e ∈ l, p e → e = d) : (l.map fun e => if p e then 1 else 0).sum = 1 := by
  induction l with
  | nil => cases hd
  | cons x l ih =>
    simp only [List.map_cons, List.sum_cons]
    obtain ⟨n1, n2⟩ := List.nodup_cons.mp nd
    by_cases z : x = d
    · subst z
      rw [if_pos pd, sum_zero]
      intro e he
      rw [if_neg]
      intro pe
      exact n1 (h e (List.mem_cons_of_mem _ he) pe ▸ he)
    · have hd' : d ∈ l := by
        rcases List.mem_cons.mp hd with y | y
        · exact absurd y.symm z
        · exact y
      rw [if_neg (fun px => z (h x List.mem_cons_self px)), ih n2 hd' fun e he pe => h e (List.mem_cons_of_mem _ he) pe]
/-! the tree of a vertex: the vertex and the trees of its children -/
theorem Bel.trans {fs : List Nat} {a b c : Nat} (h : Bel fs a b) (g : Bel fs b c) : Bel fs a c := by
  induction g with
  | refl => exact h
  | step n _ ih => exact .step n ih
theorem Bel.comp {fs : List Nat} {a b u : Nat} (h : Bel fs a u) (g : Bel fs b u) : Bel fs a b ∨ Bel fs b a := by
  induction h with
  | refl => exact .inr g
  | step n h ih =>
    cases g with
    | refl => exact .inl (.step n h)
    | step _ g => exact ih g
theorem bel_kid {fs : List Nat} {v u : Nat} (h : Bel fs v u) (ne : u ≠ v) (rng : ∀ v, v < fs.length → par fs v < fs.length) (hu : u < fs.length) : ∃ d, d ∈ kids fs v ∧ Bel fs d u := by
  induction h with
  | refl => exact absurd rfl ne
  | @step u n h ih =>
    by_cases z : par fs u = v
    · exact ⟨u, mem_kids.mpr ⟨hu, z, fun e => n e.symm⟩, .refl⟩
    · obtain ⟨d, h1, h2⟩ := ih z (rng _ hu)
      exact ⟨d, h1, .step n h2⟩
theorem kids_nodup (fs : List Nat) (y : Nat) : (kids fs y).Nodup := List.Pairwise.filter _ List.nodup_range
open Classical in
theorem wt_kids {fs : List Nat} (F : Forest fs) {v : Nat} (hv : v < fs.length) : wt fs v = 1 + ((kids fs v).map (wt fs)).sum := by
  have e0 : ∀ d, wt fs d = ((List.range fs.length).map fun u => if Bel fs d u then 1 else 0).sum := fun d => by
    show ((List.range fs.length).filter _).length = _
    rw [len_sum]
    exact sum_congr fun u _ => by by_cases z : Bel fs d u <;> simp [z]
  have step : ∀ u ∈ List.range fs.length, (if Bel fs v u then 1 else 0) = (if u = v then 1 else 0) + ((kids fs v).map fun d => if Bel fs d u then 1 else 0).sum := fun u hu => by
    have hu := List.mem_range.mp hu
    by_cases ne : u = v
    · subst ne
      rw [if_pos .refl, if_pos rfl, sum_zero]
      intro d hd
      obtain ⟨k1, k2, k3⟩ := mem_kids.mp hd
      rw [if_neg]
      intro b
      rw [← k2] at b
      exact Bel.no (F.rch d k1) (fun e => k3 e.symm) b
    · rw [if_neg ne]
      by_cases b : Bel fs v u
      · obtain ⟨d, hd, bd⟩ := bel_kid b ne F.rng hu
        rw [if_pos b, sum_one (p := fun d => Bel fs d u) (kids_nodup fs v) hd bd]
        intro e he be
        obtain ⟨k1, k2, k3⟩ := mem_kids.mp hd
        obtain ⟨j1, j2, j3⟩ := mem_kids.mp he
        rcases be.comp bd with z | z
        · cases z with
          | refl => rfl
          | step _ z =>
            rw [k2] at z
            rw [← j2] at z
            exact absurd z (Bel.no (F.rch e j1) (fun e => j3 e.symm))
        · cases z with
          | refl => rfl
          | step _ z =>
            rw [j2] at z
            rw [← k2] at z
            exact absurd z (Bel.no (F.rch d k1) (fun e => k3 e.symm))
      · rw [if_neg b, sum_zero]
        intro d hd
        obtain ⟨k1, k2, k3⟩ := mem_kids.mp hd
        rw [if_neg]
        intro bd
        exact b (Bel.trans (.step (fun e => k3 e.symm) (by rw [k2]; exact .refl)) bd)
  rw [e0 v, sum_congr step, sum_add, sum_swap]
  have e1 : ((List.range fs.length).map fun u => if u = v then 1 else 0).sum = 1 := (sum_congr fun u _ => by by_cases z : u = v <;> simp [z]).trans (sum_one (p := fun u => u = v) List.nodup_range (List.mem_range.mpr hv) rfl fun e _ h => h)
  rw [e1]
  congr 1
  exact sum_congr fun d _ => (e0 d).symm
theorem wt_pos {fs : List Nat} (F : Forest fs) {v : Nat} (hv : v < fs.length) : 0 < wt fs v := by
  have := wt_kids F hv
  omega
theorem wt_lt {fs : List Nat} (F : Forest fs) {v d : Nat} (hv : v < fs.length) (hd : d ∈ kids fs v) : wt fs d < wt fs v := by
  have := wt_kids F hv
  have := sum_mem (f := wt fs) hd
  omega
/-! ### states on the way: S holds the vertices that are joined -/
noncomputable section
open Classical
def there (fs S : List Nat) : List Nat := (List.range fs.length).map fun v => if v ∈ S then par fs v else v
theorem there_length (fs S : List Nat) : (there fs S).length = fs.length := by unfold there; rw [List.length_map, List.length_range]
theorem par_there {fs S : List Nat} {v : Nat} (h : v < fs.length) : par (there fs S) v = if v ∈ S then par fs v else v := by
  unfold there
  show List.getD _ v 0 = _
  rw [List.getD_eq_getElem?_getD, List.getElem?_map, List.getElem?_range h]
  rfl
theorem there_up {fs S : List Nat} {k v : Nat} (rng : ∀ v, v < fs.length → par fs v < fs.length) (r : Rch fs k v) : v < fs.length → Up (there fs S) v := by
  induction r with
  | @root v h =>
    intro hv
    refine .root ?_
    rw [par_there hv]
    by_cases z : v ∈ S
    · rw [if_pos z, h]
    · rw [if_neg z]
  | @step k v h _ ih =>
    intro hv
    by_cases z : v ∈ S
    · refine .step ?_
      rw [par_there hv, if_pos z]
      exact ih (rng _ hv)
    · exact .root (by rw [par_there hv, if_neg z])
theorem there_forest {fs : List Nat} (F : Forest fs) (S : List Nat) : Forest (there fs S) := by
  have l := there_length fs S
  refine ⟨by rw [l]; exact F.pos, by rw [l]; exact F.few, fun v hv => ?_, fun v hv => ?_⟩
  · rw [l] at hv ⊢
    rw [par_there hv]
    by_cases z : v ∈ S
    · rw [if_pos z]
      exact F.rng v hv
    · rw [if_neg z]
      exact hv
  · rw [l] at hv
    obtain ⟨k, r⟩ := F.rch v hv
    exact there_up F.rng r hv
/-- the weight of p's tree so far -/
def grown (fs S : List Nat) (p : Nat) : Nat := 1 + ((kids fs p).map fun d => if d ∈ S then wt fs d else 0).sum
/-- joined vertices are no roots, and their children are joined -/
structure DC (fs S : List Nat) : Prop where
  low : ∀ v ∈ S, v < fs.length ∧ par fs v ≠ v
  cls : ∀ v ∈ S, ∀ d ∈ kids fs v, d ∈ S
theorem kids_there {fs S : List Nat} (r : Nat) : kids (there fs S) r = (kids fs r).filter fun d => decide (d ∈ S) := by
  unfold kids
  rw [there_length, List.filter_filter]
  refine List.filter_congr fun u hu => ?_
  rw [par_there (List.mem_range.mp hu)]
  by_cases z : u ∈ S
  · simp [z]
  · simp [z]
theorem there_in {fs S : List Nat} (F : Forest fs) (D : DC fs S) : ∀ (n v : Nat), wt fs v ≤ n → v ∈ S → wt (there fs S) v = wt fs v := by
  intro n
  induction n with
  | zero =>
    intro v h hv
    have := wt_pos F (D.low v hv).1
    omega
  | succ n ih =>
    intro v h hv
    have l := (D.low v hv).1
    rw [wt_kids (there_forest F S) (by rw [there_length]; exact l), wt_kids F l, kids_there, filter_sum]
    congr 1
    refine sum_congr fun d hd => ?_
    have ds := D.cls v hv d hd
    rw [if_pos (decide_eq_true ds)]
    exact ih d (by have := wt_lt F l hd; omega) ds
theorem there_out {fs S : List Nat} (F : Forest fs) (D : DC fs S) {r : Nat} (hr : r < fs.length) : wt (there fs S) r = grown fs S r := by
  rw [wt_kids (there_forest F S) (by rw [there_length]; exact hr), kids_there, filter_sum]
  unfold grown
  congr 1
  refine sum_congr fun d _ => ?_
  by_cases z : d ∈ S
  · rw [if_pos (decide_eq_true z), if_pos z]
    exact there_in F D _ d (Nat.le_refl _) z
  · rw [if_neg (fun y => z (of_decide_eq_true y)), if_neg z]
/-- v can be joined -/
structure Can (fs S : List Nat) (v : Nat) : Prop where
  low : v < fs.length
  lo : par fs v ≠ v
  new : v ∉ S
  all : ∀ d ∈ kids fs v, d ∈ S
  fit : wt fs v ≤ grown fs S (par fs v)
/-- the tree of v is whole exactly if all its children are joined -/
theorem grown_all {fs S : List Nat} (F : Forest fs) {v : Nat} (hv : v < fs.length) : grown fs S v = wt fs v ↔ ∀ d ∈ kids fs v, d ∈ S := by
  rw [wt_kids F hv]
  unfold grown
  constructor
  · intro h d hd
    refine Classical.byContradiction fun z => ?_
    have key : ∀ (l : List Nat), d ∈ l → (∀ e ∈ l, e < fs.length) → (l.map fun d => if d ∈ S then wt fs d else 0).sum < (l.map (wt fs)).sum := by
      intro l
      induction l with
      | nil => intro y; cases y
      | cons x l ih =>
        intro y hl
        simp only [List.map_cons, List.sum_cons]
        have le : (if x ∈ S then wt fs x else 0) ≤ wt fs x := by
          by_cases q : x ∈ S
          · rw [if_pos q]; exact Nat.le_refl _
          · rw [if_neg q]; exact Nat.zero_le _
        have le2 : (l.map fun d => if d ∈ S then wt fs d else 0).sum ≤ (l.map (wt fs)).sum := sum_le fun e _ => by
          by_cases q : e ∈ S
          · rw [if_pos q]; exact Nat.le_refl _
          · rw [if_neg q]; exact Nat.zero_le _
        rcases List.mem_cons.mp y with q | q
        · subst q
          rw [if_neg z]
          have := wt_pos F (hl d List.mem_cons_self)
          omega
        · have := ih q fun e he => hl e (List.mem_cons_of_mem _ he)
          omega
    have := key (kids fs v) hd fun e he => (mem_kids.mp he).1
    omega
  · intro h
    congr 1
    exact sum_congr fun d hd => if_pos (h d hd)
theorem grown_le {fs S : List Nat} (F : Forest fs) {v : Nat} (hv : v < fs.length) : grown fs S v ≤ wt fs v := by
  rw [wt_kids F hv]
  unfold grown
  have := sum_le (l := kids fs v) (f := fun d => if d ∈ S then wt fs d else 0) (g := wt fs) fun e _ => by
    by_cases q : e ∈ S
    · rw [if_pos q]; exact Nat.le_refl _
    · rw [if_neg q]; exact Nat.zero_le _
  omega
theorem grown_set {fs S T : List Nat} (h : ∀ v, v ∈ S ↔ v ∈ T) (p : Nat) : grown fs S p = grown fs T p := by
  unfold grown
  congr 1
  exact sum_congr fun d _ => by
    by_cases z : d ∈ S
    · rw [if_pos z, if_pos ((h d).mp z)]
    · rw [if_neg z, if_neg (fun y => z ((h d).mpr y))]
theorem grown_mono {fs S T : List Nat} (h : ∀ v, v ∈ S → v ∈ T) (p : Nat) : grown fs S p ≤ grown fs T p := by
  unfold grown
  have := sum_le (l := kids fs p) (f := fun d => if d ∈ S then wt fs d else 0) (g := fun d => if d ∈ T then wt fs d else 0) fun e _ => by
    by_cases q : e ∈ S
    · rw [if_pos q, if_pos (h e q)]; exact Nat.le_refl _
    · rw [if_neg q]; exact Nat.zero_le _
  omega
/-- after v is joined, its parent weighs so much more -/
theorem grown_snoc {fs S : List Nat} {v : Nat} (hv : v < fs.length) (lo : par fs v ≠ v) (new : v ∉ S) (p : Nat) : grown fs (S ++ [v]) p = grown fs S p + (if p = par fs v then wt fs v else 0) := by
  unfold grown
  have key : ∀ (l : List Nat), l.Nodup → (l.map fun d => if d ∈ S ++ [v] then wt fs d else 0).sum = (l.map fun d => if d ∈ S then wt fs d else 0).sum + (if v ∈ l then wt fs v else 0) := by
    intro l
    induction l with
    | nil => intro _; rfl
    | cons x l ih =>
      intro nd
      obtain ⟨n1, n2⟩ := List.nodup_cons.mp nd
      simp only [List.map_cons, List.sum_cons]
      rw [ih n2]
      by_cases z : x = v
      · subst z
        rw [if_pos (List.mem_append_right _ (List.mem_singleton.mpr rfl)), if_neg new, if_neg n1, if_pos List.mem_cons_self]
        omega
      · have e1 : (x ∈ S ++ [v]) ↔ x ∈ S := by simp [z]
        have e2 : (v ∈ x :: l) ↔ v ∈ l := ⟨fun y => (List.mem_cons.mp y).elim (fun e => absurd e.symm z) id, List.mem_cons_of_mem _⟩
        by_cases q : x ∈ S
        · rw [if_pos (e1.mpr q), if_pos q]
          by_cases q2 : v ∈ l
          · rw [if_pos q2, if_pos (e2.mpr q2)]; omega
          · rw [if_neg q2, if_neg (fun y => q2 (e2.mp y))]; omega
        · rw [if_neg (fun y => q (e1.mp y)), if_neg q]
          by_cases q2 : v ∈ l
          · rw [if_pos q2, if_pos (e2.mpr q2)]; omega
          · rw [if_neg q2, if_neg (fun y => q2 (e2.mp y))]; omega
  rw [key _ (kids_nodup fs p)]
  have e : (v ∈ kids fs p) ↔ p = par fs v := by
    rw [mem_kids]
    exact ⟨fun h => h.2.1.symm, fun h => ⟨hv, h.symm, fun y => lo y.symm⟩⟩
  by_cases q : p = par fs v
  · rw [if_pos q, if_pos (e.mpr q)]; omega
  · rw [if_neg q, if_neg (fun y => q (e.mp y))]; omega
/-- beginnings: each vertex possible at its turn -/
inductive Bg (fs : List Nat) : List Nat → Prop
  | nil : Bg fs []
  | snoc {S : List Nat} {v : Nat} : Bg fs S → Can fs S v → Bg fs (S ++ [v])
theorem Bg.low {fs S : List Nat} (h : Bg fs S) : ∀ v ∈ S, v < fs.length ∧ par fs v ≠ v := by
  induction h with
  | nil => intro v hv; cases hv
  | snoc _ p ih =>
    intro v hv
    rcases List.mem_append.mp hv with z | z
    · exact ih v z
    · rw [List.mem_singleton.mp z]
      exact ⟨p.low, p.lo⟩
theorem Bg.dc {fs S : List Nat} (h : Bg fs S) : DC fs S := by
  refine ⟨h.low, ?_⟩
  induction h with
  | nil => intro v hv; cases hv
  | snoc _ p ih =>
    intro v hv d hd
    rcases List.mem_append.mp hv with z | z
    · exact List.mem_append_left _ (ih v z d hd)
    · rw [List.mem_singleton.mp z] at hd
      exact List.mem_append_left _ (p.all d hd)
theorem Bg.nodup {fs S : List Nat} (h : Bg fs S) : S.Nodup := by
  induction h with
  | nil => exact List.nodup_nil
  | snoc _ p ih =>
    refine List.nodup_append.mpr ⟨ih, List.nodup_cons.mpr ⟨List.not_mem_nil, List.nodup_nil⟩, fun a ha b hb e => ?_⟩
    rw [List.mem_singleton.mp hb] at e
    exact p.new (e ▸ ha)
/-- the vertices that are no roots -/
def lowers (fs : List Nat) : List Nat := (List.range fs.length).filter fun v => !decide (par fs v = v)
theorem mem_lowers {fs : List Nat} {v : Nat} : v ∈ lowers fs ↔ v < fs.length ∧ par fs v ≠ v := by
  unfold lowers
  rw [List.mem_filter, List.mem_range]
  simp
/-- heavy children -/
def Heavy (fs : List Nat) (c : Nat) : Prop := c < fs.length ∧ par fs c ≠ c ∧ 1 + ((kids fs (par fs c)).map fun d => if wt fs d < wt fs c then wt fs d else 0).sum < wt fs c
/-- without heavy children some vertex can always be joined, until all are -/
theorem go_on {fs S : List Nat} (F : Forest fs) (nh : ∀ c, ¬ Heavy fs c) (D : ∀ v ∈ S, v < fs.length ∧ par fs v ≠ v) {u : Nat} (hu : u < fs.length) (lo : par fs u ≠ u) (new : u ∉ S) : ∃ v, Can fs S v := by
  have key : ∀ (n u : Nat), wt fs u ≤ n → u < fs.length → par fs u ≠ u → u ∉ S → ∃ v, Can fs S v := by
    intro n
    induction n with
    | zero =>
      intro u h hu
      have := wt_pos F hu
      omega
    | succ n ih =>
      intro u h hu lo new
      by_cases z : ∃ v, wt fs v < wt fs u ∧ v < fs.length ∧ par fs v ≠ v ∧ v ∉ S
      · obtain ⟨v, h1, h2, h3, h4⟩ := z
        exact ih v (by omega) h2 h3 h4
      · have all : ∀ v, wt fs v < wt fs u → v < fs.length → par fs v ≠ v → v ∈ S := fun v h1 h2 h3 => Classical.byContradiction fun h4 => z ⟨v, h1, h2, h3, h4⟩
        refine ⟨u, hu, lo, new, fun d hd => ?_, ?_⟩
        · obtain ⟨k1, k2, k3⟩ := mem_kids.mp hd
          exact all d (wt_lt F hu hd) k1 fun e => k3 e.symm
        · have hn := nh u
          unfold Heavy at hn
          have hn : wt fs u ≤ 1 + ((kids fs (par fs u)).map fun d => if wt fs d < wt fs u then wt fs d else 0).sum := Nat.le_of_not_lt fun y => hn ⟨hu, lo, y⟩
          refine Nat.le_trans hn ?_
          unfold grown
          refine Nat.add_le_add_left (sum_le fun d hd => ?_) _
          obtain ⟨k1, k2, k3⟩ := mem_kids.mp hd
          by_cases y : wt fs d < wt fs u
          · rw [if_pos y, if_pos (all d y k1 fun e => k3 e.symm)]
            exact Nat.le_refl _
          · rw [if_neg y]
            exact Nat.zero_le _
  exact key _ u (Nat.le_refl _) hu lo new
/-- what is joined is not too heavy -/
theorem Bg.light {fs S : List Nat} (F : Forest fs) (h : Bg fs S) : ∀ c ∈ S, ¬ Heavy fs c := by
  -- the first one of p's children that is at least as heavy as c
  have key : ∀ (c : Nat), Heavy fs c → ∀ e ∈ S, par fs e = par fs c → wt fs e < wt fs c := by
    intro c hc
    induction h with
    | nil => intro e he; cases he
    | @snoc S v b p ih =>
      intro e he pe
      rcases List.mem_append.mp he with z | z
      · exact ih e z pe
      · have z := List.mem_singleton.mp z
        subst z
        refine Nat.lt_of_le_of_lt p.fit (Nat.lt_of_le_of_lt ?_ hc.2.2)
        rw [pe]
        unfold grown
        refine Nat.add_le_add_left (sum_le fun d hd => ?_) _
        obtain ⟨k1, k2, k3⟩ := mem_kids.mp hd
        by_cases y : d ∈ S
        · rw [if_pos y, if_pos (ih d y k2)]
          exact Nat.le_refl _
        · rw [if_neg y]
          exact Nat.zero_le _
  intro c hc hh
  exact absurd (key c hh c hc rfl) (Nat.lt_irrefl _)
end
end Lf
namespace Lf
/-! ### the search through all orders of joins: plain mathematics -/
noncomputable section
open Classical
theorem there_get {fs S : List Nat} : there fs S = fs ↔ ∀ v, v < fs.length → par fs v ≠ v → v ∈ S := by
  constructor
  · intro h v hv lo
    refine Classical.byContradiction fun z => lo ?_
    have := par_there (S := S) hv
    rw [h, if_neg z] at this
    exact this
  · intro h
    refine List.ext_getElem? fun i => ?_
    unfold there
    by_cases z : i < fs.length
    · rw [List.getElem?_map, List.getElem?_range z]
      have e : fs[i]? = some (par fs i) := by
        unfold par
        rw [List.getD_eq_getElem?_getD, List.getElem?_eq_getElem z]
        rfl
      rw [e]
      show some (if i ∈ S then par fs i else i) = _
      by_cases y : par fs i = i
      · rw [y]
        by_cases q : i ∈ S
        · rw [if_pos q]
        · rw [if_neg q]
      · rw [if_pos (h i z y)]
    · rw [List.getElem?_eq_none (by rw [List.length_map, List.length_range]; omega), List.getElem?_eq_none (by omega)]
theorem there_nil (fs : List Nat) : there fs [] = List.range fs.length := by
  unfold there
  simp
theorem there_inj {fs S T : List Nat} (DS : ∀ v ∈ S, v < fs.length ∧ par fs v ≠ v) (DT : ∀ v ∈ T, v < fs.length ∧ par fs v ≠ v) (h : there fs S = there fs T) : ∀ v, v ∈ S ↔ v ∈ T := by
  have one : ∀ {S T : List Nat}, (∀ v ∈ S, v < fs.length ∧ par fs v ≠ v) → there fs S = there fs T → ∀ v, v ∈ S → v ∈ T := by
    intro S T DS h v hv
    obtain ⟨l, lo⟩ := DS v hv
    refine Classical.byContradiction fun z => lo ?_
    have e1 := par_there (S := S) l
    have e2 := par_there (S := T) l
    rw [h, if_pos hv] at e1
    rw [if_neg z] at e2
    exact e1.symm.trans e2
  exact fun v => ⟨one DS h v, one DT h.symm v⟩
theorem there_set {fs S T : List Nat} (h : ∀ v, v ∈ S ↔ v ∈ T) : there fs S = there fs T := by
  unfold there
  refine List.map_congr_left fun v _ => ?_
  by_cases z : v ∈ S
  · rw [if_pos z, if_pos ((h v).mp z)]
  · rw [if_neg z, if_neg (fun y => z ((h v).mpr y))]
theorem there_snoc {fs S : List Nat} {v : Nat} : (there fs S).set v (par fs v) = there fs (S ++ [v]) := by
  unfold there
  refine List.ext_getElem? fun i => ?_
  rw [List.getElem?_set, List.getElem?_map, List.getElem?_map, List.length_map, List.length_range]
  by_cases z : i < fs.length
  · rw [List.getElem?_range z]
    by_cases y : v = i
    · subst y
      rw [if_pos rfl, if_pos z]
      show _ = some (if v ∈ S ++ [v] then par fs v else v)
      rw [if_pos (List.mem_append_right _ (List.mem_singleton.mpr rfl))]
    · rw [if_neg y]
      show some (if i ∈ S then par fs i else i) = some (if i ∈ S ++ [v] then par fs i else i)
      have e1 : (i ∈ S ++ [v]) ↔ i ∈ S := by
        rw [List.mem_append, List.mem_singleton]
        exact ⟨fun q => q.elim id fun q => absurd q.symm y, .inl⟩
      by_cases q : i ∈ S
      · rw [if_pos q, if_pos (e1.mpr q)]
      · rw [if_neg q, if_neg (fun w => q (e1.mp w))]
  · rw [List.getElem?_eq_none (l := List.range fs.length) (by rw [List.length_range]; omega)]
    by_cases y : v = i
    · rw [if_pos y, if_neg (by omega)]
      rfl
    · rw [if_neg y]
      rfl
theorem Can.set {fs S T : List Nat} {v : Nat} (h : ∀ v, v ∈ S ↔ v ∈ T) (p : Can fs S v) : Can fs T v := ⟨p.low, p.lo, fun z => p.new ((h v).mpr z), fun d hd => (h d).mp (p.all d hd), by rw [← grown_set h]; exact p.fit⟩
/-- the whole trees below stay so when others are joined -/
theorem there_in' {fs S T : List Nat} (F : Forest fs) (D : DC fs S) (sub : ∀ v ∈ S, v ∈ T) : ∀ (n v : Nat), wt fs v ≤ n → v ∈ S → wt (there fs T) v = wt fs v := by
  intro n
  induction n with
  | zero =>
    intro v h hv
    have := wt_pos F (D.low v hv).1
    omega
  | succ n ih =>
    intro v h hv
    have l := (D.low v hv).1
    rw [wt_kids (there_forest F T) (by rw [there_length]; exact l), wt_kids F l, kids_there, filter_sum]
    congr 1
    refine sum_congr fun d hd => ?_
    have ds := D.cls v hv d hd
    rw [if_pos (decide_eq_true (sub d ds))]
    exact ih d (by have := wt_lt F l hd; omega) ds
/-- after v is put below its parent, its own tree is as it was -/
theorem there_own {fs S : List Nat} (F : Forest fs) (D : DC fs S) {v : Nat} (hv : v < fs.length) (lo : par fs v ≠ v) : wt (there fs (S ++ [v])) v = grown fs S v := by
  rw [wt_kids (there_forest F _) (by rw [there_length]; exact hv), kids_there, filter_sum]
  unfold grown
  congr 1
  refine sum_congr fun d hd => ?_
  have ne : d ≠ v := fun e => by
    subst e
    exact lo (mem_kids.mp hd).2.1
  have e1 : (d ∈ S ++ [v]) ↔ d ∈ S := by
    rw [List.mem_append, List.mem_singleton]
    exact ⟨fun q => q.elim id fun q => absurd q ne, .inl⟩
  by_cases z : d ∈ S
  · rw [if_pos (decide_eq_true (e1.mpr z)), if_pos z]
    exact there_in' F D (fun v hv => List.mem_append_left _ hv) _ d (Nat.le_refl _) z
  · rw [if_neg (fun y => z (e1.mp (of_decide_eq_true y))), if_neg z]
/-- (a, b) is a join -/
def Jn (fs : List Nat) (a b : Nat) : Prop := a < fs.length ∧ par fs a = a ∧ b < fs.length ∧ par fs b = b ∧ a ≠ b ∧ cnt fs a fs.length ≤ cnt fs b fs.length
/-- what the step's tests say -/
theorem step_pos {fs S : List Nat} (F : Forest fs) (b : Bg fs S) {c : Nat} (hc : c < fs.length) : (Jn (there fs S) c (par fs c) ∧ wt (there fs (S ++ [c])) c = wt fs c) ↔ Can fs S c := by
  have D := b.dc
  have pc := F.rng c hc
  constructor
  · rintro ⟨⟨_, h1, _, h2, h3, h4⟩, h5⟩
    rw [there_own F D hc (fun e => h3 e.symm)] at h5
    have new : c ∉ S := fun z => by
      rw [par_there hc, if_pos z] at h1
      exact h3 h1.symm
    refine ⟨hc, fun e => h3 e.symm, new, (grown_all F hc).mp h5, ?_⟩
    have e1 := there_out F D hc
    have e2 := there_out F D pc
    rw [← h5, ← e1, ← e2]
    exact h4
  · intro p
    have pn : par fs c ∉ S := fun z => p.new (D.cls _ z c (mem_kids.mpr ⟨hc, rfl, fun e => p.lo e.symm⟩))
    refine ⟨⟨by rw [there_length]; exact hc, by rw [par_there hc, if_neg p.new], by rw [there_length]; exact pc, by rw [par_there pc, if_neg pn], fun e => p.lo e.symm, ?_⟩, ?_⟩
    · show wt (there fs S) c ≤ wt (there fs S) (par fs c)
      rw [there_out F D hc, there_out F D pc]
      exact Nat.le_trans (grown_le F hc) p.fit
    · rw [there_own F D hc p.lo]
      exact (grown_all F hc).mpr p.all
/-- all states -/
def allT (fs : List Nat) : List Nat → List (List Nat)
  | [] => [[]]
  | v :: vs => (allT fs vs).flatMap fun r => [v :: r, par fs v :: r]
theorem allT_length (fs : List Nat) : ∀ vs, (allT fs vs).length = 2 ^ vs.length
  | [] => rfl
  | v :: vs => by
    have key : ∀ l : List (List Nat), (l.flatMap fun r => [v :: r, par fs v :: r]).length = 2 * l.length := by
      intro l
      induction l with
      | nil => rfl
      | cons x l ih =>
        rw [List.flatMap_cons, List.length_append, ih]
        show 2 + 2 * l.length = 2 * (l.length + 1)
        omega
    show ((allT fs vs).flatMap _).length = _
    rw [key, allT_length fs vs, List.length_cons, Nat.pow_succ, Nat.mul_comm]
theorem allT_mem (fs S : List Nat) : ∀ vs, (vs.map fun v => if v ∈ S then par fs v else v) ∈ allT fs vs
  | [] => List.mem_singleton.mpr rfl
  | v :: vs => by
    refine List.mem_flatMap.mpr ⟨_, allT_mem fs S vs, ?_⟩
    rw [List.map_cons]
    by_cases z : v ∈ S
    · rw [if_pos z]
      exact List.mem_cons_of_mem _ List.mem_cons_self
    · rw [if_neg z]
      exact List.mem_cons_self
theorem nodup_sub {α : Type} : ∀ {l m : List α}, l.Nodup → (∀ x ∈ l, x ∈ m) → l.length ≤ m.length
  | [], m, _, _ => Nat.zero_le _
  | x :: l, m, nd, h => by
    obtain ⟨n1, n2⟩ := List.nodup_cons.mp nd
    have hx := h x List.mem_cons_self
    have := nodup_sub (l := l) (m := m.erase x) n2 fun y hy => (List.mem_erase_of_ne (fun e : y = x => n1 (e ▸ hy))).mpr (h y (List.mem_cons_of_mem _ hy))
    rw [List.length_erase_of_mem hx] at this
    have := List.length_pos_of_mem hx
    rw [List.length_cons]
    omega
/-- closed at M for the children below k -/
def ClsAt (fs : List Nat) (Ms : List (List Nat)) (M : List Nat) (k : Nat) : Prop := ∀ S v, v < k → M = there fs S → Bg fs S → Can fs S v → there fs (S ++ [v]) ∈ Ms
structure Srch (fs : List Nat) (Ms Ws : List (List Nat)) (ex : List Nat → Prop) : Prop where
  st : List.range fs.length ∈ Ms
  bg : ∀ M ∈ Ms, ∃ S, Bg fs S ∧ M = there fs S
  nd : Ms.Nodup
  sub : ∀ W ∈ Ws, W ∈ Ms
  cls : ∀ M ∈ Ms, M ∉ Ws → ¬ ex M → ClsAt fs Ms M fs.length
  le : Ws.length ≤ Ms.length
theorem Srch.few {fs : List Nat} {Ms Ws : List (List Nat)} {ex : List Nat → Prop} (h : Srch fs Ms Ws ex) : Ms.length ≤ 2 ^ fs.length := by
  have := nodup_sub (m := allT fs (List.range fs.length)) h.nd fun M hM => by
    obtain ⟨S, _, rfl⟩ := h.bg M hM
    exact allT_mem fs S _
  rw [allT_length, List.length_range] at this
  exact this
theorem Srch.start (fs : List Nat) : Srch fs [List.range fs.length] [List.range fs.length] fun _ => False :=
  ⟨List.mem_singleton.mpr rfl, fun M hM => ⟨[], .nil, by rw [List.mem_singleton.mp hM, there_nil]⟩, List.nodup_cons.mpr ⟨List.not_mem_nil, List.nodup_nil⟩, fun W h => h, fun M h1 h2 => absurd h1 h2, Nat.le_refl _⟩
theorem Srch.pop {fs : List Nat} {Ms Ws : List (List Nat)} {M : List Nat} (h : Srch fs Ms (Ws ++ [M]) fun _ => False) : Srch fs Ms Ws fun N => N = M :=
  ⟨h.st, h.bg, h.nd, fun W hW => h.sub W (List.mem_append_left _ hW), fun N h1 h2 h3 => h.cls N h1 (fun z => (List.mem_append.mp z).elim h2 fun y => h3 (List.mem_singleton.mp y)) id, by have := h.le; rw [List.length_append] at this; omega⟩
theorem Srch.back {fs : List Nat} {Ms Ws : List (List Nat)} {M : List Nat} (h : Srch fs Ms Ws fun N => N = M) (c : ClsAt fs Ms M fs.length) : Srch fs Ms Ws fun _ => False :=
  ⟨h.st, h.bg, h.nd, h.sub, fun N h1 h2 _ => by
    by_cases z : N = M
    · subst z
      exact c
    · exact h.cls N h1 h2 z, h.le⟩
theorem ClsAt.more {fs : List Nat} {Ms Ns : List (List Nat)} {M : List Nat} {k : Nat} (h : ClsAt fs Ms M k) (s : ∀ x ∈ Ms, x ∈ Ns) : ClsAt fs Ns M k := fun S v hv e b p => s _ (h S v hv e b p)
theorem Srch.add {fs : List Nat} {Ms Ws : List (List Nat)} {M S : List Nat} {v : Nat} (h : Srch fs Ms Ws fun N => N = M) (b : Bg fs S) (p : Can fs S v) (new : there fs (S ++ [v]) ∉ Ms) : Srch fs (Ms ++ [there fs (S ++ [v])]) (Ws ++ [there fs (S ++ [v])]) fun N => N = M := by
  refine ⟨List.mem_append_left _ h.st, fun N hN => ?_, ?_, fun W hW => ?_, fun N h1 h2 h3 => ?_, by have := h.le; rw [List.length_append, List.length_append]; exact Nat.add_le_add_right this _⟩
  · rcases List.mem_append.mp hN with z | z
    · exact h.bg N z
    · exact ⟨_, b.snoc p, List.mem_singleton.mp z⟩
  · refine List.nodup_append.mpr ⟨h.nd, List.nodup_cons.mpr ⟨List.not_mem_nil, List.nodup_nil⟩, fun x hx y hy e => ?_⟩
    rw [List.mem_singleton.mp hy] at e
    exact new (e ▸ hx)
  · rcases List.mem_append.mp hW with z | z
    · exact List.mem_append_left _ (h.sub W z)
    · exact List.mem_append_right _ z
  · rcases List.mem_append.mp h1 with z | z
    · exact (h.cls N z (fun y => h2 (List.mem_append_left _ y)) h3).more fun x hx => List.mem_append_left _ hx
    · exact absurd (List.mem_append_right _ z) h2
/-- at M = there fs S: all that is due for v -/
theorem ClsAt.next {fs : List Nat} {Ms : List (List Nat)} {S : List Nat} {k : Nat} (b : Bg fs S) (h : ClsAt fs Ms (there fs S) k) (new : Can fs S k → there fs (S ++ [k]) ∈ Ms) : ClsAt fs Ms (there fs S) (k + 1) := by
  intro T v hv e bT p
  by_cases z : v < k
  · exact h T v z e bT p
  · have z : v = k := by omega
    subst z
    have same := there_inj b.low bT.low e
    have := new (p.set fun x => (same x).symm)
    rw [there_set (T := S ++ [v]) fun x => by rw [List.mem_append, List.mem_append, same x]]
    exact this
theorem Srch.done {fs : List Nat} (F : Forest fs) {Ms : List (List Nat)} (h : Srch fs Ms [] fun _ => False) : fs ∈ Ms ↔ ∀ c, ¬ Heavy fs c := by
  constructor
  · intro hm c hc
    obtain ⟨S, b, e⟩ := h.bg fs hm
    exact b.light F c (there_get.mp e.symm c hc.1 hc.2.1) hc
  · intro nh
    have key : ∀ (n : Nat) (S : List Nat), Bg fs S → there fs S ∈ Ms → fs.length - S.length ≤ n → fs ∈ Ms := by
      intro n
      induction n with
      | zero =>
        intro S b hS le
        by_cases z : ∃ u, u < fs.length ∧ par fs u ≠ u ∧ u ∉ S
        · obtain ⟨u, h1, h2, h3⟩ := z
          have : (u :: S).length ≤ fs.length := nodup_le (List.nodup_cons.mpr ⟨h3, b.nodup⟩) fun x hx => by
            rcases List.mem_cons.mp hx with y | y
            · omega
            · exact (b.low x y).1
          rw [List.length_cons] at this
          omega
        · rw [there_get.mpr fun v h1 h2 => Classical.byContradiction fun h3 => z ⟨v, h1, h2, h3⟩] at hS
          exact hS
      | succ n ih =>
        intro S b hS le
        by_cases z : ∃ u, u < fs.length ∧ par fs u ≠ u ∧ u ∉ S
        · obtain ⟨u, h1, h2, h3⟩ := z
          obtain ⟨v, p⟩ := go_on F nh b.low h1 h2 h3
          refine ih (S ++ [v]) (b.snoc p) (h.cls _ hS List.not_mem_nil id S v p.low rfl b p) ?_
          rw [List.length_append]
          show fs.length - (S.length + 1) ≤ n
          omega
        · rw [there_get.mpr fun v h1 h2 => Classical.byContradiction fun h3 => z ⟨v, h1, h2, h3⟩] at hS
          exact hS
    exact key _ [] .nil (by rw [there_nil]; exact h.st) (Nat.le_refl _)
end
end Lf
namespace Lf
/-! ### histories: plain mathematics -/
noncomputable section
open Classical
theorem lowers_nodup (fs : List Nat) : (lowers fs).Nodup := List.Pairwise.filter _ List.nodup_range
theorem tops_lowers (fs : List Nat) : (tops fs).length + (lowers fs).length = fs.length := by
  have key : ∀ (l : List Nat) (p : Nat → Bool), (l.filter p).length + (l.filter fun v => !p v).length = l.length := by
    intro l p
    induction l with
    | nil => rfl
    | cons x l ih =>
      by_cases h : p x = true
      · rw [List.filter_cons_of_pos h, List.filter_cons_of_neg (by simp [h])]
        simp only [List.length_cons]
        omega
      · rw [List.filter_cons_of_neg h, List.filter_cons_of_pos (by simp [h])]
        simp only [List.length_cons]
        omega
  have := key (List.range fs.length) fun v => decide (par fs v = v)
  rw [List.length_range] at this
  exact this
/-- a whole history -/
def Hs (fs S : List Nat) : Prop := Bg fs S ∧ S.length = (lowers fs).length
theorem Bg.le {fs S : List Nat} (b : Bg fs S) : S.length ≤ (lowers fs).length := nodup_sub b.nodup fun v hv => mem_lowers.mpr (b.low v hv)
theorem Hs.all {fs S : List Nat} (h : Hs fs S) : ∀ v, v < fs.length → par fs v ≠ v → v ∈ S := by
  intro v hv lo
  refine Classical.byContradiction fun z => ?_
  have := nodup_sub (l := v :: S) (m := lowers fs) (List.nodup_cons.mpr ⟨z, h.1.nodup⟩) fun x hx => by
    rcases List.mem_cons.mp hx with y | y
    · rw [y]
      exact mem_lowers.mpr ⟨hv, lo⟩
    · exact mem_lowers.mpr (h.1.low x y)
  rw [List.length_cons, h.2] at this
  omega
theorem Hs.of {fs S : List Nat} (b : Bg fs S) (h : ∀ v, v < fs.length → par fs v ≠ v → v ∈ S) : Hs fs S := by
  refine ⟨b, Nat.le_antisymm b.le (nodup_sub (lowers_nodup fs) fun v hv => ?_)⟩
  obtain ⟨h1, h2⟩ := mem_lowers.mp hv
  exact h v h1 h2
theorem Hs.there {fs S : List Nat} (h : Hs fs S) : there fs S = fs := there_get.mpr h.all
theorem Bg.there {fs S : List Nat} (b : Bg fs S) (h : there fs S = fs) : Hs fs S := Hs.of b (there_get.mp h)
theorem Hs.light {fs S : List Nat} (F : Forest fs) (h : Hs fs S) : ∀ c, ¬ Heavy fs c := fun c hc => h.1.light F c (h.all c hc.1 hc.2.1) hc
/-- every beginning of a forest without heavy children can be finished -/
theorem Bg.ends {fs : List Nat} (F : Forest fs) (nh : ∀ c, ¬ Heavy fs c) : ∀ (n : Nat) (S : List Nat), Bg fs S → (lowers fs).length - S.length ≤ n → ∃ T, Hs fs (S ++ T) := by
  intro n
  induction n with
  | zero =>
    intro S b le
    have := b.le
    exact ⟨[], by rw [List.append_nil]; exact ⟨b, by omega⟩⟩
  | succ n ih =>
    intro S b le
    by_cases z : ∃ u, u < fs.length ∧ par fs u ≠ u ∧ u ∉ S
    · obtain ⟨u, h1, h2, h3⟩ := z
      obtain ⟨v, p⟩ := go_on F nh b.low h1 h2 h3
      obtain ⟨T, h⟩ := ih (S ++ [v]) (b.snoc p) (by rw [List.length_append]; show _ - (S.length + 1) ≤ n; omega)
      exact ⟨v :: T, by rw [List.append_assoc] at h; exact h⟩
    · exact ⟨[], by rw [List.append_nil]; exact Hs.of b fun v h1 h2 => Classical.byContradiction fun h3 => z ⟨v, h1, h2, h3⟩⟩
/-- what is possible stays possible -/
theorem Can.stay {fs S : List Nat} {v u : Nat} (p : Can fs S v) (ne : v ≠ u) : Can fs (S ++ [u]) v :=
  ⟨p.low, p.lo, fun z => (List.mem_append.mp z).elim p.new fun y => ne (List.mem_singleton.mp y), fun d hd => List.mem_append_left _ (p.all d hd), Nat.le_trans p.fit (grown_mono (fun x hx => List.mem_append_left _ hx) _)⟩
theorem Bg.last {fs S : List Nat} {v : Nat} (h : Bg fs (S ++ [v])) : Bg fs S ∧ Can fs S v := by
  generalize e : S ++ [v] = T at h
  cases h with
  | nil => cases S <;> cases e
  | @snoc S' v' b p =>
    obtain ⟨e1, e2⟩ := List.append_inj' e rfl
    cases e2
    subst e1
    exact ⟨b, p⟩
theorem Bg.pre {fs : List Nat} : ∀ {T S : List Nat}, Bg fs (S ++ T) → Bg fs S := by
  intro T
  induction T with
  | nil =>
    intro S h
    rw [List.append_nil] at h
    exact h
  | cons v T ih =>
    intro S h
    have : Bg fs ((S ++ [v]) ++ T) := by rw [List.append_assoc]; exact h
    exact (ih this).last.1
theorem Bg.take {fs S : List Nat} (h : Bg fs S) (k : Nat) : Bg fs (S.take k) := by
  rw [← List.take_append_drop k S] at h
  exact h.pre
theorem Bg.at {fs S : List Nat} (h : Bg fs S) {k v : Nat} (e : S[k]? = some v) : Can fs (S.take k) v := by
  have := h.take (k + 1)
  rw [List.take_add_one, e] at this
  exact this.last.2
/-! a join keeps a forest without heavy children -/
theorem par_join {fs : List Nat} {a b v : Nat} (ha : a < fs.length) : par (fs.set a b) v = if v = a then b else par fs v := par_set ha
theorem kids_join {fs : List Nat} {a b : Nat} (ha : a < fs.length) (pa : par fs a = a) (ne : a ≠ b) {x u : Nat} : u ∈ kids (fs.set a b) x ↔ u ∈ kids fs x ∨ (u = a ∧ x = b) := by
  rw [mem_kids, mem_kids, List.length_set, par_join ha]
  by_cases z : u = a
  · subst z
    rw [if_pos rfl]
    constructor
    · rintro ⟨_, h, _⟩
      exact .inr ⟨rfl, h.symm⟩
    · rintro (⟨_, h1, h2⟩ | ⟨_, h⟩)
      · exact absurd pa.symm h2
      · exact ⟨ha, h.symm, ne⟩
  · rw [if_neg z]
    constructor
    · exact fun h => .inl h
    · rintro (h | ⟨h, _⟩)
      · exact h
      · exact absurd h z
theorem sum_perm {l m : List Nat} (hl : l.Nodup) (hm : m.Nodup) (h : ∀ u, u ∈ l ↔ u ∈ m) (f : Nat → Nat) : (l.map f).sum = (m.map f).sum := by
  have := ((List.perm_ext_iff_of_nodup hl hm).mpr h).map f
  exact this.sum_nat
theorem join_forest {fs : List Nat} (F : Forest fs) {a b : Nat} (ha : a < fs.length) (pa : par fs a = a) (hb : b < fs.length) (pb : par fs b = b) (ne : a ≠ b) : Forest (fs.set a b) := F.moved ha hb fun z => by
  cases z with
  | refl => exact ne rfl
  | step h _ => exact h pb
theorem wt_join {fs : List Nat} (F : Forest fs) {a b : Nat} (ha : a < fs.length) (pa : par fs a = a) (hb : b < fs.length) (pb : par fs b = b) (ne : a ≠ b) : ∀ (n v : Nat), wt fs v ≤ n → v < fs.length → v ≠ b → wt (fs.set a b) v = wt fs v := by
  intro n
  have F' := join_forest F ha pa hb pb ne
  induction n with
  | zero =>
    intro v h hv
    have := wt_pos F hv
    omega
  | succ n ih =>
    intro v h hv nb
    rw [wt_kids F' (by rw [List.length_set]; exact hv), wt_kids F hv]
    congr 1
    rw [sum_perm (kids_nodup _ v) (kids_nodup fs v) (fun u => ?_) (wt (fs.set a b))]
    · refine sum_congr fun d hd => ?_
      obtain ⟨k1, k2, k3⟩ := mem_kids.mp hd
      refine ih d (by have := wt_lt F hv hd; omega) k1 fun e => ?_
      subst e
      exact k3 pb.symm
    · rw [kids_join ha pa ne]
      exact ⟨fun z => z.elim id fun y => absurd y.2 nb, .inl⟩
theorem join_light {fs : List Nat} (F : Forest fs) {a b : Nat} (ha : a < fs.length) (pa : par fs a = a) (hb : b < fs.length) (pb : par fs b = b) (ne : a ≠ b) (le : wt fs a ≤ wt fs b) (nh : ∀ c, ¬ Heavy fs c) : ∀ c, ¬ Heavy (fs.set a b) c := by
  have F' := join_forest F ha pa hb pb ne
  have same : ∀ v, v < fs.length → v ≠ b → wt (fs.set a b) v = wt fs v := fun v => wt_join F ha pa hb pb ne _ v (Nat.le_refl _)
  rintro c ⟨hc, lo, hv⟩
  rw [List.length_set] at hc
  rw [par_join ha] at lo hv
  have kb : ∀ {d x : Nat}, d ∈ kids fs x → d < fs.length ∧ d ≠ b := fun hd => by
    obtain ⟨k1, k2, k3⟩ := mem_kids.mp hd
    refine ⟨k1, fun e => ?_⟩
    subst e
    exact k3 pb.symm
  -- sums over old children only grow
  have grow : ∀ (x w : Nat), ((kids fs x).map fun d => if wt fs d < w then wt fs d else 0).sum ≤ ((kids (fs.set a b) x).map fun d => if wt (fs.set a b) d < w then wt (fs.set a b) d else 0).sum := by
    intro x w
    have e1 : ((kids fs x).map fun d => if wt fs d < w then wt fs d else 0).sum = ((kids fs x).map fun d => if wt (fs.set a b) d < w then wt (fs.set a b) d else 0).sum := sum_congr fun d hd => by
      obtain ⟨k1, k2⟩ := kb hd
      rw [same d k1 k2]
    rw [e1]
    by_cases z : x = b
    · subst z
      have e2 := sum_perm (m := a :: kids fs x) (kids_nodup (fs.set a x) x) (List.nodup_cons.mpr ⟨fun y => (mem_kids.mp y).2.2 pa.symm, kids_nodup fs x⟩) (fun u => by
        rw [kids_join ha pa ne, List.mem_cons]
        exact ⟨fun y => y.elim .inr fun q => .inl q.1, fun y => y.elim (fun q => .inr ⟨q, rfl⟩) .inl⟩) (fun d => if wt (fs.set a x) d < w then wt (fs.set a x) d else 0)
      rw [e2, List.map_cons, List.sum_cons]
      exact Nat.le_add_left _ _
    · rw [sum_perm (kids_nodup (fs.set a b) x) (kids_nodup fs x) fun u => by
        rw [kids_join ha pa ne]
        exact ⟨fun y => y.elim id fun q => absurd q.2 z, .inl⟩]
      exact Nat.le_refl _
  by_cases ca : c = a
  · subst ca
    rw [if_pos rfl] at lo hv
    rw [same c hc ne] at hv
    have g := grow b (wt fs c)
    -- the lightest child of b that is at least as heavy
    have key : ∀ (n d : Nat), wt fs d ≤ n → d ∈ kids fs b → wt fs c ≤ wt fs d → wt fs c ≤ 1 + ((kids fs b).map fun d => if wt fs d < wt fs c then wt fs d else 0).sum := by
      intro n
      induction n with
      | zero =>
        intro d h hd
        have := wt_pos F (kb hd).1
        omega
      | succ n ih =>
        intro d h hd hle
        by_cases y : ∃ e, e ∈ kids fs b ∧ wt fs c ≤ wt fs e ∧ wt fs e < wt fs d
        · obtain ⟨e, e1, e2, e3⟩ := y
          exact ih e (by omega) e1 e2
        · obtain ⟨k1, k2, k3⟩ := mem_kids.mp hd
          have hn := nh d
          unfold Heavy at hn
          have hn : wt fs d ≤ 1 + ((kids fs (par fs d)).map fun e => if wt fs e < wt fs d then wt fs e else 0).sum := Nat.le_of_not_lt fun q => hn ⟨k1, fun e => k3 e.symm, q⟩
          rw [k2] at hn
          refine Nat.le_trans hle (Nat.le_trans hn (Nat.add_le_add_left (sum_le fun e he => ?_) _))
          by_cases q : wt fs e < wt fs d
          · rw [if_pos q, if_pos (Nat.lt_of_not_le fun r => y ⟨e, he, r, q⟩)]
            exact Nat.le_refl _
          · rw [if_neg q]
            exact Nat.zero_le _
    have fin : wt fs c ≤ 1 + ((kids fs b).map fun d => if wt fs d < wt fs c then wt fs d else 0).sum := by
      by_cases y : ∃ d, d ∈ kids fs b ∧ wt fs c ≤ wt fs d
      · obtain ⟨d, h1, h2⟩ := y
        exact key _ d (Nat.le_refl _) h1 h2
      · refine Nat.le_trans le ?_
        rw [wt_kids F hb]
        refine Nat.add_le_add_left (sum_le fun d hd => ?_) _
        rw [if_pos (Nat.lt_of_not_le fun q => y ⟨d, hd, q⟩)]
        exact Nat.le_refl _
    omega
  · rw [if_neg ca] at lo hv
    have cb : c ≠ b := fun e => by
      subst e
      exact lo pb
    rw [same c hc cb] at hv
    have g := grow (par fs c) (wt fs c)
    exact nh c ⟨hc, lo, by omega⟩
theorem range_light (n : Nat) : ∀ c, ¬ Heavy (List.range n) c := fun c h => by
  have hc := h.1
  rw [List.length_range] at hc
  exact h.2.1 (par_range hc)
end
end Lf
namespace Lf
open PySem PySem.Spec PyProof.Rows L2
/-! ### comprehensions that draw; renamed forests -/
theorem lcR_drawA {Z : Zn} {ρ : List Sl} {R : Nat → PyData → Prop} {g : DG Z} {tt : DT Z} {te : DX Z} {Q : List PyData → Z.S → Prop} {n : Nat} (hs : ∀ k, k < n → ∀ (s : Z.S) (C : PyData → Z.S → Prop) (E : Z.S → Prop), (∀ x s2, R k x → C x s2) → g (.int (k : Nat)) ρ fun ρ' => tt s ρ' fun b s1 => if b = true then te s1 ρ' fun r s2 => ∃ x, r.st = some x ∧ C x s2 else E s1) (hn : n ≤ 1000000)
    (q : ∀ l s, l.length = n → (∀ k x, l[k]? = some x → R k x) → Q l s) : ∀ (m i : Nat) (acc : List PyData) (s : Z.S), i + m = n → acc.length = i → (∀ k x, acc[k]? = some x → R k x) → lcR g tt te ρ ((List.range' i m).map fun k => .int ((k : Nat) : Int)) s acc Q
  | 0, i, acc, s, e, el, h => q acc s (by omega) h
  | m + 1, i, acc, s, e, el, h => by
    rw [List.range'_succ, List.map_cons]
    unfold lcR
    have := hs i (by omega) s (fun x s2 => acc.length < 1000000 ∧ lcR g tt te ρ ((List.range' (i + 1) m).map fun k => .int ((k : Nat) : Int)) s2 (acc ++ [x]) Q) (fun s1 => lcR g tt te ρ ((List.range' (i + 1) m).map fun k => .int ((k : Nat) : Int)) s1 acc Q) (fun x s2 hx => ⟨by omega, lcR_drawA hs hn q m (i + 1) (acc ++ [x]) s2 (by omega) (by rw [List.length_append]; show acc.length + 1 = _; omega) (fun k y hy => by
      rcases Nat.lt_or_ge k acc.length with z | z
      · rw [List.getElem?_append_left z] at hy
        exact h k y hy
      · rw [List.getElem?_append_right z] at hy
        rcases Nat.eq_zero_or_pos (k - acc.length) with y0 | y0
        · rw [y0] at hy
          cases hy
          have : k = i := by omega
          rw [this]
          exact hx
        · rw [List.getElem?_eq_none (by show 1 ≤ _; omega)] at hy
          cases hy)⟩)
    exact this
theorem lcR_draw {Z : Zn} {ρ : List Sl} {R : Nat → PyData → Prop} {g : DG Z} {tt : DT Z} {te : DX Z} {Q : List PyData → Z.S → Prop} {n : Nat} {s : Z.S} (hs : ∀ k, k < n → ∀ (s : Z.S) (C : PyData → Z.S → Prop) (E : Z.S → Prop), (∀ x s2, R k x → C x s2) → g (.int (k : Nat)) ρ fun ρ' => tt s ρ' fun b s1 => if b = true then te s1 ρ' fun r s2 => ∃ x, r.st = some x ∧ C x s2 else E s1) (hn : n ≤ 1000000)
    (q : ∀ l s, l.length = n → (∀ k x, l[k]? = some x → R k x) → Q l s) : lcR g tt te ρ (rngD 0 n) s [] Q := by
  have := lcR_drawA hs hn q n 0 [] s (Nat.zero_add _) rfl (fun k x h => by cases h)
  rw [rng_nD]
  unfold nD
  rw [List.range_eq_range']
  exact this
theorem noLs_nD : ∀ l : List Nat, noLs (nD l) = true
  | [] => rfl
  | x :: l => by
    show (true && noLs (nD l)) = true
    rw [noLs_nD l]
    rfl
theorem clean_tupN (l : List Nat) : cleanR (.im (tupN l)) = true := noLs_nD l
theorem maxI (a b : Nat) : (if ((b : Nat) : Int) > ((a : Nat) : Int) then ((b : Nat) : Int) else ((a : Nat) : Int)) = ((max a b : Nat) : Int) := by
  by_cases h : a < b
  · rw [if_pos (by omega), Nat.max_eq_right (Nat.le_of_lt h)]
  · rw [if_neg (by omega), Nat.max_eq_left (by omega)]
/-- a list of drawn numbers -/
theorem nats_of {R : Nat → Nat → Prop} : ∀ {n : Nat} {l : List PyData}, l.length = n → (∀ k x, l[k]? = some x → ∃ y : Nat, x = .int (y : Nat) ∧ R k y) → ∃ ys : List Nat, l = nD ys ∧ ys.length = n ∧ ∀ k, k < n → R k (ys.getD k 0) := by
  intro n l hl h
  subst hl
  have hk : ∀ k : Nat, ∃ y : Nat, k < l.length → l[k]? = some (.int (y : Nat)) ∧ R k y := fun k => by
    rcases Nat.lt_or_ge k l.length with z | z
    · obtain ⟨y, e, r⟩ := h k _ (List.getElem?_eq_getElem z)
      exact ⟨y, fun _ => ⟨by rw [List.getElem?_eq_getElem z, e], r⟩⟩
    · exact ⟨0, fun y => absurd y (by omega)⟩
  refine ⟨(List.range l.length).map fun k => (hk k).choose, ?_, by rw [List.length_map, List.length_range], fun k hkl => ?_⟩
  · refine List.ext_getElem? fun i => ?_
    unfold nD
    rw [List.getElem?_map, List.getElem?_map]
    rcases Nat.lt_or_ge i l.length with z | z
    · rw [((hk i).choose_spec z).1, List.getElem?_range z]
      rfl
    · rw [List.getElem?_eq_none z, List.getElem?_eq_none (by rw [List.length_range]; exact z)]
      rfl
  · rw [List.getD_eq_getElem?_getD, List.getElem?_map, List.getElem?_range hkl]
    exact ((hk k).choose_spec hkl).2
theorem way_step {fs : List Nat} (F : Forest fs) {v : Nat} (hv : v < fs.length) (hn : par fs v ≠ v) : way fs v = v :: way fs (par fs v) := (way_pth F hv).inj (.step hn (way_pth F (F.rng v hv)))
theorem way_root {fs : List Nat} (F : Forest fs) {v : Nat} (hv : v < fs.length) (hn : par fs v = v) : way fs v = [v] := (way_pth F hv).inj (.root hn)
theorem asc_forest {ps : List Nat} (h0 : 0 < ps.length) (h1 : ps.length ≤ 24) (h : ∀ k, k < ps.length → ps.getD k 0 ≤ k) : Forest ps :=
  forest_rank (fun v => v) h0 h1 fun v hv => by
    have := h v hv
    unfold par
    refine ⟨by omega, ?_⟩
    omega
theorem ren_forest {ps od fs : List Nat} (F : Forest ps) (po : od.Perm (List.range ps.length)) (hl : fs.length = ps.length) (h : ∀ k, k < ps.length → par fs (od.getD k 0) = od.getD (par ps k) 0) : Forest fs := by
  have lo : od.length = ps.length := by rw [po.length_eq, List.length_range]
  have mem : ∀ v, v < ps.length → v ∈ od := fun v hv => po.mem_iff.mpr (List.mem_range.mpr hv)
  have nd : od.Nodup := po.nodup_iff.mpr List.nodup_range
  have get : ∀ v, v < ps.length → od.getD (od.idxOf v) 0 = v := fun v hv => by
    have hi := List.idxOf_lt_length_iff.mpr (mem v hv)
    rw [List.getD_eq_getElem?_getD, List.getElem?_eq_getElem hi]
    exact List.getElem_idxOf hi
  have ix : ∀ k, k < ps.length → od.idxOf (od.getD k 0) = k := fun k hk => by
    rw [List.getD_eq_getElem?_getD, List.getElem?_eq_getElem (by omega)]
    exact nd.idxOf_getElem k (by omega)
  have low : ∀ k, k < ps.length → od.getD k 0 < ps.length := fun k hk => by
    rw [List.getD_eq_getElem?_getD, List.getElem?_eq_getElem (by omega)]
    exact List.mem_range.mp (po.mem_iff.mp (List.getElem_mem (by omega)))
  refine forest_rank (fun v => (way ps (od.idxOf v)).length) (by rw [hl]; exact F.pos) (by rw [hl]; exact F.few) fun v hv => ?_
  rw [hl] at hv ⊢
  have hk : od.idxOf v < ps.length := by
    have := List.idxOf_lt_length_iff.mpr (mem v hv)
    omega
  have e := h _ hk
  rw [get v hv] at e
  have hp := F.rng _ hk
  rw [e]
  refine ⟨low _ hp, ?_⟩
  by_cases z : par ps (od.idxOf v) = od.idxOf v
  · rw [z, get v hv]
    exact .inl rfl
  · refine .inr ?_
    rw [ix _ hp, way_step F hk z, List.length_cons]
    omega
end Lf
namespace Lf
open PySem PySem.Spec PyProof.Rows L2
/-! ### depths and heights as mathematics -/
def dpt (fs : List Nat) (v : Nat) : Nat := (way fs v).length - 1
def dpts (fs : List Nat) : List Nat := (List.range fs.length).map (dpt fs)
/-- one way is walked up: the heights so far -/
def hiW : Nat → List Nat → List Nat → List Nat
  | _, [], hs => hs
  | c, u :: us, hs => hiW (c + 1) us (hs.set u (max (hs.getD u 0) c))
def hiN (fs : List Nat) : Nat → List Nat
  | 0 => List.replicate fs.length 0
  | k + 1 => hiW 0 (way fs k) (hiN fs k)
def his (fs : List Nat) : List Nat := hiN fs fs.length
theorem hiW_len : ∀ {us : List Nat} {c : Nat} {hs : List Nat}, (hiW c us hs).length = hs.length
  | [], _, _ => rfl
  | u :: us, c, hs => by
    unfold hiW
    rw [hiW_len, List.length_set]
theorem hiN_len {fs : List Nat} : ∀ k, (hiN fs k).length = fs.length
  | 0 => List.length_replicate
  | k + 1 => by
    unfold hiN
    rw [hiW_len, hiN_len k]
theorem hiW_snoc : ∀ {us : List Nat} {c u : Nat} {hs : List Nat}, hiW c (us ++ [u]) hs = (hiW c us hs).set u (max ((hiW c us hs).getD u 0) (c + us.length))
  | [], c, u, hs => rfl
  | x :: us, c, u, hs => by
    rw [List.cons_append]
    unfold hiW
    rw [hiW_snoc, List.length_cons, show c + 1 + us.length = c + (us.length + 1) from by omega]
/-! what the heights are -/
theorem getD_set {l : List Nat} {i j x : Nat} (h : i < l.length) : (l.set i x).getD j 0 = if i = j then x else l.getD j 0 := by
  rw [List.getD_eq_getElem?_getD, List.getD_eq_getElem?_getD]
  by_cases e : i = j
  · subst e
    rw [if_pos rfl, List.getElem?_set_self h]
    rfl
  · rw [if_neg e, List.getElem?_set_ne e]
theorem getD_set_le {l : List Nat} {i j x : Nat} (h : l.getD i 0 ≤ x) : l.getD j 0 ≤ (l.set i x).getD j 0 := by
  rcases Nat.lt_or_ge i l.length with z | z
  · rw [getD_set z]
    split
    · next e => rw [← e]; exact h
    · exact Nat.le_refl _
  · rw [List.set_eq_of_length_le z]
    exact Nat.le_refl _
theorem hiW_mono : ∀ {us : List Nat} {c u : Nat} {hs : List Nat}, hs.getD u 0 ≤ (hiW c us hs).getD u 0
  | [], _, _, _ => Nat.le_refl _
  | x :: us, c, u, hs => by
    unfold hiW
    exact Nat.le_trans (getD_set_le (Nat.le_max_left _ _)) hiW_mono
theorem hiW_ge : ∀ {us : List Nat} {c j u : Nat} {hs : List Nat}, us[j]? = some u → u < hs.length → c + j ≤ (hiW c us hs).getD u 0
  | [], _, _, _, _, h, _ => by cases h
  | x :: us, c, 0, u, hs, h, hu => by
    cases h
    unfold hiW
    refine Nat.le_trans ?_ hiW_mono
    rw [getD_set hu, if_pos rfl]
    exact Nat.le_max_right _ _
  | x :: us, c, j + 1, u, hs, h, hu => by
    unfold hiW
    have := hiW_ge (c := c + 1) (hs := hs.set x (max (hs.getD x 0) c)) (show us[j]? = some u from h) (by rw [List.length_set]; exact hu)
    omega
theorem hiW_at : ∀ {us : List Nat} {c u : Nat} {hs : List Nat}, (hiW c us hs).getD u 0 = hs.getD u 0 ∨ ∃ j, us[j]? = some u ∧ (hiW c us hs).getD u 0 = c + j
  | [], _, _, _ => .inl rfl
  | x :: us, c, u, hs => by
    unfold hiW
    rcases hiW_at (us := us) (c := c + 1) (u := u) (hs := hs.set x (max (hs.getD x 0) c)) with e | ⟨j, hj, e⟩
    · rcases Nat.lt_or_ge x hs.length with z | z
      · rw [getD_set z] at e
        by_cases y : x = u
        · rw [if_pos y] at e
          subst y
          rcases Nat.le_total (hs.getD x 0) c with w | w
          · exact .inr ⟨0, rfl, e.trans (Nat.max_eq_right w)⟩
          · exact .inl (e.trans (Nat.max_eq_left w))
        · rw [if_neg y] at e
          exact .inl e
      · rw [List.set_eq_of_length_le z] at e ⊢
        exact .inl e
    · exact .inr ⟨j + 1, hj, by omega⟩
theorem hiN_ge {fs : List Nat} (F : Forest fs) : ∀ {k v j u : Nat}, k ≤ fs.length → v < k → (way fs v)[j]? = some u → j ≤ (hiN fs k).getD u 0
  | k + 1, v, j, u, hk, hv, h => by
    have hu : u < fs.length := way_lt F (show v < fs.length by omega) u (List.mem_of_getElem? h)
    unfold hiN
    rcases Nat.lt_or_ge v k with z | z
    · exact Nat.le_trans (hiN_ge F (by omega) z h) hiW_mono
    · have : v = k := by omega
      subst this
      have := hiW_ge (c := 0) (hs := hiN fs v) h (by rw [hiN_len]; exact hu)
      omega
theorem hiN_at {fs : List Nat} : ∀ {k u : Nat}, (hiN fs k).getD u 0 = 0 ∨ ∃ v, v < k ∧ (way fs v)[(hiN fs k).getD u 0]? = some u
  | 0, u => .inl (by
    show (List.replicate fs.length 0).getD u 0 = 0
    rw [List.getD_eq_getElem?_getD, List.getElem?_replicate]
    split <;> rfl)
  | k + 1, u => by
    unfold hiN
    rcases hiW_at (us := way fs k) (c := 0) (u := u) (hs := hiN fs k) with e | ⟨j, hj, e⟩
    · rw [e]
      rcases hiN_at (fs := fs) (k := k) (u := u) with z | ⟨v, hv, z⟩
      · exact .inl z
      · exact .inr ⟨v, by omega, z⟩
    · rw [e, Nat.zero_add]
      exact .inr ⟨k, Nat.lt_succ_self _, hj⟩
theorem Pth.next {fs : List Nat} {v : Nat} {l : List Nat} (p : Pth fs v l) : ∀ {j c : Nat}, l[j]? = some c → (par fs c = c ∧ j + 1 = l.length) ∨ (par fs c ≠ c ∧ l[j + 1]? = some (par fs c)) := by
  induction p with
  | @root v h =>
    intro j c e
    cases j with
    | zero => cases e; exact .inl ⟨h, rfl⟩
    | succ j => cases e
  | @step v l h p ih =>
    intro j c e
    cases j with
    | zero =>
      cases e
      refine .inr ⟨h, ?_⟩
      show l[0]? = some (par fs v)
      cases p <;> rfl
    | succ j =>
      rcases ih (show l[j]? = some c from e) with ⟨a, b⟩ | ⟨a, b⟩
      · exact .inl ⟨a, by rw [List.length_cons]; omega⟩
      · exact .inr ⟨a, b⟩
def hgt (fs : List Nat) (u : Nat) : Nat := (his fs).getD u 0
theorem hgt_kid {fs : List Nat} (F : Forest fs) {c : Nat} (hc : c < fs.length) (hn : par fs c ≠ c) : hgt fs c + 1 ≤ hgt fs (par fs c) := by
  rcases hiN_at (fs := fs) (k := fs.length) (u := c) with z | ⟨v, hv, z⟩
  · have e : (way fs c)[0]? = some c := by rw [way_step F hc hn]; rfl
    rcases (way_pth F hc).next e with ⟨a, _⟩ | ⟨_, b⟩
    · exact absurd a hn
    · have := hiN_ge F (Nat.le_refl _) hc b
      unfold hgt his
      rw [z]
      exact this
  · rcases (way_pth F hv).next z with ⟨a, _⟩ | ⟨_, b⟩
    · exact absurd a hn
    · exact hiN_ge F (Nat.le_refl _) hv b
theorem hgt_at {fs : List Nat} (F : Forest fs) {u : Nat} (h : 0 < hgt fs u) : ∃ c, c < fs.length ∧ par fs c = u ∧ c ≠ u ∧ hgt fs c + 1 = hgt fs u := by
  rcases hiN_at (fs := fs) (k := fs.length) (u := u) with z | ⟨v, hv, z⟩
  · exact absurd z (by unfold hgt his at h; omega)
  · have z : (way fs v)[hgt fs u]? = some u := z
    obtain ⟨x, hx⟩ : ∃ x, hgt fs u = x + 1 := ⟨hgt fs u - 1, by omega⟩
    rw [hx] at z
    have hl := (List.getElem?_eq_some_iff.mp z).1
    have e : (way fs v)[x]? = some ((way fs v)[x]'(by omega)) := List.getElem?_eq_getElem (by omega)
    generalize (way fs v)[x]'(by omega) = c at e
    have hc : c < fs.length := way_lt F hv c (List.mem_of_getElem? e)
    rcases (way_pth F hv).next e with ⟨_, b⟩ | ⟨a, b⟩
    · omega
    · rw [z] at b
      cases b
      have h1 := hgt_kid F hc a
      have h2 : x ≤ hgt fs c := hiN_ge F (Nat.le_refl _) hv e
      exact ⟨c, hc, rfl, fun y => a y.symm, by omega⟩
theorem hgt_lt {fs : List Nat} (F : Forest fs) (u : Nat) : hgt fs u < fs.length := by
  rcases hiN_at (fs := fs) (k := fs.length) (u := u) with z | ⟨v, hv, z⟩
  · have := F.pos
    unfold hgt his
    omega
  · have h1 := (List.getElem?_eq_some_iff.mp z).1
    have h2 := (way_len F hv).2
    exact Nat.lt_of_lt_of_le h1 h2
/-! heights by rounds over all vertices -/
def tS (fs : List Nat) (hs : List Nat) (c : Nat) : List Nat := if par fs c = c then hs else hs.set (par fs c) (max (hs.getD (par fs c) 0) (hs.getD c 0 + 1))
def tR (fs : List Nat) (hs : List Nat) : Nat → List Nat
  | 0 => hs
  | c + 1 => tS fs (tR fs hs c) c
def tN (fs : List Nat) : Nat → List Nat
  | 0 => List.replicate fs.length 0
  | k + 1 => tR fs (tN fs k) fs.length
theorem tS_len {fs hs : List Nat} {c : Nat} : (tS fs hs c).length = hs.length := by
  unfold tS
  split
  · rfl
  · rw [List.length_set]
theorem tR_len {fs hs : List Nat} : ∀ c, (tR fs hs c).length = hs.length
  | 0 => rfl
  | c + 1 => by
    unfold tR
    rw [tS_len, tR_len c]
theorem tN_len {fs : List Nat} : ∀ k, (tN fs k).length = fs.length
  | 0 => List.length_replicate
  | k + 1 => by
    unfold tN
    rw [tR_len, tN_len k]
theorem tS_mono {fs hs : List Nat} {c u : Nat} : hs.getD u 0 ≤ (tS fs hs c).getD u 0 := by
  unfold tS
  split
  · exact Nat.le_refl _
  · exact getD_set_le (Nat.le_max_left _ _)
theorem tR_mono {fs hs : List Nat} {u : Nat} : ∀ {c d : Nat}, c ≤ d → (tR fs hs c).getD u 0 ≤ (tR fs hs d).getD u 0
  | c, 0, h => by
    have : c = 0 := by omega
    subst this
    exact Nat.le_refl _
  | c, d + 1, h => by
    rcases Nat.lt_or_ge d c with z | z
    · have : c = d + 1 := by omega
      subst this
      exact Nat.le_refl _
    · exact Nat.le_trans (tR_mono z) tS_mono
theorem tS_le {fs hs : List Nat} (F : Forest fs) (hl : hs.length = fs.length) {c : Nat} (hc : c < fs.length) (h : ∀ u, hs.getD u 0 ≤ hgt fs u) (u : Nat) : (tS fs hs c).getD u 0 ≤ hgt fs u := by
  unfold tS
  split
  · exact h u
  · next hn =>
    rw [getD_set (by rw [hl]; exact F.rng c hc)]
    split
    · next e =>
      have h1 := hgt_kid F hc hn
      have h2 := h c
      have h3 := h (par fs c)
      rw [← e]
      exact Nat.max_le.mpr ⟨h3, by omega⟩
    · exact h u
theorem tR_le {fs hs : List Nat} (F : Forest fs) (hl : hs.length = fs.length) (h : ∀ u, hs.getD u 0 ≤ hgt fs u) : ∀ c, c ≤ fs.length → ∀ u, (tR fs hs c).getD u 0 ≤ hgt fs u
  | 0, _ => h
  | c + 1, hc => fun u => tS_le F (by rw [tR_len]; exact hl) (by omega) (tR_le F hl h c (by omega)) u
theorem tN_le {fs : List Nat} (F : Forest fs) : ∀ k u, (tN fs k).getD u 0 ≤ hgt fs u
  | 0, u => by
    show (List.replicate fs.length 0).getD u 0 ≤ _
    rw [List.getD_eq_getElem?_getD, List.getElem?_replicate]
    split <;> exact Nat.zero_le _
  | k + 1, u => tR_le F (tN_len k) (tN_le F k) _ (Nat.le_refl _) u
theorem tN_ge {fs : List Nat} (F : Forest fs) : ∀ k u, hgt fs u ≤ k → hgt fs u ≤ (tN fs k).getD u 0
  | 0, u, h => by omega
  | k + 1, u, h => by
    rcases Nat.eq_zero_or_pos (hgt fs u) with z | z
    · omega
    · obtain ⟨c, hc, rfl, ne, e⟩ := hgt_at F z
      have h1 := tN_ge F k c (by omega)
      have h2 : (tN fs k).getD c 0 ≤ (tR fs (tN fs k) c).getD c 0 := tR_mono (Nat.zero_le _)
      refine Nat.le_trans ?_ (tR_mono (show c + 1 ≤ fs.length by omega))
      unfold tR tS
      rw [if_neg (fun y => ne y.symm), getD_set (by rw [tR_len, tN_len]; exact F.rng c hc), if_pos rfl]
      have := Nat.le_max_right ((tR fs (tN fs k) c).getD (par fs c) 0) ((tR fs (tN fs k) c).getD c 0 + 1)
      omega
theorem tall_his {fs : List Nat} (F : Forest fs) : tN fs fs.length = his fs := by
  refine List.ext_getElem? fun i => ?_
  rcases Nat.lt_or_ge i fs.length with z | z
  · have h1 := tN_le F fs.length i
    have h2 := tN_ge F fs.length i (Nat.le_of_lt (hgt_lt F i))
    have e : (tN fs fs.length).getD i 0 = (his fs).getD i 0 := Nat.le_antisymm h1 h2
    rw [List.getD_eq_getElem?_getD, List.getD_eq_getElem?_getD, List.getElem?_eq_getElem (by rw [tN_len]; exact z), List.getElem?_eq_getElem (by unfold his; rw [hiN_len]; exact z)] at e
    rw [List.getElem?_eq_getElem (by rw [tN_len]; exact z), List.getElem?_eq_getElem (by unfold his; rw [hiN_len]; exact z)]
    exact congrArg some e
  · rw [List.getElem?_eq_none (by rw [tN_len]; exact z), List.getElem?_eq_none (by unfold his; rw [hiN_len]; exact z)]
end Lf
namespace Lf
open PySem PySem.Spec PyProof.Rows L2
/-! ### forests.py: children -/
def kidL (fs : List Nat) (v : Nat) : List Nat := (List.range fs.length).filter fun k => decide (par fs k = v) && decide (k ≠ v)
def fKids : DF Z0 := fun s as Q => ∃ (fs : List Nat) (v : Nat), as = [.im (tupN fs), .im (.int (v : Nat))] ∧ Forest fs ∧ v < fs.length ∧ Q (.im (tupN (kidL fs v))) s
theorem kidL_len {fs : List Nat} {v : Nat} : (kidL fs v).length ≤ fs.length := by
  have := List.length_filter_le (fun k => decide (par fs k = v) && decide (k ≠ v)) (List.range fs.length)
  rw [List.length_range] at this
  exact this
theorem kidL_lt {fs : List Nat} {v k : Nat} (h : k ∈ kidL fs v) : k < fs.length := List.mem_range.mp (List.mem_filter.mp h).1
def topL (fs : List Nat) : List Nat := (List.range fs.length).filter fun v => decide (par fs v = v)
def fRoots : DF Z0 := fun s as Q => ∃ fs : List Nat, as = [.im (tupN fs)] ∧ Forest fs ∧ Q (.im (tupN (topL fs))) s
section
variable {P : Program} {w : World} {K : PySem.W.Frag} {mg : Str → Option Value} {base : Heap}
abbrev s_children_of : Stmt := topS (12)
abbrev N_children_of : List Str := ["forest", "vertex", "child", "parent"]
abbrev p_children_of : List Str := ["forest", "vertex"]
theorem sc_children_of : FnScope N_children_of p_children_of (defScope s_children_of) := ⟨rfl, rfl, rfl, by decide +kernel, rfl, by decide +kernel, by decide +kernel⟩
theorem ok_children_of (M : Mk K mg "children_of" s_children_of p_children_of) (d_check_vertex : Df P w K mg base CX0 3 "check_vertex" p_check_vertex (spD Z0 fCheck)) (m_enumerate : mg "enumerate" = none) (m_tuple : mg "tuple" = none) : Df P w K mg base CX0 4 "children_of" p_children_of (spD Z0 fKids) := by
  have nd := sc_children_of.nd
  refine def_ok (k := 3) M sc_children_of (by decide) ?_ (fun f cdv A outer s H E hr => have hu := hu65 hr; (ds_cons (ds_expr (de_callP d_check_vertex pass0 hr (da_cons (dv 0) (da_cons (dv 1) da_nil))))
      (ds_one (ds_ret (de_tuple (by rfl) m_tuple (da_cons (de_lc (ow := [("child", 2), ("parent", 3)]) (gok_tup (is := [2, 3]) (n := 2) rfl (by decide)) rfl nd (di_enumQ (by rfl) m_enumerate (da_cons (dv 0) da_nil)) (blkOk_by (own := [("child", 2), ("parent", 3)]) (N := N_children_of) (sc := defScope s_children_of) (by decide +kernel)) (fun _ _ _ _ _ => pg_tup rfl (pgs_cons (pg_name (i := 2) nd rfl (Or.inl rfl)) (pgs_cons (pg_name (i := 3) nd rfl (Or.inl rfl)) pgs_nil))) (fun _ _ _ _ _ => (dp_one (PW.pt (dw_and (dt_eq hu (dv 3) (dv 1)) (dw_and1 (dt_ne hu (dv 2) (dv 1))))))) (fun _ _ _ _ _ => (dv 2))) da_nil)))))) ?_
  · rintro s as Qd ⟨fs, v, rfl, _⟩; rfl
  · rintro s as Qd ⟨fs, v, rfl, hF, hv, q⟩
    have few := hF.few
    refine ⟨fs, v, rfl, hv, .inl rfl, ?_⟩
    refine ⟨rfl, ?_⟩
    show lcR _ _ _ _ (enumD (nD fs)) _ [] _
    rw [enum_nD]
    refine lcR_map (h := fun k => PyData.tuple [.int (k : Nat), .int (fs.getD k 0 : Nat)]) (f := fun k => if (decide (par fs k = v) && decide (k ≠ v)) = true then some (.int (k : Nat)) else none) (fun k hk C hC => ?_) (by rw [List.length_range]; show 0 + _ ≤ 1000000; omega) ?_
    · show if decide (((par fs k : Nat) : Int) = ((v : Nat) : Int)) = true then _ else _
      by_cases z : par fs k = v
      · rw [if_pos (decide_eq_true (by omega))]
        show if (!decide (((k : Nat) : Int) = ((v : Nat) : Int))) = true then _ else _
        by_cases z2 : k = v
        · rw [if_neg (by rw [decide_eq_true (by omega)]; exact Bool.false_ne_true)]
          rw [if_neg (by rw [decide_eq_true z, decide_eq_false (fun y => y z2)]; exact Bool.false_ne_true)] at hC
          exact hC
        · rw [if_pos (by rw [decide_eq_false (by omega)]; rfl)]
          rw [if_pos (by rw [decide_eq_true z, decide_eq_true z2]; rfl)] at hC
          exact ⟨_, rfl, hC⟩
      · rw [if_neg (by rw [decide_eq_false (by omega)]; exact Bool.false_ne_true), if_neg Bool.false_ne_true]
        rw [if_neg (by rw [decide_eq_false z]; exact Bool.false_ne_true)] at hC
        exact hC
    · rw [List.nil_append, fm_if]
      exact q
abbrev s_roots : Stmt := topS (11)
abbrev N_roots : List Str := ["forest", "vertex", "parent"]
abbrev p_roots : List Str := ["forest"]
theorem sc_roots : FnScope N_roots p_roots (defScope s_roots) := ⟨rfl, rfl, rfl, by decide +kernel, rfl, by decide +kernel, by decide +kernel⟩
theorem ok_droots (M : Mk K mg "roots" s_roots p_roots) (m_enumerate : mg "enumerate" = none) (m_tuple : mg "tuple" = none) : Df P w K mg base CX0 1 "roots" p_roots (spD Z0 fRoots) := by
  have nd := sc_roots.nd
  refine def_ok (k := 0) M sc_roots (by decide) ?_ (fun f cdv A outer s H E hr => have hu := hu65 hr; (ds_one (ds_ret (de_tuple (by rfl) m_tuple (da_cons (de_lc (ow := [("vertex", 1), ("parent", 2)]) (gok_tup (is := [1, 2]) (n := 2) rfl (by decide)) rfl nd (di_enumQ (by rfl) m_enumerate (da_cons (dv 0) da_nil)) (blkOk_by (own := [("vertex", 1), ("parent", 2)]) (N := N_roots) (sc := defScope s_roots) (by decide +kernel)) (fun _ _ _ _ _ => pg_tup rfl (pgs_cons (pg_name (i := 1) nd rfl (Or.inl rfl)) (pgs_cons (pg_name (i := 2) nd rfl (Or.inl rfl)) pgs_nil))) (fun _ _ _ _ _ => (dp_one (dt_eq hu (dv 2) (dv 1)))) (fun _ _ _ _ _ => (dv 1))) da_nil))))) ?_
  · rintro s as Qd ⟨fs, rfl, _⟩; rfl
  · rintro s as Qd ⟨fs, rfl, hF, q⟩
    have few := hF.few
    refine ⟨rfl, ?_⟩
    show lcR _ _ _ _ (enumD (nD fs)) _ [] _
    rw [enum_nD]
    refine lcR_map (h := fun k => PyData.tuple [.int (k : Nat), .int (fs.getD k 0 : Nat)]) (f := fun k => if decide (par fs k = k) = true then some (.int (k : Nat)) else none) (fun k hk C hC => ?_) (by rw [List.length_range]; show 0 + _ ≤ 1000000; omega) ?_
    · show if decide (((par fs k : Nat) : Int) = ((k : Nat) : Int)) = true then _ else _
      by_cases z : par fs k = k
      · rw [if_pos (decide_eq_true (by omega))]
        rw [if_pos (decide_eq_true z)] at hC
        exact ⟨_, rfl, hC⟩
      · rw [if_neg (by rw [decide_eq_false (by omega)]; exact Bool.false_ne_true)]
        rw [if_neg (by rw [decide_eq_false z]; exact Bool.false_ne_true)] at hC
        exact hC
    · rw [List.nil_append, fm_if]
      exact q
end
end Lf
namespace Lf
open PySem PySem.Spec PyProof.Rows L2
/-! ### depths.py over data -/
theorem max_int (a b : Nat) : (if ((b : Nat) : Int) > ((a : Nat) : Int) then ((b : Nat) : Int) else ((a : Nat) : Int)) = ((max a b : Nat) : Int) := by
  by_cases h : a < b
  · rw [if_pos (by omega), Nat.max_eq_right (Nat.le_of_lt h)]
  · rw [if_neg (by omega), Nat.max_eq_left (by omega)]
def fDepths : DF Z0 := fun s as Q => ∃ fs : List Nat, as = [.im (tupN fs)] ∧ Forest fs ∧ Q (.im (tupN (dpts fs))) s
def fHeights : DF Z0 := fun s as Q => ∃ fs : List Nat, as = [.im (tupN fs)] ∧ Forest fs ∧ Q (.im (tupN (his fs))) s
def fTotal : DF Z0 := fun s as Q => ∃ fs : List Nat, as = [.im (tupN fs)] ∧ Forest fs ∧ Q (.im (.int ((dpts fs).sum : Nat))) s
theorem sumN : ∀ l : List Nat, (l.map fun x => ((x : Nat) : Int)).sum = ((l.sum : Nat) : Int)
  | [] => rfl
  | x :: l => by
    have := sumN l
    simp only [List.map_cons, List.sum_cons]
    omega
section
variable {P : Program} {w : World} {K : PySem.W.Frag} {mg : Str → Option Value} {base : Heap}
end
end Lf
set_option maxHeartbeats 4000000
namespace Lf
open PySem PySem.Spec PyProof.Rows L2
/-! ### tuple * int, also by 0 and 1 -/
theorem tuple_mul1 (l : Addr) (items : Array Value) (n : Nat) (dd : Option Addr) (sl : Array (Option Value)) (u : Tok) :
    Meets (Builtin.«tuple.__mul__» ⟨[.ref l, .int 1 u], []⟩) (fun _ R s => s.heap.get? l = some { cls := .type "tuple", dict := dd, data := .seq items n, slots := sl } ∧ R (.ok (.ret (Value.ref l))) s) :=
  .of_wp fun prog w A R s h => by
    obtain ⟨hp, g, d, tk, os⟩ := s
    obtain ⟨hl, h⟩ := h
    have f1 := AutoSeq1.idx_int
    have c1 : (items.isEmpty || (1 : Int) == 1) = true := by simp
    wp_walk using wpAny_loadPart' hl
    exact ⟨_, rfl, h⟩
theorem tuple_mul0 (l : Addr) (items : Array Value) (n : Nat) (dd : Option Addr) (sl : Array (Option Value)) (x : Int) (u : Tok) (c0 : (decide (x < -(2 ^ 63)) || decide (x ≥ 2 ^ 63)) = false) (c1 : (items.isEmpty || x == 1) = false) (c2 : (decide (x ≤ 0) || items.isEmpty) = true) :
    Meets (Builtin.«tuple.__mul__» ⟨[.ref l, .int x u], []⟩) (fun _ R s => s.heap.get? l = some { cls := .type "tuple", dict := dd, data := .seq items n, slots := sl } ∧
      R (.ok (.ret (Value.ref s.heap.objs.size))) { s with heap := s.heap.push { cls := Value.type "tuple", data := Data.seq #[] }, toks := s.toks }) :=
  .of_wp fun prog w A R s h => by
    obtain ⟨hp, g, d, tk, os⟩ := s
    obtain ⟨hl, h⟩ := h
    have f1 := AutoSeq1.idx_int
    wp_walk using wpAny_loadPart' hl
    repeat (first
      | (refine wpAny_ite_false (decide_eq_false (by rw [c0]; exact Bool.false_ne_true)) ?_; wp_walk using wpAny_loadPart' hl)
      | (refine wpAny_ite_false (decide_eq_false (by rw [c1]; exact Bool.false_ne_true)) ?_; wp_walk using wpAny_loadPart' hl)
      | (refine wpAny_ite_true (decide_eq_true c2) ?_; wp_walk using wpAny_loadPart' hl)
      | (refine wpAny_ite_false (decide_eq_false (by decide)) ?_; wp_walk using wpAny_loadPart' hl))
    exact ⟨_, rfl, h⟩
section
variable {X : Cx}
def rRepS (K : PySem.W.Frag) : R2 := fun x y H Q => ∃ l k xs, x = .ref l ∧ y = .int k ∧ SqT K H l xs ∧ xs ≠ [] ∧ -1000 ≤ k ∧ k ≤ 1 ∧ (k = 1 → Q (.ref l) H) ∧ (k ≤ 0 → ∀ p, H p = none → Q (.ref p) (upd H p (.tup [])))
theorem op_repS : OpR X (binaryOp .Mult) (rRepS X.K) := by
  intro pins s σ H x y v u Q I rx ry h
  obtain ⟨l, k, xs, rfl, rfl, hT, hne, h1, h2, q1, q0⟩ := h
  cases rx
  obtain ⟨t, rfl⟩ := ry
  obtain ⟨its, r, ⟨⟨cls, dd, data, sl⟩, ho, hc, n, hd⟩, hs⟩ := I.tuple hT
  simp only at hc hd
  subst hc hd
  have hle : its.length = xs.length := r.length.symm
  have hn : its ≠ [] := fun e => hne (by
    rw [e] at hle
    exact List.eq_nil_of_length_eq_zero hle.symm)
  have hi : its.toArray.isEmpty = false := by
    cases its with
    | nil => exact absurd rfl hn
    | cons a b => rfl
  by_cases hk : k = 1
  · subst hk
    refine wpAny_binaryOp_repeat_ref (T := "tuple") (U := "int") (by decide) ⟨_, ho, rfl⟩ (fun s' => typeIs_int s' 1 t) noFill_tuple_mul F.fills_int_mul F.slot_int_rmul repeat_tuple F.slot_int_index.lookup
      (call_meets F.slot_int_rmul (typeIs_int s 1 t) F.entry_int_rmul (F.args_int_rmul_2 _ _) (int_rmul_tuple 1 t l its.toArray n dd sl)
        ⟨ho, rfl, ⟨_, ho, rfl⟩, call_meets F.slot_tuple_mul ⟨_, ho, rfl⟩ F.entry_tuple_mul (F.args_tuple_mul_2 _ _) (tuple_mul1 l its.toArray n dd sl t) ⟨ho, ?_⟩⟩)
    exact ⟨.ref l, H, I, rfl, q1 rfl⟩
  · have c0 : (decide (k < -(2 ^ 63)) || decide (k ≥ 2 ^ 63)) = false := by
      rw [decide_eq_false (by omega), decide_eq_false (by omega)] <;> rfl
    have c1 : (its.toArray.isEmpty || k == 1) = false := by
      rw [hi, Bool.false_or]
      exact beq_eq_false_iff_ne.mpr hk
    have c2 : (decide (k ≤ 0) || its.toArray.isEmpty) = true := by
      rw [decide_eq_true (by omega)]
      rfl
    refine wpAny_binaryOp_repeat_ref (T := "tuple") (U := "int") (by decide) ⟨_, ho, rfl⟩ (fun s' => typeIs_int s' k t) noFill_tuple_mul F.fills_int_mul F.slot_int_rmul repeat_tuple F.slot_int_index.lookup
      (call_meets F.slot_int_rmul (typeIs_int s k t) F.entry_int_rmul (F.args_int_rmul_2 _ _) (int_rmul_tuple k t l its.toArray n dd sl)
        ⟨ho, rfl, ⟨_, ho, rfl⟩, call_meets F.slot_tuple_mul ⟨_, ho, rfl⟩ F.entry_tuple_mul (F.args_tuple_mul_2 _ _) (tuple_mul0 l its.toArray n dd sl k t c0 c1 c2) ⟨ho, ?_⟩⟩)
    refine ⟨.ref s.heap.objs.size, _, I.laid (t' := s.toks) (o := .tup []) (fun b ob q => Heap.get?_push_of_some _ q) (Nat.le_refl _) ?_, rfl, q0 (by omega) _ (I.hok.fresh (Nat.le_refl _))⟩
    exact ⟨Nat.zero_le _, [], .nil, IsTup.new _ _⟩
variable {Z : Zn} {a b : Expr} {da db : DX Z} {pos : Pos}
def opMulT : Op := fun x y Q => match x.D, y.D with
  | some (.int i), some (.int j) => CMulW i j ∧ Q (.im (.int (i * j)))
  | some (.list l), some (.int k) => -(2 ^ 63) ≤ k ∧ k < 2 ^ 63 ∧ l.length * k.toNat ≤ 1000000 ∧ Q (.fr (List.replicate k.toNat l).flatten)
  | some (.tuple l), some (.int k) => l ≠ [] ∧ -1000 ≤ k ∧ k ≤ 1000 ∧ l.length ≤ 1000 ∧ Q (.im (.tuple (List.replicate k.toNat l).flatten))
  | _, _ => False
theorem de_mulT (ha : DE Z X a da) (hb : DE Z X b db) : DE Z X (.BinOp a .Mult b pos) (dBin opMulT da db) := by
  refine PE.of (pe_op ((op_mulW.or op_rep).or (op_repS.or op_repT)) ha hb) fun σ H Q h => lift_bin (K := X.K) ?_ h
  intro Z B0 ρ s H0 σ Ha Hb H v u x y Qd Q R rx ry q k
  unfold opMulT at q
  split at q
  · rename_i i j e1 e2
    exact .inl (.inl ⟨i, j, rx.vI e1, ry.vI e2, q.1, k _ _ _ q.2 (Same.refl H) (Im.int _)⟩)
  · rename_i l m e1 e2
    obtain ⟨a, xs, rfl, h1, h2⟩ := rx.lst e1
    exact .inl (.inr ⟨a, m, xs, rfl, ry.vI e2, h1, q.1, q.2.1, by rw [h2.length]; exact smB q.2.2.1, fun p hp => k _ _ _ q.2.2.2 (same_new hp) (R.newL hp (h2.rep _))⟩)
  · rename_i l m e1 e2
    obtain ⟨hne, k1, k2, hl, q⟩ := q
    obtain ⟨a, xs, rfl, h1, h2⟩ := rx.tup (K := X.K) e1
    have hx : xs ≠ [] := fun z => hne (by
      have := h2.length
      rw [z] at this
      exact List.length_eq_zero_iff.mp this.symm)
    by_cases hm : m ≤ 1
    · refine .inr (.inl ⟨a, m, xs, rfl, ry.vI e2, h1, hx, k1, hm, fun z => ?_, fun z p hp => ?_⟩)
      · subst z
        have e : (List.replicate (Int.toNat 1) l).flatten = l := by simp
        rw [e] at q
        refine k _ _ _ q (Same.refl H) ?_
        cases x with
        | im d => cases e1; exact rx
        | _ => cases e1
      · have e : (List.replicate (Int.toNat m) l).flatten = [] := by rw [show m.toNat = 0 from by omega]; rfl
        rw [e] at q
        exact k _ _ _ q (same_new hp) (newT hp .nil)
    · exact .inr (.inr ⟨a, m, xs, rfl, ry.vI e2, h1, hx, by omega, k2, by rw [h2.length]; exact hl, fun p hp => k _ _ _ q (same_new hp) (newT hp (h2.rep _))⟩)
  · exact q.elim
def opBits : Rv → (Rv → Prop) → Prop := fun x Q => match x.D with
  | some (.int i) => Q (.im (.int (Builtin.Int.intBits i : Nat)))
  | _ => False
theorem de_bits {apos : Pos} (ha : DE Z X a da) (hbase : attributeBase a "bit_length" X.env (eval a X.env) = eval a X.env := by rfl) (hline : (apos.endLine == pos.line) = true := by rfl) : DE Z X (.Call (.Attribute a "bit_length" apos) [] [] pos) (dUn opBits da) := by
  refine PE.of (pe_bits ha hbase hline) fun σ H Q ⟨B0, H0, ρ, s, Qd, R, hd, hq⟩ => ?_
  refine ⟨B0, H0, ρ, s, _, R, hd, fun x s1 v H1 qx R1 g1 r1 => ?_⟩
  unfold opBits at qx
  split at qx
  · rename_i i e1
    rw [r1.vI e1]
    exact ⟨i, rfl, hq _ s1 _ H1 qx R1 g1 (Im.int _)⟩
  · exact qx.elim
end
end Lf
namespace Lf
open PySem PySem.Spec PyProof.Rows L2
section
variable {Z : Zn} {X : Cx} {e : Expr} {de : DX Z} {pos : Pos}
/-- xs += ys, of lists -/
def dAugL (i : Nat) (de : DX Z) : DSt Z := fun De s ρ => match ρ[i]? with
  | some (.ow q l) => de s ρ fun y s1 => match y.D with
    | some (.list m) => l.length + m.length ≤ 1000000 ∧ De.nx s1 (ρ.set i (.ow q (l ++ m)))
    | _ => False
  | _ => False
theorem ds_iaddL {i : Nat} {n : Str} {pos' : Pos} (hN : X.N.Nodup) (hi : X.N[i]? = some n) (hx : Loc X.env.scope n) (he : DE Z X e de) (hf : X.fn n = true ∨ X.env.scope.names.lookup n = some .local := by first | exact .inl rfl | exact .inr rfl | assumption) :
    DS Z X (.AugAssign (.Name n pos') .Add e pos) (dAugL i de) := by
  refine PS.of (ps_aug (ti := rExt2) hN hi hx he iop_ext hf) fun D σ H ⟨B0, H0, ρ, s, De, R, hd, hn, _⟩ => ?_
  unfold dAugL at hd
  split at hd
  · rename_i q l e1
    obtain ⟨o, s0, rfl, xs, hq, im⟩ := R.sl i _ e1
    refine ⟨.ref q, s0, B0, H0, ρ, s, _, R, hd, fun y s1 u H1 qx R1 g1 r1 => ?_⟩
    split at qx
    · rename_i m e2
      obtain ⟨b, ys, rfl, h1, h2⟩ := r1.lst e2
      have hq1 := g1 q _ hq (R.fr q (own_mem e1)).2.1
      have im1 := im.grow badZ R.ok g1
      refine ⟨q, b, xs, ys, rfl, rfl, hq1, h1, by rw [im1.length, h2.length]; exact smB qx.1, ?_⟩
      have es : σ.set i (some (.ref q)) = σ := by
        refine List.ext_getElem? fun j => ?_
        rw [List.getElem?_set]
        split
        · next z =>
          subst z
          rw [if_pos (List.getElem?_eq_some_iff.mp s0).1, s0]
        · rfl
      show D.nx (σ.set i (some (.ref q))) _
      rw [es]
      exact hn s1 _ σ _ qx.2 (R1.mutL e1 (im1.append h2)) ((g1.stp R).trans R1 (mut_stp R1 e1))
    · exact qx.elim
  · exact hd.elim
/-- xs[k] += e, of ints -/
def dAugIx (i : Nat) (dk de : DX Z) : DSt Z := fun De s ρ => match ρ[i]? with
  | some (.ow q l) => dk s ρ fun k s1 => match k.D with
    | some (.int n) => ∃ (j : Nat) (x : Int), n = (j : Nat) ∧ l[j]? = some (.int x) ∧ de s1 ρ fun r s2 => match r.D with
      | some (.int y) => De.nx s2 (ρ.set i (.ow q (l.set j (.int (x + y)))))
      | _ => False
    | _ => False
  | _ => False
theorem ds_iaddIx {i : Nat} {n : Str} {k : Expr} {dk : DX Z} {np ps : Pos} (hN : X.N[i]? = some n) (hv : Vis X.env.scope n) (hk : DE Z X k dk) (he : DE Z X e de) (hd : (n == ("__debug__" : Str)) = false := by decide) (hcd : (n == ("__classdict__" : Str)) = false := by decide)
    (ha : ∀ ov iv new, augStore k ov iv new = (do holding [new, ov, iv] (setItem ov iv new); release [new, ov, iv] []; pure .next) := by intros; rfl) : DS Z X (.AugAssign (.Subscript (.Name n np) k ps) .Add e pos) (dAugIx i dk de) := by
  refine PS.of (ps_augS (pe_var hN hv hd hcd) hk get_listN he ip_add set_list ha) fun D σ H ⟨B0, H0, ρ, s, De, R, hd, hn, _⟩ => ?_
  unfold dAugIx at hd
  split at hd
  · rename_i q l e1
    obtain ⟨o, s0, rfl, xs, hq, im⟩ := R.sl i _ e1
    refine ⟨.ref q, s0, B0, H0, ρ, s, _, R, hd, fun k s1 w H1 qk R1 g1 r1 => ?_⟩
    split at qk
    · rename_i m e2
      obtain ⟨j, x, rfl, hx, qk⟩ := qk
      have hq1 := g1 q _ hq (R.fr q (own_mem e1)).2.1
      have im1 := im.grow badZ R.ok g1
      obtain ⟨v, hv, iv⟩ := im1.get hx
      cases iv
      refine ⟨q, xs, j, .int x, rfl, r1.vI e2, SqL.of hq1, hv, B0, H0, ρ, s1, _, R1, qk, fun r s2 u H2 qr R2 g2 r2 => ?_⟩
      split at qr
      · rename_i y e3
        have hq2 := g2 q _ hq1 (R1.fr q (own_mem e1)).2.1
        have im2 := im1.grow badZ R1.ok g2
        have hj : j < xs.length := (List.getElem?_eq_some_iff.mp hv).1
        refine ⟨x, y, rfl, r2.vI e3, q, xs, _, j, rfl, r1.vI e2, hq2, by unfold ixN; rw [if_pos (by omega), if_pos (by omega), Int.toNat_natCast], ?_⟩
        exact hn s2 _ σ _ qr (R2.mutL e1 (im2.set j (.int _))) ((g1.stp R).trans R1 ((g2.stp R1).trans R2 (mut_stp R2 e1)))
      · exact qr.elim
    · exact qk.elim
  · exact hd.elim
/-- a, b = x, y, of names that a comprehension reads -/
theorem ds_parC {i j : Nat} {n1 n2 : Str} {px py pt : Pos} {kt k2 pt2} {a b : Expr} {da db : DX Z} (hc : X.calm = true) (hN : X.N.Nodup) (hi : X.N[i]? = some n1) (hj : X.N[j]? = some n2) (hx : Loc X.env.scope n1) (hy : Loc X.env.scope n2) (ha : DE Z X a da) (hb : DE Z X b db)
    (hs : swapsWithSole [.Tuple [.Name n1 px, .Name n2 py] kt pt] (.Tuple [a, b] k2 pt2) pos.line X.env = pure false := by rfl) (hw : swappedStores [.Tuple [.Name n1 px, .Name n2 py] kt pt] (.Tuple [a, b] k2 pt2) X.env = pure none := by rfl) (h1 : (assignEach [.Tuple [.Name n1 px, .Name n2 py] kt pt] X.env).map (·.2) = [assign (.Tuple [.Name n1 px, .Name n2 py] kt pt) X.env] := by rfl)
    (s1 : starEach [a, b] X.env = (false, eval a X.env) :: starEach [b] X.env := by rfl) (s2 : starEach [b] X.env = (false, eval b X.env) :: starEach [] X.env := by rfl)
    (fx : X.fn n1 = true ∨ X.env.scope.names.lookup n1 = some .local := by first | exact .inl rfl | exact .inr rfl) (fy : X.fn n2 = true ∨ X.env.scope.names.lookup n2 = some .local := by first | exact .inl rfl | exact .inr rfl)
    (g1 : (assignEach [.Name n1 px, .Name n2 py] X.env).map (·.2) = assign (.Name n1 px) X.env :: (assignEach [.Name n2 py] X.env).map (·.2) := by rfl) (g2 : (assignEach [.Name n2 py] X.env).map (·.2) = assign (.Name n2 py) X.env :: (assignEach [] X.env).map (·.2) := by rfl)
    (gl : (assignEach [.Name n1 px, .Name n2 py] X.env).length = 2 := by rfl) (gf : (assignEach [.Name n1 px, .Name n2 py] X.env).findIdx? (·.1) = none := by rfl) :
    DS Z X (.Assign [.Tuple [.Name n1 px, .Name n2 py] kt pt] (.Tuple [a, b] k2 pt2) pos) (dPar i j da db) := by
  refine PS.of (ps_asg (pe_tup (pa_cons ha (pa_cons hb pa_nil s2) s1)) (pg_tup hc (pgs_cons (pg_name hN hi hx fx) (pgs_cons (pg_name hN hj hy fy) pgs_nil g2) g1) gl gf) hs hw h1) fun D σ H h => ?_
  have h' : liftS Z (dPar i j da db) { D with nx := fun σ' H' => ∀ p xs, H' p = none → D.nx σ' (upd H' p (.tup xs)) } σ H := by
    obtain ⟨B0, H0, ρ, s, De, R, hd, hn, hr⟩ := h
    refine ⟨B0, H0, ρ, s, De, R, hd, fun s' ρ' σ' H' q R' st p xs hp => ?_, hr⟩
    have sm := same_new (o := .tup xs) hp
    exact hn s' ρ' σ' _ q (R'.same sm) (st.trans R' ((Gr.of sm).stp R'))
  obtain ⟨B0, H0, ρ, s, Qd, R, hd, hq⟩ := par_ok h'
  refine ⟨B0, H0, ρ, s, Qd, R, hd, fun r s' v H' q R' g rr => ?_⟩
  obtain ⟨B1, H1, ρ1, s1, Q1, R1, hd1, hq1⟩ := hq r s' v H' q R' g rr
  refine ⟨B1, H1, ρ1, s1, Q1, R1, hd1, fun r2 s2 w H2 q2 R2 g2 rr2 => ⟨by show 2 ≤ sizeLine; decide, fun p hp => ⟨p, [v, w], rfl, SqT.of upd_same, rfl, v, [w], rfl, w, [], rfl, rfl, ?_⟩⟩⟩
  exact hq1 r2 s2 w H2 q2 R2 g2 rr2 p [v, w] hp
end
end Lf
namespace Lf
open PySem PySem.Spec PyProof.Rows L2
/-! ### ranks.py: gaps -/
def pD (l : List (Nat × Nat)) : List PyData := l.map fun p => .tuple [.int (p.1 : Nat), .int (p.2 : Nat)]
def lowL (fs : List Nat) : List Nat := (List.range fs.length).filter fun v => decide (par fs v ≠ v)
def preL (fs : List Nat) (c : Nat) : List Nat := (kidL fs (par fs c)).map (hgt fs)
def gapC (fs : List Nat) (c : Nat) : List (Nat × Nat) := ((List.range (hgt fs c)).filter fun r => !decide (r ∈ preL fs c)).map fun r => (c, r)
def gapL (fs : List Nat) : List (Nat × Nat) := (lowL fs).flatMap (gapC fs)
def fLow : DF Z0 := fun s as Q => ∃ fs : List Nat, as = [.im (tupN fs)] ∧ Forest fs ∧ Q (.fr (nD (lowL fs))) s
def fGaps : DF Z0 := fun s as Q => ∃ fs : List Nat, as = [.im (tupN fs)] ∧ Forest fs ∧ Q (.im (.tuple (pD (gapL fs)))) s
def fRanked : DF Z0 := fun s as Q => ∃ fs : List Nat, as = [.im (tupN fs)] ∧ Forest fs ∧ Q (.im (.bool (decide (gapL fs = [])))) s
theorem pD_len (l : List (Nat × Nat)) : (pD l).length = l.length := List.length_map ..
theorem gapC_len {fs : List Nat} (F : Forest fs) (c : Nat) : (gapC fs c).length ≤ 24 := by
  have h1 := hgt_lt F c
  have h2 := F.few
  have h3 := List.length_filter_le (fun r => !decide (r ∈ preL fs c)) (List.range (hgt fs c))
  rw [List.length_range] at h3
  unfold gapC
  rw [List.length_map]
  omega
theorem flatC_len {fs : List Nat} (F : Forest fs) : ∀ l : List Nat, (l.flatMap (gapC fs)).length ≤ 24 * l.length
  | [] => Nat.zero_le _
  | x :: l => by
    have h1 := gapC_len F x
    have h2 := flatC_len F l
    rw [List.flatMap_cons, List.length_append, List.length_cons]
    omega
theorem lowL_len {fs : List Nat} : (lowL fs).length ≤ fs.length := by
  have := List.length_filter_le (fun v => decide (par fs v ≠ v)) (List.range fs.length)
  rw [List.length_range] at this
  exact this
theorem gapL_len {fs : List Nat} (F : Forest fs) : (gapL fs).length ≤ 576 := by
  have h1 := flatC_len F (lowL fs)
  have h2 := lowL_len (fs := fs)
  have h3 := F.few
  unfold gapL
  omega
theorem pD_rows (l : List (Nat × Nat)) : pD l = (l.map fun p => [p.1, p.2]).map rowD := by
  unfold pD
  rw [List.map_map]
  rfl
theorem sh_pD (l : List (Nat × Nat)) : SeqAt.shaped (.tuple (pD l)) = true := by rw [pD_rows]; exact shRowsT _
theorem eqv_pD (l : List (Nat × Nat)) : PyData.eqv (.tuple (pD l)) (.tuple []) = decide (l = []) := by
  cases l with
  | nil => rfl
  | cons p l => rfl
section
variable {P : Program} {w : World} {K : PySem.W.Frag} {mg : Str → Option Value} {base : Heap}
end
end Lf
namespace Lf
open PySem PySem.Spec PyProof.Rows L2
/-! ### weights, counted -/
def incW : List Nat → List Nat → List Nat
  | [], ws => ws
  | u :: us, ws => incW us (ws.set u (ws.getD u 0 + 1))
def wN (fs : List Nat) : Nat → List Nat
  | 0 => List.replicate fs.length 0
  | k + 1 => incW (way fs k) (wN fs k)
def wtL (fs : List Nat) : List Nat := wN fs fs.length
theorem incW_len : ∀ {us ws : List Nat}, (incW us ws).length = ws.length
  | [], _ => rfl
  | u :: us, ws => by
    unfold incW
    rw [incW_len, List.length_set]
theorem wN_len {fs : List Nat} : ∀ k, (wN fs k).length = fs.length
  | 0 => List.length_replicate
  | k + 1 => by
    unfold wN
    rw [incW_len, wN_len k]
theorem incW_snoc : ∀ {us : List Nat} {u : Nat} {ws : List Nat}, incW (us ++ [u]) ws = (incW us ws).set u ((incW us ws).getD u 0 + 1)
  | [], u, ws => rfl
  | x :: us, u, ws => by
    rw [List.cons_append]
    unfold incW
    rw [incW_snoc]
def ldC (fs : List Nat) (v : Nat) : Nat := (wtL fs).getD v 0
def othL (fs : List Nat) (c : Nat) : List Nat := (List.range fs.length).filter fun k => decide (par fs k = par fs c) && decide (k ≠ par fs c)
def ligL (fs : List Nat) (c : Nat) : List Nat := ((othL fs c).filter fun k => decide (ldC fs k < ldC fs c)).map (ldC fs)
def hvC (fs : List Nat) (c : Nat) : Bool := decide (par fs c ≠ c) && decide (1 + (ligL fs c).sum < ldC fs c)
def isB (fs : List Nat) : Bool := (List.range fs.length).all fun c => !hvC fs c
theorem incW_bound {b : Nat} : ∀ {us ws : List Nat}, (∀ x ∈ ws, x ≤ b) → ∀ x ∈ incW us ws, x ≤ b + us.length
  | [], _, h, x, hx => h x hx
  | u :: us, ws, h, x, hx => by
    unfold incW at hx
    have := incW_bound (b := b + 1) (us := us) (fun y hy => by
      rcases List.mem_or_eq_of_mem_set hy with z | z
      · have := h y z; omega
      · rw [z, List.getD_eq_getElem?_getD]
        cases e : ws[u]? with
        | none => show 0 + 1 ≤ b + 1; omega
        | some y => have := h y (List.mem_of_getElem? e); show y + 1 ≤ b + 1; omega) x hx
    rw [List.length_cons]
    omega
theorem wN_bound {fs : List Nat} (F : Forest fs) : ∀ k, k ≤ fs.length → ∀ x ∈ wN fs k, x ≤ 24 * k
  | 0, _, x, hx => by rw [List.eq_of_mem_replicate hx]; exact Nat.zero_le _
  | k + 1, hk, x, hx => by
    have h1 := way_len F (v := k) (by omega)
    have := F.few
    have := incW_bound (wN_bound F k (by omega)) x hx
    omega
end Lf
namespace Lf
open PySem PySem.Spec PyProof.Rows L2
/-! ### forests built by joins of weight -/
def gtdL : Nat → Nat → Nat → Nat → Nat
  | 0, _, t, _ => t
  | f + 1, n, t, d => if d < n then gtdL f n (t + (n / (2 * d) * d + (n % (2 * d) - d))) (2 * d) else t
def gtd (n : Nat) : Nat := gtdL 40 n 0 1
theorem gtd_sup : ∀ x < 25, ∀ y < 25, x ≤ y → x + y ≤ 24 → gtd x + gtd y + x ≤ gtd (x + y) := by decide +kernel
theorem gtd_sup0 {x y : Nat} (h : x + y ≤ 24) : gtd x + gtd y ≤ gtd (x + y) := by
  rcases Nat.le_total x y with z | z
  · have := gtd_sup x (by omega) y (by omega) z h
    omega
  · have := gtd_sup y (by omega) x (by omega) z (by omega)
    rw [Nat.add_comm x y]
    omega
theorem gtd_sum : ∀ l : List Nat, l.sum ≤ 24 → (l.map gtd).sum ≤ gtd l.sum
  | [], _ => Nat.zero_le _
  | x :: l, h => by
    rw [List.sum_cons] at h
    have h1 := gtd_sum l (by omega)
    have h2 := gtd_sup0 (x := x) (y := l.sum) h
    rw [List.map_cons, List.sum_cons, List.sum_cons]
    omega
/-- how many vertices have u on their way -/
def wS (fs : List Nat) (u : Nat) : Nat := ((List.range fs.length).map fun v => if u ∈ way fs v then 1 else 0).sum
theorem incW_get : ∀ {us ws : List Nat} {u : Nat}, us.Nodup → (∀ x ∈ us, x < ws.length) → (incW us ws).getD u 0 = ws.getD u 0 + if u ∈ us then 1 else 0
  | [], ws, u, _, _ => rfl
  | x :: us, ws, u, nd, h => by
    obtain ⟨n1, n2⟩ := List.nodup_cons.mp nd
    unfold incW
    rw [incW_get n2 (fun y hy => by rw [List.length_set]; exact h y (List.mem_cons_of_mem _ hy)), getD_set (h x List.mem_cons_self)]
    by_cases e : x = u
    · subst e
      rw [if_pos rfl, if_neg n1, if_pos List.mem_cons_self]
    · rw [if_neg e]
      by_cases m : u ∈ us
      · rw [if_pos m, if_pos (List.mem_cons_of_mem _ m)]
      · rw [if_neg m, if_neg (fun z => (List.mem_cons.mp z).elim (fun y => e y.symm) m)]
theorem way_nodup {fs : List Nat} (F : Forest fs) {v : Nat} (hv : v < fs.length) : (way fs v).Nodup := (way_pth F hv).nodup F.rch F.rng hv
theorem wN_get {fs : List Nat} (F : Forest fs) (u : Nat) : ∀ k, k ≤ fs.length → (wN fs k).getD u 0 = ((List.range k).map fun v => if u ∈ way fs v then 1 else 0).sum
  | 0, _ => by
    show (List.replicate fs.length 0).getD u 0 = 0
    rw [List.getD_eq_getElem?_getD, List.getElem?_replicate]
    split <;> rfl
  | k + 1, hk => by
    unfold wN
    rw [incW_get (way_nodup F (by omega)) (fun x hx => by rw [wN_len]; exact way_lt F (by omega) x hx), wN_get F u k (by omega), List.range_succ, List.map_append, List.sum_append]
    rfl
theorem ldC_wS {fs : List Nat} (F : Forest fs) (u : Nat) : ldC fs u = wS fs u := wN_get F u _ (Nat.le_refl _)
theorem sum_ind {a c : Nat} : ∀ {l : List Nat}, l.Nodup → a ∈ l → (l.map fun x => if x = a then c else 0).sum = c
  | [], _, h => absurd h List.not_mem_nil
  | x :: l, nd, h => by
    obtain ⟨n1, n2⟩ := List.nodup_cons.mp nd
    rw [List.map_cons, List.sum_cons]
    by_cases e : x = a
    · subst e
      rw [if_pos rfl, sum_zero (fun y hy => if_neg fun z => n1 (by rw [← z]; exact hy)), Nat.add_zero]
    · rw [if_neg e, sum_ind n2 ((List.mem_cons.mp h).elim (fun z => absurd z.symm e) id), Nat.zero_add]
theorem sum_two {f f' : Nat → Nat} {l : List Nat} {a b : Nat} (nd : l.Nodup) (ha : a ∈ l) (hb : b ∈ l) (ne : a ≠ b) (h : ∀ x ∈ l, x ≠ a → x ≠ b → f' x = f x) : (l.map f').sum + (f a + f b) = (l.map f).sum + (f' a + f' b) := by
  have e1 := sum_add f' (fun x => (if x = a then f a else 0) + (if x = b then f b else 0)) l
  have e2 := sum_add f (fun x => (if x = a then f' a else 0) + (if x = b then f' b else 0)) l
  rw [sum_add (fun x => if x = a then f a else 0) (fun x => if x = b then f b else 0), sum_ind nd ha, sum_ind nd hb] at e1
  rw [sum_add (fun x => if x = a then f' a else 0) (fun x => if x = b then f' b else 0), sum_ind nd ha, sum_ind nd hb] at e2
  rw [← e1, ← e2]
  refine sum_congr fun x hx => ?_
  by_cases e : x = a
  · subst e
    rw [if_pos rfl, if_pos rfl, if_neg ne, if_neg ne]
    omega
  · by_cases e2 : x = b
    · subst e2
      rw [if_neg e, if_neg e, if_pos rfl, if_pos rfl]
      omega
    · rw [if_neg e, if_neg e, if_neg e2, if_neg e2, h x hx e e2]
/-! a join -/
theorem pth_join {fs : List Nat} {a b : Nat} (ha : a < fs.length) (pa : par fs a = a) (pb : par fs b = b) (ne : a ≠ b) {v : Nat} {l : List Nat} (p : Pth fs v l) : Pth (fs.set a b) v (l ++ if a ∈ l then [b] else []) := by
  have rb : Pth (fs.set a b) b [b] := .root (by rw [par_set ha, if_neg (Ne.symm ne)]; exact pb)
  induction p with
  | @root v h =>
    by_cases e : v = a
    · subst e
      rw [if_pos List.mem_cons_self]
      refine .step (by rw [par_set ha, if_pos rfl]; exact Ne.symm ne) ?_
      rw [par_set ha, if_pos rfl]
      exact rb
    · rw [if_neg (fun z => e (List.mem_singleton.mp z).symm), List.append_nil]
      exact .root (by rw [par_set ha, if_neg e]; exact h)
  | @step v l h p ih =>
    have e : v ≠ a := fun z => h (by rw [z]; exact pa)
    have ev : par (fs.set a b) v = par fs v := by rw [par_set ha, if_neg e]
    have em : (a ∈ v :: l) ↔ a ∈ l := ⟨fun z => (List.mem_cons.mp z).elim (fun y => absurd y.symm e) id, List.mem_cons_of_mem _⟩
    rw [List.cons_append]
    refine .step (by rw [ev]; exact h) ?_
    rw [ev]
    by_cases m : a ∈ l
    · rw [if_pos (em.mpr m)]
      rw [if_pos m] at ih
      exact ih
    · rw [if_neg (fun z => m (em.mp z))]
      rw [if_neg m] at ih
      exact ih
theorem way_join {fs : List Nat} (F : Forest fs) {a b : Nat} (ha : a < fs.length) (pa : par fs a = a) (hb : b < fs.length) (pb : par fs b = b) (ne : a ≠ b) {v : Nat} (hv : v < fs.length) : way (fs.set a b) v = way fs v ++ if a ∈ way fs v then [b] else [] :=
  (way_pth (join_forest F ha pa hb pb ne) (by rw [List.length_set]; exact hv)).inj (pth_join ha pa pb ne (way_pth F hv))
theorem root_one {fs : List Nat} (F : Forest fs) {a b v : Nat} (hv : v < fs.length) (pa : par fs a = a) (pb : par fs b = b) (ma : a ∈ way fs v) (mb : b ∈ way fs v) : a = b := by
  obtain ⟨i, hi⟩ := List.getElem?_of_mem ma
  obtain ⟨j, hj⟩ := List.getElem?_of_mem mb
  rcases (way_pth F hv).next hi with ⟨_, e1⟩ | ⟨z, _⟩
  · rcases (way_pth F hv).next hj with ⟨_, e2⟩ | ⟨z, _⟩
    · have : i = j := by omega
      rw [this, hj] at hi
      exact (Option.some.inj hi).symm
    · exact absurd pb z
  · exact absurd pa z
theorem root_in {fs : List Nat} (F : Forest fs) {v : Nat} (hv : v < fs.length) : ∃ r, r ∈ way fs v ∧ par fs r = r ∧ r < fs.length := by
  have pos := (way_len F hv).1
  have e : (way fs v)[(way fs v).length - 1]? = some ((way fs v)[(way fs v).length - 1]'(by omega)) := List.getElem?_eq_getElem (by omega)
  refine ⟨_, List.mem_of_getElem? e, ?_, way_lt F hv _ (List.mem_of_getElem? e)⟩
  rcases (way_pth F hv).next e with ⟨z, _⟩ | ⟨_, z⟩
  · exact z
  · have := (List.getElem?_eq_some_iff.mp z).1
    omega
theorem way_root_self {fs : List Nat} (F : Forest fs) {v : Nat} (hv : v < fs.length) : v ∈ way fs v := by
  by_cases h : par fs v = v
  · rw [way_root F hv h]; exact List.mem_cons_self
  · rw [way_step F hv h]; exact List.mem_cons_self
section
variable {fs : List Nat} (F : Forest fs) {a b : Nat} (ha : a < fs.length) (pa : par fs a = a) (hb : b < fs.length) (pb : par fs b = b) (ne : a ≠ b)
include F ha pa hb pb ne
theorem wS_b : wS (fs.set a b) b = wS fs a + wS fs b := by
  unfold wS
  rw [List.length_set, ← sum_add]
  refine sum_congr fun v hv => ?_
  have hv := List.mem_range.mp hv
  rw [way_join F ha pa hb pb ne hv]
  by_cases m : a ∈ way fs v
  · have nb : b ∉ way fs v := fun z => ne (root_one F hv pa pb m z)
    rw [if_pos m, if_pos (List.mem_append.mpr (.inr List.mem_cons_self)), if_pos m, if_neg nb]
  · rw [if_neg m, List.append_nil, if_neg m, Nat.zero_add]
theorem wS_o {u : Nat} (hu : u ≠ b) : wS (fs.set a b) u = wS fs u := by
  unfold wS
  rw [List.length_set]
  refine sum_congr fun v hv => ?_
  have hv := List.mem_range.mp hv
  rw [way_join F ha pa hb pb ne hv]
  by_cases m : a ∈ way fs v
  · rw [if_pos m]
    by_cases y : u ∈ way fs v
    · rw [if_pos (List.mem_append.mpr (.inl y)), if_pos y]
    · rw [if_neg (fun z => (List.mem_append.mp z).elim y fun x => hu (List.mem_singleton.mp x)), if_neg y]
  · rw [if_neg m, List.append_nil]
theorem dpt_join {v : Nat} (hv : v < fs.length) : dpt (fs.set a b) v = dpt fs v + if a ∈ way fs v then 1 else 0 := by
  have := (way_len F hv).1
  unfold dpt
  rw [way_join F ha pa hb pb ne hv, List.length_append]
  split
  · show (way fs v).length + 1 - 1 = _
    omega
  · show (way fs v).length + 0 - 1 = _
    omega
theorem dpts_join : (dpts (fs.set a b)).sum = (dpts fs).sum + wS fs a := by
  unfold dpts wS
  rw [List.length_set, ← sum_add]
  exact sum_congr fun v hv => dpt_join F ha pa hb pb ne (List.mem_range.mp hv)
end
/-- the forests that joins of weight reach -/
inductive Blt : List Nat → Prop
  | start {n : Nat} : 1 ≤ n → n ≤ 24 → Blt (List.range n)
  | join {fs : List Nat} {a b : Nat} : Blt fs → a < fs.length → par fs a = a → b < fs.length → par fs b = b → a ≠ b → ldC fs a ≤ ldC fs b → Blt (fs.set a b)
theorem Blt.forest {fs : List Nat} (h : Blt fs) : Forest fs := by
  induction h with
  | start h1 h2 => exact Forest.range h1 h2
  | join _ ha pa hb pb ne _ F => exact join_forest F ha pa hb pb ne
def mL (fs : List Nat) : List Nat := (List.range fs.length).map fun r => if par fs r = r then wS fs r else 0
theorem way_rng {n v : Nat} (h1 : 1 ≤ n) (h2 : n ≤ 24) (hv : v < n) : way (List.range n) v = [v] := way_root (Forest.range h1 h2) (by rw [List.length_range]; exact hv) (par_range hv)
theorem Blt.all {fs : List Nat} (h : Blt fs) : (mL fs).sum = fs.length ∧ (dpts fs).sum ≤ ((mL fs).map gtd).sum ∧ ∀ v, v < fs.length → ∀ r, r ∈ way fs v → par fs r = r → 2 ^ dpt fs v ≤ wS fs r := by
  induction h with
  | @start n h1 h2 =>
    have F := Forest.range h1 h2
    have w1 : ∀ r, r < n → wS (List.range n) r = 1 := fun r hr => by
      unfold wS
      rw [List.length_range]
      refine (sum_congr (g := fun v => if v = r then 1 else 0) fun v hv => ?_).trans (sum_ind (a := r) (c := 1) List.nodup_range (List.mem_range.mpr hr))
      rw [way_rng h1 h2 (List.mem_range.mp hv)]
      by_cases e : v = r
      · rw [if_pos (by rw [e]; exact List.mem_cons_self), if_pos e]
      · rw [if_neg (fun z => e (List.mem_singleton.mp z).symm), if_neg e]
    have d0 : ∀ v, v < n → dpt (List.range n) v = 0 := fun v hv => by unfold dpt; rw [way_rng h1 h2 hv]; rfl
    refine ⟨?_, ?_, fun v hv r hr _ => ?_⟩
    · unfold mL
      rw [List.length_range]
      have e : (List.range n).map (fun r => if par (List.range n) r = r then wS (List.range n) r else 0) = List.replicate n 1 := by
        rw [List.eq_replicate_iff]
        refine ⟨by rw [List.length_map, List.length_range], fun x hx => ?_⟩
        obtain ⟨r, hr, rfl⟩ := List.mem_map.mp hx
        have hr := List.mem_range.mp hr
        rw [if_pos (par_range hr), w1 r hr]
      rw [e, List.sum_replicate_nat, Nat.mul_one]
    · have : (dpts (List.range n)).sum = 0 := by
        unfold dpts
        rw [List.length_range]
        exact sum_zero fun v hv => d0 v (List.mem_range.mp hv)
      omega
    · rw [List.length_range] at hv
      rw [way_rng h1 h2 hv] at hr
      cases List.mem_singleton.mp hr
      rw [d0 v hv, w1 v hv]
      exact Nat.le_refl _
  | @join fs a b hB ha pa hb pb ne le ih =>
    have F := hB.forest
    obtain ⟨i1, i2, i3⟩ := ih
    rw [ldC_wS F, ldC_wS F] at le
    have pj : ∀ r, par (fs.set a b) r = if r = a then b else par fs r := fun r => par_set ha
    have eb := wS_b F ha pa hb pb ne
    have two : ∀ g : Nat → Nat, g 0 = 0 → ((mL (fs.set a b)).map g).sum + (g (wS fs a) + g (wS fs b)) = ((mL fs).map g).sum + g (wS fs a + wS fs b) := fun g g0 => by
      unfold mL
      rw [List.length_set, List.map_map, List.map_map]
      have := sum_two (f := g ∘ fun r => if par fs r = r then wS fs r else 0) (f' := g ∘ fun r => if par (fs.set a b) r = r then wS (fs.set a b) r else 0) List.nodup_range (List.mem_range.mpr ha) (List.mem_range.mpr hb) ne (fun x _ xa xb => by
        show g (if par (fs.set a b) x = x then wS (fs.set a b) x else 0) = g (if par fs x = x then wS fs x else 0)
        rw [pj, if_neg xa, wS_o F ha pa hb pb ne xb])
      have e1 : (g ∘ fun r => if par fs r = r then wS fs r else 0) a = g (wS fs a) := by show g (if _ then _ else _) = _; rw [if_pos pa]
      have e2 : (g ∘ fun r => if par fs r = r then wS fs r else 0) b = g (wS fs b) := by show g (if _ then _ else _) = _; rw [if_pos pb]
      have e3 : (g ∘ fun r => if par (fs.set a b) r = r then wS (fs.set a b) r else 0) a = 0 := by show g (if _ then _ else _) = _; rw [pj, if_pos rfl, if_neg (Ne.symm ne), g0]
      have e4 : (g ∘ fun r => if par (fs.set a b) r = r then wS (fs.set a b) r else 0) b = g (wS fs a + wS fs b) := by show g (if _ then _ else _) = _; rw [pj, if_neg (Ne.symm ne), if_pos pb, eb]
      rw [e1, e2, e3, e4] at this
      omega
    have s1 := two id rfl
    rw [List.map_id, List.map_id] at s1
    have s1 : (mL (fs.set a b)).sum + (wS fs a + wS fs b) = (mL fs).sum + (wS fs a + wS fs b) := s1
    have few := F.few
    have ab : wS fs a + wS fs b ≤ 24 := by
      have h1 := sum_two (f := fun r => if par fs r = r then wS fs r else 0) (f' := fun r => if r = a then 0 else if r = b then 0 else if par fs r = r then wS fs r else 0) List.nodup_range (List.mem_range.mpr ha) (List.mem_range.mpr hb) ne (fun x _ xa xb => by rw [if_neg xa, if_neg xb])
      have e0 : ((List.range fs.length).map fun r => if par fs r = r then wS fs r else 0).sum = fs.length := i1
      rw [e0] at h1
      simp only [if_pos pa, if_pos pb, if_neg (Ne.symm ne), ↓reduceIte] at h1
      omega
    refine ⟨by rw [List.length_set]; omega, ?_, fun v hv r hr rr => ?_⟩
    · have s2 := two gtd rfl
      have s3 := gtd_sup (wS fs a) (by omega) (wS fs b) (by omega) le ab
      rw [dpts_join F ha pa hb pb ne]
      omega
    · rw [List.length_set] at hv
      rw [way_join F ha pa hb pb ne hv] at hr
      rw [dpt_join F ha pa hb pb ne hv]
      by_cases m : a ∈ way fs v
      · rw [if_pos m] at hr ⊢
        have h1 := i3 v hv a m pa
        have er : r = b := by
          rcases List.mem_append.mp hr with z | z
          · have rp : par fs r = r := by
              rw [pj] at rr
              by_cases y : r = a
              · rw [y]; exact pa
              · rw [if_neg y] at rr; exact rr
            have := root_one F hv rp pa z m
            rw [this, pj, if_pos rfl] at rr
            exact absurd rr (Ne.symm ne)
          · exact List.mem_singleton.mp z
        rw [er, eb, Nat.pow_succ]
        omega
      · rw [if_neg m, List.append_nil] at hr
        rw [if_neg m, Nat.add_zero]
        have ra : r ≠ a := fun z => m (by rw [← z]; exact hr)
        have rp : par fs r = r := by rw [pj, if_neg ra] at rr; exact rr
        have h1 := i3 v hv r hr rp
        by_cases y : r = b
        · rw [y, eb]
          rw [y] at h1
          omega
        · rw [wS_o F ha pa hb pb ne y]
          exact h1
theorem wS_le (fs : List Nat) (u : Nat) : wS fs u ≤ fs.length := by
  have h : wS fs u ≤ ((List.range fs.length).map fun _ => 1).sum := sum_le fun v _ => by split <;> decide
  rw [List.map_const', List.length_range, List.sum_replicate_nat, Nat.mul_one] at h
  exact h
theorem Blt.total {fs : List Nat} (h : Blt fs) : (dpts fs).sum ≤ gtd fs.length := by
  obtain ⟨h1, h2, _⟩ := h.all
  have := gtd_sum (mL fs) (by rw [h1]; exact h.forest.few)
  rw [h1] at this
  omega
theorem Blt.deep {fs : List Nat} (h : Blt fs) {v : Nat} (hv : v < fs.length) : dpt fs v ≤ fs.length.log2 := by
  obtain ⟨_, _, h3⟩ := h.all
  obtain ⟨r, m, p, _⟩ := root_in h.forest hv
  have h4 := h3 v hv r m p
  have h5 := wS_le fs r
  exact (Nat.le_log2 (by have := h.forest.pos; omega)).mpr (by omega)
end Lf
namespace Lf
open PySem PySem.Spec PyProof.Rows L2
/-! ### heights after a join; rank histories as mathematics -/
theorem getD_ext {l m : List Nat} (hl : l.length = m.length) (h : ∀ i, i < l.length → l.getD i 0 = m.getD i 0) : l = m := by
  refine List.ext_getElem hl fun i h1 h2 => ?_
  have := h i h1
  rw [List.getD_eq_getElem?_getD, List.getD_eq_getElem?_getD, List.getElem?_eq_getElem h1, List.getElem?_eq_getElem h2] at this
  exact this
theorem hgt_ge {fs : List Nat} (F : Forest fs) {v j u : Nat} (hv : v < fs.length) (h : (way fs v)[j]? = some u) : j ≤ hgt fs u := hiN_ge F (Nat.le_refl _) hv h
theorem way_self0 {fs : List Nat} (F : Forest fs) {v : Nat} (hv : v < fs.length) : (way fs v)[0]? = some v := by
  by_cases h : par fs v = v
  · rw [way_root F hv h]; rfl
  · rw [way_step F hv h]; rfl
theorem hgt_has {fs : List Nat} (F : Forest fs) {u : Nat} (hu : u < fs.length) : ∃ v, v < fs.length ∧ (way fs v)[hgt fs u]? = some u := by
  rcases hiN_at (fs := fs) (k := fs.length) (u := u) with z | h
  · refine ⟨u, hu, ?_⟩
    have z : hgt fs u = 0 := z
    rw [z]
    exact way_self0 F hu
  · exact h
theorem root_last {fs : List Nat} (F : Forest fs) {v j a : Nat} (hv : v < fs.length) (pa : par fs a = a) (h : (way fs v)[j]? = some a) : j + 1 = (way fs v).length := by
  rcases (way_pth F hv).next h with ⟨_, e⟩ | ⟨z, _⟩
  · exact e
  · exact absurd pa z
section
variable {fs : List Nat} (F : Forest fs) {a b : Nat} (ha : a < fs.length) (pa : par fs a = a) (hb : b < fs.length) (pb : par fs b = b) (ne : a ≠ b)
include F ha pa hb pb ne
theorem hgt_join {u : Nat} (hu : u < fs.length) : hgt (fs.set a b) u = if u = b then max (hgt fs b) (hgt fs a + 1) else hgt fs u := by
  have G := join_forest F ha pa hb pb ne
  have gl : (fs.set a b).length = fs.length := List.length_set ..
  have up : hgt fs u ≤ hgt (fs.set a b) u := by
    obtain ⟨v, hv, e⟩ := hgt_has F hu
    refine hgt_ge G (v := v) (by rw [gl]; exact hv) ?_
    rw [way_join F ha pa hb pb ne hv, List.getElem?_append_left (List.getElem?_eq_some_iff.mp e).1]
    exact e
  have upb : hgt fs a + 1 ≤ hgt (fs.set a b) b := by
    obtain ⟨w, hw, ew⟩ := hgt_has F ha
    have lw := root_last F hw pa ew
    refine hgt_ge G (v := w) (by rw [gl]; exact hw) ?_
    rw [way_join F ha pa hb pb ne hw, if_pos (List.mem_of_getElem? ew), lw, List.getElem?_append_right (Nat.le_refl _), Nat.sub_self]
    rfl
  obtain ⟨v, hv, e⟩ := hgt_has G (show u < (fs.set a b).length by rw [gl]; exact hu)
  rw [gl] at hv
  rw [way_join F ha pa hb pb ne hv] at e
  rcases Nat.lt_or_ge (hgt (fs.set a b) u) (way fs v).length with z | z
  · rw [List.getElem?_append_left z] at e
    have le := hgt_ge F hv e
    by_cases eb : u = b
    · rw [if_pos eb]
      subst eb
      omega
    · rw [if_neg eb]
      omega
  · rw [List.getElem?_append_right z] at e
    by_cases m : a ∈ way fs v
    · rw [if_pos m] at e
      have hz : hgt (fs.set a b) u - (way fs v).length = 0 := by
        have := (List.getElem?_eq_some_iff.mp e).1
        have : hgt (fs.set a b) u - (way fs v).length < 1 := this
        omega
      rw [hz] at e
      have eb : b = u := Option.some.inj e
      obtain ⟨j, hj⟩ := List.getElem?_of_mem m
      have lj := root_last F hv pa hj
      have := hgt_ge F hv hj
      rw [if_pos eb.symm]
      subst eb
      omega
    · rw [if_neg m] at e
      cases e
theorem his_join : his (fs.set a b) = (his fs).set b (max (hgt fs b) (hgt fs a + 1)) := by
  have l1 : (his fs).length = fs.length := hiN_len _
  have l2 : (his (fs.set a b)).length = fs.length := (hiN_len _).trans (List.length_set ..)
  refine getD_ext (by rw [List.length_set]; omega) fun i hi => ?_
  rw [getD_set (by omega)]
  have := hgt_join F ha pa hb pb ne (u := i) (by omega)
  refine (show (his (fs.set a b)).getD i 0 = _ from this).trans ?_
  by_cases e : i = b
  · rw [if_pos e, if_pos e.symm]
  · rw [if_neg e, if_neg (Ne.symm e)]
    rfl
end
theorem his_range {n : Nat} (h1 : 1 ≤ n) (h2 : n ≤ 24) : his (List.range n) = List.replicate n 0 := by
  have l1 : (his (List.range n)).length = n := (hiN_len _).trans List.length_range
  refine getD_ext (by rw [List.length_replicate]; exact l1) fun i hi => ?_
  rw [l1] at hi
  obtain ⟨v, hv, e⟩ := hgt_has (Forest.range h1 h2) (show i < (List.range n).length by rw [List.length_range]; exact hi)
  rw [List.length_range] at hv
  rw [way_rng h1 h2 hv] at e
  have := (List.getElem?_eq_some_iff.mp e).1
  have z : hgt (List.range n) i < 1 := this
  rw [List.getD_eq_getElem?_getD (l := List.replicate n 0), List.getElem?_replicate, if_pos hi]
  show hgt (List.range n) i = 0
  omega
/-- a join by rank of two vertices -/
def rjN (fs : List Nat) (a b : Nat) : Bool := decide (a < fs.length) && decide (b < fs.length) && decide (par fs a = a) && decide (par fs b = b) && decide (a ≠ b) && decide (hgt fs a ≤ hgt fs b)
theorem rjN_all {fs : List Nat} {a b : Nat} (h : rjN fs a b = true) : a < fs.length ∧ b < fs.length ∧ par fs a = a ∧ par fs b = b ∧ a ≠ b ∧ hgt fs a ≤ hgt fs b := by
  unfold rjN at h
  simp only [Bool.and_eq_true, decide_eq_true_eq] at h
  exact ⟨h.1.1.1.1.1, h.1.1.1.1.2, h.1.1.1.2, h.1.1.2, h.1.2, h.2⟩
theorem rjN_forest {fs : List Nat} (F : Forest fs) {a b : Nat} (h : rjN fs a b = true) : Forest (fs.set a b) := by
  obtain ⟨h1, h2, h3, h4, h5, _⟩ := rjN_all h
  exact join_forest F h1 h3 h2 h4 h5
/-- the joins of a row of vertices, one after another -/
def rkGo (fs : List Nat) : List Nat → List Nat → Bool
  | _, [] => true
  | st, v :: vs => rjN st v (par fs v) && rkGo fs (st.set v (par fs v)) vs
def rkRun (fs l : List Nat) : Bool := rkGo fs (List.range fs.length) l
end Lf
namespace Lf
open PySem PySem.Spec PyProof.Rows L2
/-! ### all(xs), any(xs) of bools; x in range(n), x not in range(n) -/
section
variable {Z : Zn} {X : Cx} {B0 : Addr → Prop} {H0 H H1 H2 : Hp} {ρ ρ1 ρ2 : List Sl} {s s1 s2 : Z.S} {σ : L2.St} {v u : V} {r x y : Rv} {e a b c tg : Expr} {es rest : List Expr} {de da db dc : DX Z} {dt du : DT Z} {das : DA Z} {pos p : Pos} {K : PySem.W.Frag} {B : Addr → Prop}
theorem bls_of : ∀ {xs : List V} {bs : List Bool}, ImAll B H xs (bs.map .bool) → xs = bs.map V.bl
  | [], [], _ => rfl
  | _, b :: bs, .cons h q => by
    cases h
    rw [List.map_cons, ← bls_of q]
def opAll : Cb := fun rs Q => match rs with
  | [x] => match x.D with
    | some (.list l) => ∃ bs : List Bool, l = bs.map .bool ∧ Q (.im (.bool (bs.all id)))
    | _ => False
  | _ => False
def opAny : Cb := fun rs Q => match rs with
  | [x] => match x.D with
    | some (.list l) => ∃ bs : List Bool, l = bs.map .bool ∧ Q (.im (.bool (bs.any id)))
    | _ => False
  | _ => False
theorem de_all (hc : X.calm = true) (hg : Gl X "all") (hm : X.mg "all" = none) (ha : DAs Z X (e :: es) das) (he : starEach (e :: es) X.env = (false, eval e X.env) :: starEach es X.env := by rfl) (hpl : (backTo pos (starEach es X.env)).any (·.1) = false := by rfl) : DE Z X (.Call (.Name "all" p) (e :: es) [] pos) (dCB opAll das) := by
  refine PE.of (pe_callB (cr_all hc) hg hm (by decide +kernel) ha (by decide) (by decide) he hpl) fun σ H Q h => lift_cb ?_ h
  intro Z B0 ρ s H0 σ Ha H vs xs Qd Q R rr q k
  unfold opAll at q
  split at q
  · obtain ⟨v, rfl, r1⟩ := rr.one
    split at q
    · rename_i l e1
      obtain ⟨bs, rfl, q⟩ := q
      obtain ⟨a, ys, rfl, h1, h2⟩ := r1.lst e1
      rw [bls_of h2] at h1
      exact ⟨a, bs, rfl, SqL.of h1, k _ _ _ q (Same.refl H) (Im.bl _)⟩
    · exact q.elim
  · exact q.elim
theorem de_any (hc : X.calm = true) (hg : Gl X "any") (hm : X.mg "any" = none) (ha : DAs Z X (e :: es) das) (he : starEach (e :: es) X.env = (false, eval e X.env) :: starEach es X.env := by rfl) (hpl : (backTo pos (starEach es X.env)).any (·.1) = false := by rfl) : DE Z X (.Call (.Name "any" p) (e :: es) [] pos) (dCB opAny das) := by
  refine PE.of (pe_callB (cr_any hc) hg hm (by decide +kernel) ha (by decide) (by decide) he hpl) fun σ H Q h => lift_cb ?_ h
  intro Z B0 ρ s H0 σ Ha H vs xs Qd Q R rr q k
  unfold opAny at q
  split at q
  · obtain ⟨v, rfl, r1⟩ := rr.one
    split at q
    · rename_i l e1
      obtain ⟨bs, rfl, q⟩ := q
      obtain ⟨a, ys, rfl, h1, h2⟩ := r1.lst e1
      rw [bls_of h2] at h1
      exact ⟨a, bs, rfl, SqL.of h1, k _ _ _ q (Same.refl H) (Im.bl _)⟩
    · exact q.elim
  · exact q.elim
theorem cr_range1 : CallR X (.type "range") (fun vs H Q => ∃ j, vs = [V.int j] ∧ ∀ p, H p = none → Q (.ref p) (upd H p (.rng 0 j))) := by
  intro pins s σ H vs us Q I r h
  obtain ⟨j, rfl, q⟩ := h
  obtain ⟨u1, rfl, rj⟩ := vals1 r
  obtain ⟨u, rfl⟩ := rj
  refine call_range_1 ⟨.ref s.heap.objs.size, upd H s.heap.objs.size (.rng 0 j), I.laid (t' := s.toks + 1 + 1) (fun b o e => Heap.get?_push_of_some _ e) (Nat.le_refl _) ?_, rfl, q _ (I.hok.fresh (Nat.le_refl _))⟩
  exact ⟨s.toks, u, s.toks + 1, Heap.get?_push_size _ rfl⟩
theorem op_notin_rng : OpR X (compareOp .NotIn) (fun x y H Q => ∃ i a lo hi, x = V.int i ∧ y = V.ref a ∧ H a = some (.rng lo hi) ∧ Q (.bl (!decide (lo ≤ i ∧ i < hi))) H) := by
  intro pins s σ H x y v u Q I rx ry h
  obtain ⟨i, a, lo, hi, rfl, rfl, ha, q⟩ := h
  obtain ⟨k, rfl⟩ := rx
  obtain rfl : u = Value.ref a := ry
  obtain ⟨t1, t2, t3, ho⟩ := I.hok a _ ha
  show wpAny _ _ (do return Value.bool (!(← contains (Value.ref a) (Value.int i k)))) _ _ s
  refine wpAny_bind (wpAny_contains_slot (T := "range") ⟨_, ho, rfl⟩ F.slot_range_contains (call_meets F.slot_range_contains ⟨_, ho, rfl⟩ F.entry_range_contains (F.args_range_contains_2 _ _) (q_contains a lo hi i t1 t2 t3 k)
    ⟨ho, wpAny_truthy_bool (wpAny_pure ⟨.bl _, H, I, rfl, ?_⟩)⟩))
  rw [place1]
  exact q
def opInR (neg : Bool) : Op := fun x y Q => match x.D, y.D with
  | some (.int i), some (.int j) => Q (.im (.bool (neg != decide (0 ≤ i ∧ i < j))))
  | _, _ => False
theorem lift_inR {neg : Bool} {rr : R2} (h2 : ∀ (H : Hp) (i j : Int) (a : Addr) (Q : VK), H a = some (.rng 0 j) → Q (.bl (neg != decide (0 ≤ i ∧ i < j))) H → rr (.int i) (.ref a) H Q) {σ : L2.St} {H : Hp} {Q : VK} (h : liftE Z (dBin (opInR neg) da db) σ H Q) :
    tOp rr (liftE Z da) (tCB (fun vs H Q => ∃ j, vs = [V.int j] ∧ ∀ p, H p = none → Q (.ref p) (upd H p (.rng 0 j))) (tCons (liftE Z db) tNil)) σ H Q := by
  obtain ⟨B0, H0, ρ, s, Qd, R, hd, hq⟩ := h
  refine ⟨B0, H0, ρ, s, _, R, hd, fun x s1 v H1 qx R1 g1 r1 => ?_⟩
  refine ⟨B0, H0, ρ, s1, _, R1, qx, fun y s2 u H2 qy R2 g2 r2 => ?_⟩
  have r1 := r1.grow R1 g2
  unfold opInR at qy
  split at qy
  · rename_i i j e1 e2
    refine ⟨j, by rw [r2.vI e2], fun p hp => ?_⟩
    rw [r1.vI e1]
    exact h2 _ i j p Q upd_same (hq _ s2 _ _ qy (R2.same (same_new hp)) (g1.trans (g2.trans (Gr.of (same_new hp)))) (Im.bl _))
  · exact qy.elim
theorem de_notinR {p2 pos2 : Pos} (hg : Gl X "range") (hmg : X.mg "range" = none) (ha : DE Z X a da) (hb : DE Z X b db) (hs : starEach [b] X.env = (false, eval b X.env) :: starEach [] X.env := by rfl) (hpl : (backTo pos2 (starEach [] X.env)).any (·.1) = false := by rfl)
    (hm : behindInMarks .NotIn (.Call (.Name "range" p2) [b] [] pos2) = false := by rfl) : DE Z X (.Compare a [.NotIn] [.Call (.Name "range" p2) [b] [] pos2] pos) (dBin (opInR true) da db) := by
  refine PE.of (pe_cmpR op_notin_rng ha (pe_callTy cr_range1 hg hmg (by decide +kernel) (pa_cons hb pa_nil hs) (by decide) (by decide) hs hpl) hm) fun σ H Q h => lift_inR (fun H i j a Q h1 q => ⟨i, a, 0, j, rfl, rfl, h1, by rw [Bool.true_bne] at q; exact q⟩) h
theorem de_inR {p2 pos2 : Pos} (hg : Gl X "range") (hmg : X.mg "range" = none) (ha : DE Z X a da) (hb : DE Z X b db) (hs : starEach [b] X.env = (false, eval b X.env) :: starEach [] X.env := by rfl) (hpl : (backTo pos2 (starEach [] X.env)).any (·.1) = false := by rfl)
    (hm : behindInMarks .In (.Call (.Name "range" p2) [b] [] pos2) = false := by rfl) : DE Z X (.Compare a [.In] [.Call (.Name "range" p2) [b] [] pos2] pos) (dBin (opInR false) da db) := by
  refine PE.of (pe_cmpR op_in_rng ha (pe_callTy cr_range1 hg hmg (by decide +kernel) (pa_cons hb pa_nil hs) (by decide) (by decide) hs hpl) hm) fun σ H Q h => lift_inR (fun H i j a Q h1 q => ⟨i, a, 0, j, rfl, rfl, h1, by rw [Bool.false_bne] at q; exact q⟩) h
theorem dt_notinR {p2 pos2 : Pos} (hg : Gl X "range") (hmg : X.mg "range" = none) (ha : DE Z X a da) (hb : DE Z X b db) (hs : starEach [b] X.env = (false, eval b X.env) :: starEach [] X.env := by rfl) (hpl : (backTo pos2 (starEach [] X.env)).any (·.1) = false := by rfl)
    (hm : behindInMarks .NotIn (.Call (.Name "range" p2) [b] [] pos2) = false := by rfl) : DTs Z X (.Compare a [.NotIn] [.Call (.Name "range" p2) [b] [] pos2] pos) (dTst (dBin (opInR true) da db)) := by
  refine PT.of (pt_cmpR op_notin_rng ha (pe_callTy cr_range1 hg hmg (by decide +kernel) (pa_cons hb pa_nil hs) (by decide) (by decide) hs hpl) hm) fun σ H Q h => ?_
  obtain ⟨B0, H0, ρ, s, Qd, R, hd, hq⟩ := lift_tst h
  exact lift_inR (fun H i j a Q h1 q => ⟨i, a, 0, j, rfl, rfl, h1, by rw [Bool.true_bne] at q; exact q⟩) ⟨B0, H0, ρ, s, Qd, R, hd, hq⟩
theorem dt_inR {p2 pos2 : Pos} (hg : Gl X "range") (hmg : X.mg "range" = none) (ha : DE Z X a da) (hb : DE Z X b db) (hs : starEach [b] X.env = (false, eval b X.env) :: starEach [] X.env := by rfl) (hpl : (backTo pos2 (starEach [] X.env)).any (·.1) = false := by rfl)
    (hm : behindInMarks .In (.Call (.Name "range" p2) [b] [] pos2) = false := by rfl) : DTs Z X (.Compare a [.In] [.Call (.Name "range" p2) [b] [] pos2] pos) (dTst (dBin (opInR false) da db)) := by
  refine PT.of (pt_cmpR op_in_rng ha (pe_callTy cr_range1 hg hmg (by decide +kernel) (pa_cons hb pa_nil hs) (by decide) (by decide) hs hpl) hm) fun σ H Q h => ?_
  obtain ⟨B0, H0, ρ, s, Qd, R, hd, hq⟩ := lift_tst h
  exact lift_inR (fun H i j a Q h1 q => ⟨i, a, 0, j, rfl, rfl, h1, by rw [Bool.false_bne] at q; exact q⟩) ⟨B0, H0, ρ, s, Qd, R, hd, hq⟩
end
end Lf
namespace Lf
open PySem PySem.Spec PyProof.Rows L2
/-! ### builds.py: is_root, are_two_roots, with_parent; ranks.py: is_rank_join, is_rank_history -/
def eqI (d e : PyData) : Bool := match d, e with
  | .int i, .int j => decide (i = j)
  | _, _ => false
def isRtD (fs : List Nat) (d : PyData) : Bool := isV fs.length d && eqI (.int (par fs (unD d) : Nat)) d
def twoR (fs : List Nat) (d e : PyData) : Bool := isRtD fs d && (isRtD fs e && !eqI d e)
def rjD (fs : List Nat) (d e : PyData) : Bool := twoR fs d e && decide (hgt fs (unD d) ≤ hgt fs (unD e))
theorem isV_is {n : Nat} {d : PyData} (h : isV n d = true) : ∃ k : Nat, k < n ∧ d = .int (k : Nat) := by
  cases d with
  | int i =>
    obtain ⟨h1, h2⟩ := Bool.and_eq_true_iff.mp h
    have h1 := of_decide_eq_true h1
    have h2 := of_decide_eq_true h2
    exact ⟨i.toNat, by omega, by congr 1; omega⟩
  | _ => cases h
theorem isRtD_is {fs : List Nat} {d : PyData} (h : isRtD fs d = true) : ∃ k : Nat, k < fs.length ∧ par fs k = k ∧ d = .int (k : Nat) := by
  obtain ⟨h1, h2⟩ := Bool.and_eq_true_iff.mp h
  obtain ⟨k, hk, rfl⟩ := isV_is h1
  have h2 : ((par fs k : Nat) : Int) = ((k : Nat) : Int) := of_decide_eq_true h2
  exact ⟨k, hk, by omega, rfl⟩
theorem isRtD_nat {fs : List Nat} {k : Nat} : isRtD fs (.int (k : Nat)) = (decide (k < fs.length) && decide (par fs k = k)) := by
  unfold isRtD
  by_cases h : k < fs.length
  · rw [isV_natD h, decide_eq_true h]
    show (true && decide (((par fs k : Nat) : Int) = ((k : Nat) : Int))) = _
    rw [Bool.true_and, Bool.true_and]
    exact decide_eq_decide.mpr ⟨fun z => by omega, fun z => by omega⟩
  · rw [decide_eq_false h, show isV fs.length (.int (k : Nat)) = false from by
      show (decide (0 ≤ ((k : Nat) : Int)) && decide (((k : Nat) : Int) < (fs.length : Int))) = false
      rw [decide_eq_false (show ¬ ((k : Nat) : Int) < (fs.length : Int) by omega), Bool.and_false]]
    rfl
theorem rjD_nat {fs : List Nat} {a b : Nat} : rjD fs (.int (a : Nat)) (.int (b : Nat)) = rjN fs a b := by
  unfold rjD twoR rjN
  rw [isRtD_nat, isRtD_nat]
  show (_ && (_ && !decide (((a : Nat) : Int) = ((b : Nat) : Int))) && decide (hgt fs a ≤ hgt fs b)) = _
  rw [show decide (((a : Nat) : Int) = ((b : Nat) : Int)) = decide (a = b) from decide_eq_decide.mpr ⟨fun z => by omega, fun z => by omega⟩]
  rw [decide_not]
  cases decide (a < fs.length) <;> cases decide (b < fs.length) <;> cases decide (par fs a = a) <;> cases decide (par fs b = b) <;> cases decide (a = b) <;> cases decide (hgt fs a ≤ hgt fs b) <;> rfl
def fIsRoot : DF Z0 := fun s as Q => ∃ (fs : List Nat) (d : PyData), as = [.im (tupN fs), .im d] ∧ Forest fs ∧ Q (.im (.bool (isRtD fs d))) s
def fTwoR : DF Z0 := fun s as Q => ∃ (fs : List Nat) (d e : PyData), as = [.im (tupN fs), .im d, .im e] ∧ Forest fs ∧ Q (.im (.bool (twoR fs d e))) s
def fRJ : DF Z0 := fun s as Q => ∃ (fs : List Nat) (d e : PyData), as = [.im (tupN fs), .im d, .im e] ∧ Forest fs ∧ Q (.im (.bool (rjD fs d e))) s
def fWithP : DF Z0 := fun s as Q => ∃ (fs : List Nat) (c p : Nat), as = [.im (tupN fs), .im (.int (c : Nat)), .im (.int (p : Nat))] ∧ c < fs.length ∧ fs.length ≤ 24 ∧ Q (.im (tupN (fs.set c p))) s
def fSingle : DF Z0 := fun s as Q => ∃ n : Nat, as = [.im (.int (n : Nat))] ∧ n ≤ 1000 ∧ Q (.im (tupN (List.range n))) s
def isRH (fs : List Nat) (d : PyData) : Prop := ∃ l : List Nat, d = tupN l ∧ l.Perm (lowL fs) ∧ rkRun fs l = true
def fRH : DF Z0 := fun s as Q => ∃ (fs : List Nat) (d : PyData), as = [.im (tupN fs), .im d] ∧ Forest fs ∧ (∀ ds, d = .tuple ds → ds.length ≤ 1000) ∧ ∀ b : Bool, (b = true ↔ isRH fs d) → Q (.im (.bool b)) s
theorem cut_lo (l : List Nat) (c : Nat) : cutD (nD l) none (some (c : Nat)) = nD (l.take c) := by
  unfold cutD
  rw [HT.sIx_none, HT.sIx_nat, nD_len, List.drop_zero, Nat.sub_zero]
  unfold nD
  rw [← List.map_take]
  congr 1
  rcases Nat.le_total c l.length with z | z
  · rw [Nat.min_eq_left z]
  · rw [Nat.min_eq_right z, List.take_length, List.take_of_length_le z]
theorem cut_hi (l : List Nat) (c : Nat) : cutD (nD l) (some (c : Nat)) none = nD (l.drop c) := by
  unfold cutD
  rw [HT.sIx_none, HT.sIx_nat, nD_len]
  unfold nD
  rw [← List.map_drop, ← List.map_take]
  congr 1
  rcases Nat.le_total c l.length with z | z
  · rw [Nat.min_eq_left z, List.take_of_length_le (by rw [List.length_drop]; omega)]
  · rw [Nat.min_eq_right z, List.drop_length, List.drop_of_length_le z, List.take_nil]
theorem set_cutK {l : List Nat} {c p : Nat} (h : c < l.length) : l.take c ++ [p] ++ l.drop (c + 1) = l.set c p := by
  rw [List.set_eq_take_append_cons_drop, if_pos h, List.append_assoc]
  rfl
theorem sub_perm : ∀ {l m : List Nat}, l.Nodup → (∀ x ∈ l, x ∈ m) → m.length ≤ l.length → l.Perm m
  | [], m, _, _, hl => by
    have : m = [] := List.length_eq_zero_iff.mp (by rw [List.length_nil] at hl; omega)
    rw [this]
  | x :: l, m, nd, sb, hl => by
    have hx := sb x List.mem_cons_self
    have p1 := List.perm_cons_erase hx
    obtain ⟨nx, nd⟩ := List.nodup_cons.mp nd
    refine (List.Perm.cons x (sub_perm nd (fun y hy => ?_) ?_)).trans p1.symm
    · have := sb y (List.mem_cons_of_mem _ hy)
      rcases List.mem_cons.mp (p1.mem_iff.mp this) with z | z
      · exact absurd (z ▸ hy) nx
      · exact z
    · have := p1.length_eq
      rw [List.length_cons] at this hl
      omega
section
variable {P : Program} {w : World} {K : PySem.W.Frag} {mg : Str → Option Value} {base : Heap}
abbrev s_is_root : Stmt := topS (17)
abbrev N_is_root : List Str := ["forest", "value"]
abbrev p_is_root : List Str := ["forest", "value"]
theorem sc_is_root : FnScope N_is_root p_is_root (defScope s_is_root) := ⟨rfl, rfl, rfl, by decide +kernel, rfl, by decide +kernel, by decide +kernel⟩
theorem ok_is_root (M : Mk K mg "is_root" s_is_root p_is_root) (d_is_vertex : Df P w K mg base CX0 2 "is_vertex" p_is_vertex (spD Z0 fIV)) (m_len : mg "len" = none) : Df P w K mg base CX0 3 "is_root" p_is_root (spD Z0 fIsRoot) := by
  have nd := sc_is_root.nd
  refine def_ok (k := 2) M sc_is_root (by decide) ?_ (fun f cdv A outer s H E hr => have hu := hu65 hr; (ds_one (ds_ret (de_and (de_callP d_is_vertex pass0 hr (da_cons (de_len (by rfl) m_len (da_cons (dv 0) da_nil)) (da_cons (dv 1) da_nil))) (de_one (de_eq hu (de_ix (dv 0) (dv 1)) (dv 1))))))) ?_
  · rintro s as Qd ⟨fs, d, rfl, _⟩; rfl
  · rintro s as Qd ⟨fs, d, rfl, hF, q⟩
    refine ⟨(nD fs).length, d, rfl, .inl rfl, ?_⟩
    rw [nD_len]
    unfold isRtD at q
    by_cases h : isV fs.length d = true
    · rw [h] at q ⊢
      obtain ⟨k, hk, rfl⟩ := isV_is h
      exact ⟨_, nD_at hk, q⟩
    · rw [Bool.not_eq_true] at h
      rw [h] at q ⊢
      exact q
abbrev s_are_two_roots : Stmt := topS (18)
abbrev N_are_two_roots : List Str := ["forest", "one", "other"]
abbrev p_are_two_roots : List Str := ["forest", "one", "other"]
theorem sc_are_two_roots : FnScope N_are_two_roots p_are_two_roots (defScope s_are_two_roots) := ⟨rfl, rfl, rfl, by decide +kernel, rfl, by decide +kernel, by decide +kernel⟩
theorem ok_are_two_roots (M : Mk K mg "are_two_roots" s_are_two_roots p_are_two_roots) (d_is_root : Df P w K mg base CX0 3 "is_root" p_is_root (spD Z0 fIsRoot)) : Df P w K mg base CX0 4 "are_two_roots" p_are_two_roots (spD Z0 fTwoR) := by
  have nd := sc_are_two_roots.nd
  refine def_ok (k := 3) M sc_are_two_roots (by decide) ?_ (fun f cdv A outer s H E hr => have hu := hu65 hr; (ds_one (ds_ret (de_and (de_callP d_is_root pass0 hr (da_cons (dv 0) (da_cons (dv 1) da_nil))) (de_and (de_callP d_is_root pass0 hr (da_cons (dv 0) (da_cons (dv 2) da_nil))) (de_one (de_ne hu (dv 1) (dv 2)))))))) ?_
  · rintro s as Qd ⟨fs, d, e, rfl, _⟩; rfl
  · rintro s as Qd ⟨fs, d, e, rfl, hF, q⟩
    refine ⟨fs, d, rfl, hF, .inl rfl, ?_⟩
    unfold twoR at q
    cases h : isRtD fs d with
    | false =>
      rw [h] at q
      exact q
    | true =>
      rw [h] at q
      refine ⟨fs, e, rfl, hF, .inl rfl, ?_⟩
      cases h2 : isRtD fs e with
      | false =>
        rw [h2] at q
        exact q
      | true =>
        rw [h2] at q
        obtain ⟨i, _, _, rfl⟩ := isRtD_is h
        obtain ⟨j, _, _, rfl⟩ := isRtD_is h2
        exact q
abbrev s_with_parent : Stmt := topS (20)
abbrev N_with_parent : List Str := ["forest", "child", "parent"]
abbrev p_with_parent : List Str := ["forest", "child", "parent"]
theorem sc_with_parent : FnScope N_with_parent p_with_parent (defScope s_with_parent) := ⟨rfl, rfl, rfl, by decide +kernel, rfl, by decide +kernel, by decide +kernel⟩
theorem ok_with_parent (M : Mk K mg "with_parent" s_with_parent p_with_parent) : Df P w K mg base CX0 1 "with_parent" p_with_parent (spD Z0 fWithP) := by
  have nd := sc_with_parent.nd
  refine def_ok (k := 0) M sc_with_parent (by decide) ?_ (fun f cdv A outer s H E hr => have hu := hu65 hr; (ds_one (ds_ret (de_add (de_add (de_sl (dv 0) do_none (do_some (dv 1))) (de_tup (da_cons (dv 2) da_nil))) (de_sl (dv 0) (do_some (de_add (dv 1) de_int)) do_none))))) ?_
  · rintro s as Qd ⟨fs, c, p, rfl, _⟩; rfl
  · rintro s as Qd ⟨fs, c, p, rfl, hc, few, q⟩
    have e1 := cut_lo fs c
    have e2 := cut_hi fs (c + 1)
    rw [show ((c + 1 : Nat) : Int) = ((c : Nat) : Int) + 1 from by omega] at e2
    refine ⟨_, rfl, by show 1 ≤ 1000000; decide, ?_⟩
    show (cutD (nD fs) none (some ((c : Nat) : Int))).length + 1 ≤ 1000000 ∧ (cutD (nD fs) none (some ((c : Nat) : Int)) ++ [PyData.int (p : Nat)]).length + (cutD (nD fs) (some (((c : Nat) : Int) + 1)) none).length ≤ 1000000 ∧ Qd (.im (.tuple (cutD (nD fs) none (some ((c : Nat) : Int)) ++ [PyData.int (p : Nat)] ++ cutD (nD fs) (some (((c : Nat) : Int) + 1)) none))) s
    rw [e1, e2, show nD (fs.take c) ++ [PyData.int (p : Nat)] ++ nD (fs.drop (c + 1)) = nD (fs.set c p) from by rw [← set_cutK hc, nD_app, nD_app]; rfl]
    refine ⟨?_, ?_, q⟩
    · rw [nD_len, List.length_take]; omega
    · rw [List.length_append, nD_len, nD_len, List.length_take, List.length_drop]; show _ + 1 + _ ≤ _; omega
end
end Lf
namespace Lf
open PySem PySem.Spec PyProof.Rows L2
/-! ### depths.py: the greatest ones -/
def pbd (v : Nat) : Nat := v &&& (v - 1)
theorem bits_log {n : Nat} (h : 1 ≤ n) : ((Builtin.Int.intBits ((n : Nat) : Int) : Nat) : Int) - 1 = ((n.log2 : Nat) : Int) := by
  unfold Builtin.Int.intBits
  rw [if_neg (by simp; omega), Int.natAbs_natCast]
  omega
theorem band_nat (a b : Nat) : Builtin.bitAnd ((a : Nat) : Int) ((b : Nat) : Int) = ((a &&& b : Nat) : Int) := by
  unfold Builtin.bitAnd
  rw [decide_eq_true (by omega), decide_eq_true (by omega)]
  rfl
/-- the tree with n vertices and the height h -/
def twh (n h : Nat) : List Nat := (List.range n).map fun v => if v < 2 ^ h then pbd v else 0
def twhD (n : Nat) : PyData → PyData
  | .int h => if (if n = 1 then 0 else 1) ≤ h ∧ h ≤ ((n.log2 : Nat) : Int) then tupN (twh n h.toNat) else .none
  | _ => .none
def fCount : DF Z0 := fun s as Q => ∃ n most : Nat, as = [.im (.int (n : Nat)), .im (.int (most : Nat))] ∧ 1 ≤ n ∧ n ≤ most ∧ Q (.im .none) s
def fGH : DF Z0 := fun s as Q => ∃ n : Nat, as = [.im (.int (n : Nat))] ∧ 1 ≤ n ∧ n ≤ 1000000000000 ∧ Q (.im (.int (n.log2 : Nat))) s
def fPbd : DF Z0 := fun s as Q => ∃ v : Nat, as = [.im (.int (v : Nat))] ∧ Q (.im (.int (pbd v : Nat))) s
def fTwh : DF Z0 := fun s as Q => ∃ (n : Nat) (d : PyData), as = [.im (.int (n : Nat)), .im d] ∧ 1 ≤ n ∧ n ≤ 24 ∧ Q (.im (twhD n d)) s
section
variable {P : Program} {w : World} {K : PySem.W.Frag} {mg : Str → Option Value} {base : Heap}
end
end Lf
namespace Lf
open PySem PySem.Spec PyProof.Rows L2
/-! ### forests.py, builds.py, depths.py: weights, heavy and thin vertices, the greatest total depth -/
def fWeights : DF Z0 := fun s as Q => ∃ fs : List Nat, as = [.im (tupN fs)] ∧ Forest fs ∧ Q (.im (tupN (wtL fs))) s
def hvyL (fs : List Nat) : List Nat := (List.range fs.length).filter (hvC fs)
def fHeavy : DF Z0 := fun s as Q => ∃ fs : List Nat, as = [.im (tupN fs)] ∧ Forest fs ∧ Q (.im (tupN (hvyL fs))) s
def fBuilt : DF Z0 := fun s as Q => ∃ fs : List Nat, as = [.im (tupN fs)] ∧ Forest fs ∧ Q (.im (.bool (isB fs))) s
def thinL (fs : List Nat) : List Nat := (List.range fs.length).filter fun v => decide (ldC fs v < 2 ^ hgt fs v)
def fThin : DF Z0 := fun s as Q => ∃ fs : List Nat, as = [.im (tupN fs)] ∧ Forest fs ∧ Q (.im (tupN (thinL fs))) s
def fGTD : DF Z0 := fun s as Q => ∃ n : Nat, as = [.im (.int (n : Nat))] ∧ 1 ≤ n ∧ n ≤ 1000000000000 ∧ Q (.im (.int (gtd n : Nat))) s
def deep (n : Nat) : List Nat := (List.range n).map pbd
def fDeep : DF Z0 := fun s as Q => ∃ n : Nat, as = [.im (.int (n : Nat))] ∧ n ≤ 1000 ∧ Q (.im (tupN (deep n))) s
theorem isB_nil (fs : List Nat) : decide (hvyL fs = []) = isB fs := by
  unfold isB hvyL
  rw [Bool.eq_iff_iff, decide_eq_true_iff, List.filter_eq_nil_iff, List.all_eq_true]
  refine ⟨fun h c hc => ?_, fun h c hc => ?_⟩
  · have := h c hc
    cases e : hvC fs c with
    | true => exact absurd e this
    | false => rfl
  · have := h c hc
    intro z
    rw [z] at this
    cases this
theorem eqvT_nil (l : List Nat) : PyData.eqv (tupN l) (.tuple []) = decide (l = []) := by
  cases l <;> rfl
section
variable {P : Program} {w : World} {K : PySem.W.Frag} {mg : Str → Option Value} {base : Heap}
abbrev s_weights : Stmt := topS (13)
abbrev N_weights : List Str := ["forest", "counts", "vertex", "above"]
abbrev p_weights : List Str := ["forest"]
theorem sc_weights : FnScope N_weights p_weights (defScope s_weights) := ⟨rfl, rfl, rfl, by decide +kernel, rfl, by decide +kernel, by decide +kernel⟩
theorem ok_dweights (M : Mk K mg "weights" s_weights p_weights) (d_path_of : Df P w K mg base CX0 4 "path_of" p_path_of (spD Z0 fPath)) (m_len : mg "len" = none) (m_range : mg "range" = none) (m_tuple : mg "tuple" = none) : Df P w K mg base CX0 5 "weights" p_weights (spD Z0 fWeights) := by
  have nd := sc_weights.nd
  refine def_ok (k := 4) M sc_weights (by decide) ?_ (fun f cdv A outer s H E hr => have hu := hu65 hr; (ds_cons (ds_set (i := 1) nd rfl (.inl rfl) (de_mul (de_lst (da_cons de_int da_nil)) (de_len (by rfl) m_len (da_cons (dv 0) da_nil))))
      (ds_cons (ds_for PassesOwn.never rfl (di_r1 (by rfl) m_range (da_cons (de_len (by rfl) m_len (da_cons (dv 0) da_nil)) da_nil)) (dg_name (i := 2) nd rfl (.inl rfl))
      (ds_one (ds_for PassesOwn.never rfl (di_seq (de_callP d_path_of pass0 hr (da_cons (dv 0) (da_cons (dv 2) da_nil)))) (dg_name (i := 3) nd rfl (.inl rfl))
      (ds_one (ds_iaddIx (i := 1) rfl (by first | exact Or.inl rfl | exact Or.inr (Or.inl rfl) | exact Or.inr (Or.inr rfl)) (dv 3) de_int)))))
      (ds_one (ds_ret (de_tuple (by rfl) m_tuple (da_cons (dv 1) da_nil))))))) ?_
  · rintro s as Qd ⟨fs, rfl, _⟩; rfl
  · rintro s as Qd ⟨fs, rfl, hF, q⟩
    have few := hF.few
    refine ⟨_, rfl, by show 1 ≤ 1000000; decide, by rw [nD_len]; omega, by rw [nD_len]; omega, by rw [nD_len, Int.toNat_natCast]; show 1 * _ ≤ _; omega, fun a => ?_⟩
    rw [nD_len, Int.toNat_natCast, flat_rep]
    refine ⟨by rw [nD_len]; omega, by rw [nD_len]; omega, rfl, ?_⟩
    rw [nD_len, Int.toNat_natCast]
    refine ⟨fun k s ρ => ∃ x2 x3 : Sl, ρ = [.im (tupN fs), .ow a (nD (wN fs k)), x2, x3], ⟨.no, .no, by rw [show nD (wN fs 0) = _ from nD_rep fs.length 0]; rfl⟩, ?_, ?_⟩
    · rintro v d s ρ hd ⟨x2, x3, rfl⟩
      obtain ⟨hv, rfl⟩ := rngD_get hd
      rw [Int.zero_add]
      refine ⟨fs, v, rfl, hF, hv, .inl rfl, rfl, fun j s ρ => ∃ x3 : Sl, ρ = [.im (tupN fs), .ow a (nD (incW ((way fs v).take j) (wN fs v))), .im (.int (v : Nat)), x3], ⟨x3, rfl⟩, ?_, ?_⟩
      · rintro j d s ρ hd ⟨x3, rfl⟩
        obtain ⟨u, hu, rfl⟩ := nD_some hd
        have ul : u < fs.length := way_lt hF hv u (List.mem_of_getElem? hu)
        have ul2 : u < (incW ((way fs v).take j) (wN fs v)).length := by rw [incW_len, wN_len]; exact ul
        refine ⟨u, _, rfl, nD_get ul2, .im (.int (u : Nat)), ?_⟩
        rw [take_snoc hu, incW_snoc, nD_set]
        rfl
      · rintro s ρ ⟨x3, rfl⟩
        rw [nD_len, List.take_length]
        exact ⟨.im (.int (v : Nat)), _, rfl⟩
    · rintro s ρ ⟨x2, x3, rfl⟩
      rw [rngD_len]
      exact q
abbrev s_heavy_children : Stmt := topS (23)
abbrev N_heavy_children : List Str := ["forest", "loads", "heavy", "child", "parent", "lighter", "other"]
abbrev p_heavy_children : List Str := ["forest"]
theorem sc_heavy_children : FnScope N_heavy_children p_heavy_children (defScope s_heavy_children) := ⟨rfl, rfl, rfl, by decide +kernel, rfl, by decide +kernel, by decide +kernel⟩
theorem ok_heavy_children (M : Mk K mg "heavy_children" s_heavy_children p_heavy_children) (d_weights : Df P w K mg base CX0 5 "weights" p_weights (spD Z0 fWeights)) (d_children_of : Df P w K mg base CX0 4 "children_of" p_children_of (spD Z0 fKids)) (m_enumerate : mg "enumerate" = none) (m_sum : mg "sum" = none) (m_tuple : mg "tuple" = none) : Df P w K mg base CX0 6 "heavy_children" p_heavy_children (spD Z0 fHeavy) := by
  have nd := sc_heavy_children.nd
  refine def_ok (k := 5) M sc_heavy_children (by decide) ?_ (fun f cdv A outer s H E hr => have hu := hu65 hr; (ds_cons (ds_set (i := 1) nd rfl (.inr rfl) (de_callP d_weights pass0 hr (da_cons (dv 0) da_nil)))
      (ds_cons (ds_set (i := 2) nd rfl (.inl rfl) (de_lst da_nil))
      (ds_cons (ds_for PassesOwn.never rfl (di_enumQ (by rfl) m_enumerate (da_cons (dv 0) da_nil)) (dg_tup rfl nd (.cons (i := 3) rfl (.inr rfl) (.inl rfl) rfl (.cons (i := 4) rfl (.inl rfl) (.inl rfl) rfl .nil)))
      (ds_cons (ds_setLc (i := 5) (ow := [("other", 6)]) (gok_name (i := 6) (by decide)) rfl nd rfl rfl (sw_true rfl rfl rfl rfl) (di_seq (de_callP d_children_of pass0 hr (da_cons (dv 0) (da_cons (dv 4) da_nil)))) (blkOk_by (own := [("other", 6)]) (N := N_heavy_children) (sc := defScope s_heavy_children) (by decide +kernel)) (fun _ _ _ _ _ => pg_name (i := 6) nd rfl (Or.inl rfl)) (fun _ _ _ _ _ => (dp_one (dt_lt (de_ix (dv 1) (dv 6)) (de_ix (dv 1) (dv 3))))) (fun _ _ _ _ _ => (de_ix (dv 1) (dv 6))))
      (ds_one (ds_if (PW.pt (dw_and (dt_ne hu (dv 3) (dv 4)) (dw_and1 (dt_gt (de_ix (dv 1) (dv 3)) (de_add de_int (de_sum rfl (by rfl) m_sum (da_cons (dv 5) da_nil))))))) (ds_one (ds_mt (i := 2) m2_app PySem.F.slot_list_append PySem.F.type_list_append mt_append rfl (by first | exact Or.inl rfl | exact Or.inr (Or.inl rfl) | exact Or.inr (Or.inr rfl)) (da_cons (dv 3) da_nil))) ds_nil))))
      (ds_one (ds_ret (de_tuple (by rfl) m_tuple (da_cons (dv 2) da_nil)))))))) ?_
  · rintro s as Qd ⟨fs, rfl, _⟩; rfl
  · rintro s as Qd ⟨fs, rfl, hF, q⟩
    have few := hF.few
    have wl : (wtL fs).length = fs.length := wN_len _
    refine ⟨fs, rfl, hF, .inl rfl, _, rfl, by show 0 ≤ 1000000; decide, fun a => ?_⟩
    refine ⟨rfl, fun k s ρ => ∃ x3 x4 x5 : Sl, ρ = [.im (tupN fs), .im (tupN (wtL fs)), .ow a (nD ((List.range k).filter (hvC fs))), x3, x4, x5, .no], ⟨.no, .no, .no, rfl⟩, ?_, ?_⟩
    · rintro c d s ρ hd ⟨x3, x4, x5, rfl⟩
      obtain ⟨z, hz, rfl⟩ := enumD_get hd
      obtain ⟨p, hp, rfl⟩ := nD_some hz
      have hc : c < fs.length := (List.getElem?_eq_some_iff.mp hp).1
      have ep : p = par fs c := by unfold par; rw [List.getD_eq_getElem?_getD, hp]; rfl
      subst ep
      have kl := kidL_len (fs := fs) (v := par fs c)
      refine ⟨rfl, fs, par fs c, rfl, hF, hF.rng c hc, .inl rfl, ?_⟩
      show lcR _ _ _ _ (nD (kidL fs (par fs c))) _ [] _
      refine lcR_nD (f := fun k => if decide (ldC fs k < ldC fs c) = true then some (.int (ldC fs k : Nat)) else none) (fun k hk C hC => ?_) (by omega) ?_
      · have hkl := kidL_lt hk
        refine ⟨_, nD_at (by rw [wl]; exact hkl), _, nD_at (by rw [wl]; exact hc), ?_⟩
        show if decide (((ldC fs k : Nat) : Int) < ((ldC fs c : Nat) : Int)) = true then _ else _
        by_cases z : ldC fs k < ldC fs c
        · rw [if_pos (decide_eq_true (by omega))]
          rw [if_pos (decide_eq_true z)] at hC
          exact ⟨_, nD_at (by rw [wl]; exact hkl), _, rfl, hC⟩
        · rw [if_neg (by rw [decide_eq_false (by omega)]; exact Bool.false_ne_true)]
          rw [if_neg (by rw [decide_eq_false z]; exact Bool.false_ne_true)] at hC
          exact hC
      rw [fm_if]
      have el : (((kidL fs (par fs c)).filter fun k => decide (ldC fs k < ldC fs c)).map fun k => PyData.int (ldC fs k : Nat)) = nD (ligL fs c) := by unfold ligL nD; rw [List.map_map]; rfl
      rw [el]
      intro a5
      show if (!decide (((c : Nat) : Int) = ((par fs c : Nat) : Int))) = true then _ else _
      have fin : ∀ b : Bool, hvC fs c = b → nD ((List.range (c + 1)).filter (hvC fs)) = nD ((List.range c).filter (hvC fs)) ++ (if b = true then [PyData.int (c : Nat)] else []) := fun b hb => by
        rw [List.range_succ, List.filter_append, nD_app]
        cases b with
        | true => rw [List.filter_cons_of_pos hb]; rfl
        | false => rw [List.filter_cons_of_neg (by rw [hb]; exact Bool.false_ne_true)]; rfl
      have ll : ((List.range c).filter (hvC fs)).length ≤ 24 := by
        have := List.length_filter_le (hvC fs) (List.range c)
        rw [List.length_range] at this
        omega
      by_cases z : par fs c = c
      · rw [if_neg (by rw [decide_eq_true (by omega)]; exact Bool.false_ne_true), if_neg Bool.false_ne_true]
        refine ⟨.im (.int (c : Nat)), .im (.int (par fs c : Nat)), .ow a5 (nD (ligL fs c)), ?_⟩
        rw [fin false (by unfold hvC; rw [decide_eq_false (fun y => y z)]; rfl), if_neg Bool.false_ne_true, List.append_nil]
        rfl
      · rw [if_pos (by rw [decide_eq_false (by omega)]; rfl)]
        refine ⟨_, nD_at (by rw [wl]; exact hc), _, nD_I _, ?_⟩
        rw [sumN]
        show if decide ((1 : Int) + (((ligL fs c).sum : Nat) : Int) < ((ldC fs c : Nat) : Int)) = true then _ else _
        by_cases z2 : 1 + (ligL fs c).sum < ldC fs c
        · rw [if_pos (decide_eq_true (by omega))]
          refine ⟨_, rfl, by rw [nD_len]; omega, .im (.int (c : Nat)), .im (.int (par fs c : Nat)), .ow a5 (nD (ligL fs c)), ?_⟩
          rw [fin true (by unfold hvC; rw [decide_eq_true z, decide_eq_true z2]; rfl), if_pos rfl]
          rfl
        · rw [if_neg (by rw [decide_eq_false (by omega)]; exact Bool.false_ne_true)]
          refine ⟨.im (.int (c : Nat)), .im (.int (par fs c : Nat)), .ow a5 (nD (ligL fs c)), ?_⟩
          rw [fin false (by unfold hvC; rw [decide_eq_false z2, Bool.and_false]), if_neg Bool.false_ne_true, List.append_nil]
          rfl
    · rintro s ρ ⟨x3, x4, x5, rfl⟩
      rw [enumD_len, nD_len]
      exact q
abbrev s_is_built : Stmt := topS (24)
abbrev N_is_built : List Str := ["forest"]
abbrev p_is_built : List Str := ["forest"]
theorem sc_is_built : FnScope N_is_built p_is_built (defScope s_is_built) := ⟨rfl, rfl, rfl, by decide +kernel, rfl, by decide +kernel, by decide +kernel⟩
theorem ok_is_built (M : Mk K mg "is_built" s_is_built p_is_built) (d_heavy_children : Df P w K mg base CX0 6 "heavy_children" p_heavy_children (spD Z0 fHeavy)) : Df P w K mg base CX0 7 "is_built" p_is_built (spD Z0 fBuilt) := by
  have nd := sc_is_built.nd
  refine def_ok (k := 6) M sc_is_built (by decide) ?_ (fun f cdv A outer s H E hr => have hu := hu65 hr; (ds_one (ds_ret (de_eq hu (de_callP d_heavy_children pass0 hr (da_cons (dv 0) da_nil)) (de_tup da_nil))))) ?_
  · rintro s as Qd ⟨fs, rfl, _⟩; rfl
  · rintro s as Qd ⟨fs, rfl, hF, q⟩
    refine ⟨fs, rfl, hF, .inl rfl, _, rfl, by show 0 ≤ 1000000; decide, sh_tupN _, rfl, ?_⟩
    rw [eqvT_nil, isB_nil]
    exact q
end
end Lf
namespace Lf
open PySem PySem.Spec PyProof.Rows L2
abbrev sWell : Stmt := topS (27)
abbrev sPull : Stmt := topS (28)
abbrev sItem : Stmt := topS (29)
abbrev sMixed : Stmt := topS (30)
abbrev sTops : Stmt := topS (31)
abbrev sHeft : Stmt := topS (32)
abbrev sGrown : Stmt := topS (33)
abbrev sWild : Stmt := topS (34)
abbrev sLine : Stmt := topS (35)
abbrev sForest : Stmt := topS (36)
section
variable {P : Program} {w : World} {K : PySem.W.Frag} {mg : Str → Option Value} {base : Heap}
theorem scWell : FnScope ["_law_script", "_law_state", "_law_cell"] ["_law_script"] (defScope sWell) := ⟨rfl, rfl, rfl, by decide +kernel, rfl, by decide +kernel, by decide +kernel⟩
theorem ok_well {f : Addr} {fd : FuncData} (F : Fun K "_law_well" "_law_well" sWell f fd) (ml : mg "len" = none) (ma : mg "abs" = none) (mi : mg "int" = none) : FnOk P w K mg base CX0 1 f fd ["_law_script"] (spWell K) := by
  refine F.ok scWell (fun vs H Q E h => ?_) (fun cdv A outer s H vs Q E hr h => ?_)
  · obtain ⟨a, ns, rfl, _⟩ := h
    rfl
  · obtain ⟨a, ns, rfl, hS, hlen, q⟩ := h
    refine ⟨_, pss_cons (ps_set (i := 1) scWell.nd rfl (.inl rfl) (pe_op op_add pe_int (pe_op op_mul pe_int (pe_callB call_len_seq (by rfl) ml PySem.boot_len (pa_cons (pv 0) pa_nil)))))
      (pss_cons (ps_for PassesOwn.never rfl (pi_list (pv 0)) (pg_name (i := 2) scWell.nd rfl (.inl rfl)) (pss_one (ps_set (i := 1) scWell.nd rfl (.inl rfl)
        (pe_op op_mod (pe_op op_add (pe_op op_add (pe_op op_add (pe_op op_mul (pv 1) pe_int) (pe_op op_mul pe_int (pe_callB call_abs (by rfl) ma (by decide +kernel) (pa_cons (pv 2) pa_nil))))
          (pe_callTy call_int1 (by rfl) mi (by decide +kernel) (pa_cons (pe_cmpR op_lt (pv 2) pe_int (nomark _)) pa_nil))) pe_int) (pe_op op_pow pe_int pe_int)))))
      (pss_one (ps_ret (pe_lst (pa_cons (pe_revL (pe_lc (own := [("_law_cell", 2)]) (g := gName 2) (by rfl) scWell.nd (pi_list (pv 0)) (blkOk_by (own := [("_law_cell", 2)]) (N := ["_law_script", "_law_state", "_law_cell"]) (sc := defScope sWell) (by decide +kernel))
        (fun _ _ _ _ _ => pg_name (i := 2) scWell.nd rfl (Or.inl rfl)) (fun _ _ _ _ _ => pts_one (pt_cmpR op_ge (pe_callB call_abs (by rfl) ma (by decide +kernel) (pa_cons (pv 2) pa_nil)) (pe_op op_pow pe_int pe_int) (nomark _)))
        (fun _ _ _ _ _ => pe_callB call_abs (by rfl) ma (by decide +kernel) (pa_cons (pv 2) pa_nil)))) (pa_cons (pv 1) pa_nil)))))), ?_⟩
    refine ⟨.ref a, rfl, a, _, rfl, .inl hS, 977, _, rfl, rfl, .inl ⟨by decide, by decide⟩, _, _, rfl, rfl, ?_⟩
    refine ⟨.ref a, rfl, a, rfl, ⟨_, hS⟩, for_list (K := K) (a := a) (xs := ns.map V.int) (fun i σ H' => H' = H ∧ ∃ (st : Int) (c : Option V), σ = [some (.ref a), some (.int st), c] ∧ 0 ≤ st ∧ st < 18446744073709551616)
      ⟨rfl, _, none, rfl, by omega, by rw [List.length_map]; omega⟩ (fun i σ H' _ p => p.1 ▸ hS) ?_ ?_⟩
    · rintro i y σ H' hi ⟨rfl, st, c, rfl, h0, h1⟩
      obtain ⟨z, hz, rfl⟩ : ∃ z, ns[i]? = some z ∧ y = V.int z := by
        rw [List.getElem?_map] at hi
        cases e : ns[i]? with
        | none =>
          rw [e] at hi
          cases hi
        | some z =>
          rw [e] at hi
          exact ⟨z, rfl, (Option.some.inj hi).symm⟩
      refine ⟨.int st, rfl, st, _, rfl, rfl, .inl ⟨by omega, by omega⟩, .int z, rfl, z, rfl, 2, _, rfl, rfl, .inl ⟨by decide, by decide⟩, _, _, rfl, rfl, .int z, rfl, z, 0, rfl, rfl, .inr ⟨_, rfl, _, _, rfl, rfl, _, _, rfl, rfl, 2, 64, rfl, rfl, ⟨by decide, by decide, by decide⟩, _, _, rfl, rfl, (by show (0 : Int) < 2 ^ 64; decide), ?_⟩⟩
      refine ⟨rfl, _, _, rfl, Int.emod_nonneg _ (by decide), Int.emod_lt_of_pos _ (by decide)⟩
    · rintro σ H' ⟨rfl, st, c, rfl, h0, h1⟩
      refine ⟨.ref a, rfl, a, rfl, ⟨_, hS⟩, fun D nD => lc_list (K := K) (a := a) (xs := ns.map V.int) (fun i H2 => Same H' H2 ∧ ∃ ms : List Int, H2 D = some (.lst (ms.map V.int)) ∧ ms.length ≤ i) ⟨same_new nD, [], upd_same, Nat.le_refl _⟩ (fun i H2 _ p => p.1.seq hS) ?_ ?_⟩
      · rintro i y H2 hi ⟨sm, ms, hD, hm⟩
        have hin : i < (ns.map V.int).length := by
          rcases Nat.lt_or_ge i (ns.map V.int).length with z | z
          · exact z
          · rw [List.getElem?_eq_none z] at hi
            cases hi
        rw [List.length_map] at hin
        obtain ⟨z, hz, rfl⟩ : ∃ z, ns[i]? = some z ∧ y = V.int z := by
          rw [List.getElem?_map] at hi
          cases e : ns[i]? with
          | none =>
            rw [e] at hi
            cases hi
          | some z =>
            rw [e] at hi
            exact ⟨z, rfl, (Option.some.inj hi).symm⟩
        refine ⟨rfl, .int z, rfl, z, rfl, 10, 18, rfl, rfl, ⟨by decide, by decide, by decide⟩, _, _, rfl, rfl, _, rfl, ite2 (fun _ => ?_) (fun _ => ?_)⟩
        · refine ⟨.int z, rfl, z, rfl, _, hD, ?_, fun b o e => ?_, ms ++ [if z < 0 then -z else z], ?_, ?_⟩
          · rw [List.length_map]
            exact small1000 (by omega)
          · rw [upd_ne (ne_of_none e nD)]
            exact sm _ _ e
          · rw [upd_same, List.map_append]
            rfl
          · rw [List.length_append]
            show ms.length + 1 ≤ i + 1
            omega
        · exact ⟨sm, ms, hD, by omega⟩
      · rintro H2 ⟨sm, ms, hD, hm⟩
        rw [List.length_map] at hm
        refine ⟨D, _, rfl, SqL.of hD, fun l nl => ⟨.int st, rfl, by show 2 ≤ sizeLine; decide, fun w nw => ?_⟩⟩
        have nlw : w ≠ l := fun z => by
          rw [z, upd_same] at nw
          cases nw
        have nw2 : H2 w = none := by
          rw [upd_ne nlw] at nw
          exact nw
        refine q _ w l (sm.trans ((same_new nl).trans (same_new nw))) ⟨nlw, ms.reverse, st, upd_same, ?_, ?_, h0, h1⟩ (sm.free nw2) (sm.free nl)
        · rw [upd_ne (Ne.symm nlw), upd_same, List.map_reverse]
        · rw [List.length_reverse]
          omega
theorem scPull : FnScope ["_law_well_here", "_law_many", "_law_rest"] ["_law_well_here", "_law_many"] (defScope sPull) := ⟨rfl, rfl, rfl, by decide +kernel, rfl, by decide +kernel, by decide +kernel⟩
theorem ok_pull {f : Addr} {fd : FuncData} (F : Fun K "_law_pull" "_law_pull" sPull f fd) : FnOk P w K mg base CX0 1 f fd ["_law_well_here", "_law_many"] spPull := by
  refine F.ok scPull (fun vs H Q E h => ?_) (fun cdv A outer s H vs Q E hr h => ?_)
  · obtain ⟨a, l, m, rfl, _⟩ := h
    rfl
  · obtain ⟨w, l, many, rfl, hW, m0, m1, q⟩ := h
    refine ⟨_, pss_cons (ps_while PassesOwn.never (pt_cmpR (op_neD hr.units) (pe_ix ix_list (pv 0) pe_int (fun _ _ => rfl)) (pe_lst pa_nil) (nomark _))
        (pss_cons (ps_set (i := 2) scPull.nd rfl (.inl rfl) (pe_bm0 PySem.F.plainAttrs_list PySem.F.slot_list_pop PySem.F.type_list_pop mt_pop (pe_ix ix_list (pv 0) pe_int (fun _ _ => rfl))))
        (pss_one (ps_if (pt_cmpR op_gt (pv 2) pe_int (nomark _))
          (pss_cons (ps_expr (pe_bm PySem.F.plainAttrs_list PySem.F.slot_list_append PySem.F.type_list_append mt_append (pe_ix ix_list (pv 0) pe_int (fun _ _ => rfl)) (pa_cons (pe_op op_fdiv (pv 2) (pv 1)) pa_nil)))
          (pss_one (ps_ret (pe_op op_mod (pv 2) (pv 1))))) pss_nil))))
      (pss_cons (ps_asg (pe_op op_mod (pe_op op_add (pe_op op_mul (pe_ix ix_list (pv 0) pe_int (fun _ _ => rfl)) pe_int) pe_int) (pe_op op_pow pe_int pe_int)) (pg_sub (pv 0) pe_int set_list))
      (pss_one (ps_ret (pe_op op_mod (pe_op op_fdivW (pe_ix ix_list (pv 0) pe_int (fun _ _ => rfl)) (pe_op op_pow pe_int pe_int)) (pv 1))))), ?_⟩
    obtain ⟨nwl, xs0, st0, hw0, hl0, hx0, s00, s01⟩ := hW
    refine ⟨fun m σ H1 => ∃ (xs : List Int) (st : Int) (c : Option V), m = xs.length ∧ σ = [some (.ref w), some (.int many), c] ∧ H1 w = some (.lst [.ref l, .int st]) ∧ H1 l = some (.lst (xs.map V.int)) ∧ xs.length ≤ 63 ∧ 0 ≤ st ∧ st < 18446744073709551616 ∧ Keep w l H H1,
      ⟨_, xs0, st0, none, rfl, rfl, hw0, hl0, hx0, s00, s01, Keep.refl⟩, ?_⟩
    rintro m σ H1 ⟨xs, st, c, rfl, rfl, hw, hl, hx, s0, s1, kp⟩
    refine ⟨.ref w, rfl, w, _, 0, .ref l, rfl, rfl, SqL.of hw, atI_nat (j := 0) rfl, by show 0 ≤ sizeLine; omega, fun p np => ?_⟩
    have sm := same_new (o := .lst []) np
    have hw2 := sm _ _ hw
    have hl2 := sm _ _ hl
    refine ⟨.list (xs.map .int), .list [], .lst (SqL.of hl2) (dpInts xs), .lst (SqL.of upd_same) .nil, shInts xs, rfl, _, rfl, ?_⟩
    rcases nil_or_snoc xs with rfl | ⟨ys, y, rfl⟩
    · -- the state's own draw
      refine iteF ?_
      refine ⟨.ref w, rfl, w, _, 1, .int st, rfl, rfl, SqL.of hw2, atI_nat (j := 1) rfl, st, _, rfl, rfl, .inl ⟨by omega, by omega⟩, _, _, rfl, rfl, 2, 64, rfl, rfl, ⟨by decide, by decide, by decide⟩, _, _, rfl, rfl, (by show (0 : Int) < 2 ^ 64; decide), ?_⟩
      refine ⟨.ref w, rfl, w, _, 1, 1, rfl, rfl, hw2, rfl, ?_⟩
      have b0 : 0 ≤ (st * 6364136223846793005 + 1442695040888963407) % 18446744073709551616 := Int.emod_nonneg _ (by decide)
      have b1 : (st * 6364136223846793005 + 1442695040888963407) % 18446744073709551616 < 18446744073709551616 := Int.emod_lt_of_pos _ (by decide)
      refine ⟨.ref w, rfl, w, _, 1, _, rfl, rfl, SqL.of upd_same, atI_nat (j := 1) rfl, 2, 33, rfl, rfl, ⟨by decide, by decide, by decide⟩, _, _, rfl, rfl, ?_, .int many, rfl, _, many, rfl, rfl, m0, ?_⟩
      · exact wide_div (by show (0 : Int) < 2 ^ 33; decide) (b := 34) (by decide) (by decide) (by decide)
      · refine q _ _ (Int.emod_nonneg _ (by omega)) (Int.emod_lt_of_pos _ m0) ⟨nwl, [], _, upd_same, ?_, hx, b0, b1⟩ (kp.trans ((Keep.of sm).trans fun b o h1 h2 h => ?_))
        · rw [upd_ne (Ne.symm nwl)]
          exact hl2
        · rw [upd_ne h1]
          exact h
    · have hv : PyData.eqv (.list ((ys ++ [y]).map .int)) (.list []) = false := by
        cases ys <;> rfl
      rw [hv]
      refine iteT ⟨fun σ' H' => ∃ (st : Int) (c : Option V), σ' = [some (.ref w), some (.int many), c] ∧ H' w = some (.lst [.ref l, .int st]) ∧ H' l = some (.lst (ys.map V.int)) ∧ 0 ≤ st ∧ st < 18446744073709551616 ∧ Keep w l H H', ?_, ?_⟩
      · rintro σ' H' ⟨st', c', rfl, z1, z2, z3, z4, z5⟩
        rw [List.length_append] at hx ⊢
        exact ⟨ys.length, by simp, ys, st', c', rfl, rfl, z1, z2, by omega, z3, z4, z5⟩
      · have lst2 : (upd (upd H1 p (.lst [])) l (.lst ((ys ++ [y]).map V.int).dropLast)) l = some (.lst (ys.map V.int)) := by
          rw [upd_same, List.map_append]
          simp
        refine ⟨.ref w, rfl, w, _, 0, .ref l, rfl, rfl, SqL.of hw2, atI_nat (j := 0) rfl, .inl ⟨rfl, _, SqL.of hl2⟩, l, _, .int y, rfl, rfl, hl2, ?_, .int y, rfl, y, 0, rfl, rfl, _, rfl, ite2 (fun hy => ?_) (fun hy => ?_)⟩
        · rw [List.map_append]
          exact get_last (ys.map V.int) (.int y)
        · have hw3 : (upd (upd H1 p (.lst [])) l (.lst ((ys ++ [y]).map V.int).dropLast)) w = some (.lst [.ref l, .int st]) := by
            rw [upd_ne nwl]
            exact hw2
          refine ⟨.ref w, rfl, w, _, 0, .ref l, rfl, rfl, SqL.of hw3, atI_nat (j := 0) rfl, .inl ⟨rfl, _, SqL.of lst2⟩, .int y, rfl, .int many, rfl, y, many, rfl, rfl, ⟨m0, m1⟩, l, _, _, rfl, rfl, lst2, ?_, ?_⟩
          · rw [List.length_map]
            rw [List.length_append] at hx
            exact small1000 (by omega)
          · refine ⟨.int y, rfl, .int many, rfl, y, many, rfl, rfl, m0, ?_⟩
            refine q _ _ (Int.emod_nonneg _ (by omega)) (Int.emod_lt_of_pos _ m0) ⟨nwl, ys ++ [y / many], st, ?_, ?_, ?_, s0, s1⟩ (kp.trans ((Keep.of sm).trans fun b o h1 h2 h => ?_))
            · rw [upd_ne nwl]
              exact hw3
            · rw [upd_same, List.map_append]
              rfl
            · rw [List.length_append] at hx ⊢
              exact hx
            · rw [upd_ne h2, upd_ne h2]
              exact h
        · refine ⟨st, some (.int y), rfl, ?_, lst2, s0, s1, kp.trans ((Keep.of sm).trans fun b o h1 h2 h => ?_)⟩
          · rw [upd_ne nwl]
            exact hw2
          · rw [upd_ne h2]
            exact h
theorem scItem : FnScope ["_law_well_here", "_law_items"] ["_law_well_here", "_law_items"] (defScope sItem) := ⟨rfl, rfl, rfl, by decide +kernel, rfl, by decide +kernel, by decide +kernel⟩
theorem ok_item {f fP : Addr} {fd fdP : FuncData} (F : Fun K "_law_item" "_law_item" sItem f fd) (FP : Fun K "_law_pull" "_law_pull" sPull fP fdP) (bP : Binds K fdP ["_law_well_here", "_law_many"] []) (gP : mg "_law_pull" = some (.ref fP)) (ml : mg "len" = none) :
    FnOk P w K mg base CX0 2 f fd ["_law_well_here", "_law_items"] spItem := by
  have GP : FnOk P w K mg base CX0 1 fP fdP ["_law_well_here", "_law_many"] spPull := ok_pull FP
  refine F.ok scItem (fun vs H Q E h => ?_) (fun cdv A outer s H vs Q E hr h => ?_)
  · obtain ⟨w, l, p, xs, rfl, _⟩ := h
    rfl
  · obtain ⟨w, l, p, xs, rfl, hW, hp, npw, npl, hne, hlen, q⟩ := h
    refine ⟨_, pss_one (ps_ret (pe_ix ix_list (pv 1) (pe_call GP hr (by rfl) gP FP.kp bP .nil pass0 (pa_cons (pv 0) (pa_cons (pe_callB call_len_seq (by rfl) ml PySem.boot_len (pa_cons (pv 1) pa_nil)) pa_nil))) (fun _ _ => rfl))), ?_⟩
    have pos : 0 < xs.length := List.length_pos_iff.mpr hne
    refine ⟨.ref p, rfl, .ref w, rfl, .ref p, rfl, p, xs, rfl, .inl (SqL.of hp), w, l, _, rfl, hW, by omega, by omega, fun r H' r0 r1 hW' kp => ?_⟩
    have hi : r.toNat < xs.length := by omega
    have er : ((r.toNat : Nat) : Int) = r := Int.toNat_of_nonneg r0
    refine ⟨p, xs, r, xs[r.toNat], rfl, rfl, SqL.of (kp _ _ npw npl hp), ?_, q _ _ (List.getElem_mem hi) hW' kp⟩
    have z := atI_nat (List.getElem?_eq_getElem hi)
    rw [er] at z
    exact z
end
end Lf
namespace Lf
open PySem PySem.Spec PyProof.Rows L2
/-! ### _law_mixed, _law_tops, _law_heft -/
def spMixed : Sp := fun vs H Q _ => ∃ (w l p : Addr) (ns : List Nat), vs = [.ref w, .ref p] ∧ Well w l H ∧ H p = some (.lst (nv ns)) ∧ ns.length ≤ 1000 ∧
  ∀ (ms : List Nat) (q : Addr) (H' : Hp), ms.Perm ns → Well w l H' → Keep w l H H' → H q = none → H' q = some (.lst (nv ms)) → Q (.ref q) H'
def spTops (K : PySem.W.Frag) : Sp := fun vs H Q _ => ∃ (p : Addr) (fs : List Nat), vs = [.ref p] ∧ SqQ K H p (nv fs) ∧ fs.length ≤ 1000 ∧
  ∀ (q : Addr) (H' : Hp), Same H H' → H q = none → H' q = some (.lst (nv (tops fs))) → Q (.ref q) H'
def spHeft (K : PySem.W.Frag) : Sp := fun vs H Q _ => ∃ (p : Addr) (fs : List Nat) (v : Nat), vs = [.ref p, .int (v : Nat)] ∧ SqQ K H p (nv fs) ∧ Forest fs ∧ v < fs.length ∧
  ∀ (ins : List Nat) (H' : Hp), Same H H' → ins.Nodup → (∀ u, u ∈ ins ↔ u < fs.length ∧ Bel fs v u) → Q (.int (ins.length : Nat)) H'
theorem erase_map {α β : Type} (f : α → β) : ∀ (l : List α) (i : Nat), (l.map f).eraseIdx i = (l.eraseIdx i).map f
  | [], _ => rfl
  | _ :: _, 0 => rfl
  | x :: l, i + 1 => by
    show f x :: (l.map f).eraseIdx i = f x :: (l.eraseIdx i).map f
    rw [erase_map f l i]
theorem erase_permT {α : Type} : ∀ (l : List α) (i : Nat) (h : i < l.length), (l[i] :: l.eraseIdx i).Perm l
  | [], i, h => absurd h (Nat.not_lt_zero i)
  | x :: l, 0, _ => .refl _
  | x :: l, i + 1, h => by
    have ih := erase_permT l i (Nat.lt_of_succ_lt_succ h)
    show (l[i]'(Nat.lt_of_succ_lt_succ h) :: x :: l.eraseIdx i).Perm (x :: l)
    exact (List.Perm.swap _ _ _).trans (.cons x ih)
theorem seqAt {i : Int} {n : Nat} (h0 : 0 ≤ i) (h1 : i < n) : seqIndex? i n = some i.toNat := by
  unfold seqIndex?
  have e : (if i < 0 then i + n else i) = i := if_neg (by omega)
  show (if (decide (0 ≤ (if i < 0 then i + n else i)) && decide ((if i < 0 then i + n else i) < n)) = true then some (if i < 0 then i + (n : Int) else i).toNat else none) = _
  rw [e, decide_eq_true h0, decide_eq_true h1]
  rfl
theorem range_filter_succ {k : Nat} (p : Nat → Bool) : (List.range (k + 1)).filter p = if p k = true then (List.range k).filter p ++ [k] else (List.range k).filter p := by
  rw [List.range_succ, List.filter_append]
  by_cases h : p k = true
  · rw [if_pos h, List.filter_cons_of_pos h]
    rfl
  · rw [if_neg h, List.filter_cons_of_neg h]
    simp
theorem range_filter_le (k : Nat) (p : Nat → Bool) : ((List.range k).filter p).length ≤ k := by
  have := List.length_filter_le p (List.range k)
  rwa [List.length_range] at this
theorem natV_inj {a b : Nat} : (V.int (a : Int) = V.int (b : Int)) ↔ a = b := by
  refine ⟨fun h => ?_, fun h => by rw [h]⟩
  have := V.int.inj h
  omega
section
variable {P : Program} {w : World} {K : PySem.W.Frag} {mg : Str → Option Value} {base : Heap}
theorem scMixed : FnScope ["_law_well_here", "_law_items", "_law_rest", "_law_found"] ["_law_well_here", "_law_items"] (defScope sMixed) := ⟨rfl, rfl, rfl, by decide +kernel, rfl, by decide +kernel, by decide +kernel⟩
theorem ok_mixed {f fP : Addr} {fd fdP : FuncData} (F : Fun K "_law_mixed" "_law_mixed" sMixed f fd) (FP : Fun K "_law_pull" "_law_pull" sPull fP fdP) (bP : Binds K fdP ["_law_well_here", "_law_many"] []) (gP : mg "_law_pull" = some (.ref fP)) (ml : mg "len" = none) (mL : mg "list" = none) :
    FnOk P w K mg base CX0 2 f fd ["_law_well_here", "_law_items"] spMixed := by
  have GP : FnOk P w K mg base CX0 1 fP fdP ["_law_well_here", "_law_many"] spPull := ok_pull FP
  refine F.ok scMixed (fun vs H Q E h => ?_) (fun cdv A outer s H vs Q E hr h => ?_)
  · obtain ⟨w, l, p, xs, rfl, _⟩ := h
    rfl
  · obtain ⟨w, l, p, ns, rfl, hW, hp, hlen, q⟩ := h
    refine ⟨_, pss_cons (ps_par (i := 2) (j := 3) (by rfl) scMixed.nd rfl rfl (by decide) rfl rfl (pa_cons (pe_callTy call_list_of (by rfl) mL (by decide +kernel) (pa_cons (pv 1) pa_nil)) (pa_cons (pe_lst pa_nil) pa_nil)) (by rfl))
      (pss_cons (ps_while PassesOwn.never (pt_cmpR (op_neD hr.units) (pv 2) (pe_lst pa_nil) (nomark _)) (pss_one (ps_expr (pe_bm PySem.F.plainAttrs_list PySem.F.slot_list_append PySem.F.type_list_append mt_append (pv 3)
          (pa_cons (pe_bm PySem.F.plainAttrs_list PySem.F.slot_list_pop PySem.F.type_list_pop mt_popAt (pv 2) (pa_cons (pe_call GP hr (by rfl) gP FP.kp bP .nil pass0 (pa_cons (pv 0) (pa_cons (pe_callB call_len_seq (by rfl) ml PySem.boot_len (pa_cons (pv 2) pa_nil)) pa_nil))) pa_nil)) pa_nil)))))
      (pss_one (ps_ret (pv 3)))), ?_⟩
    refine ⟨.ref p, rfl, p, _, rfl, .inl (SqL.of hp), fun r nr => ⟨by show 0 ≤ sizeLine; decide, fun d nd => ⟨.ref r, .ref d, rfl, ?_⟩⟩⟩
    have Sr := same_new (o := .lst (nv ns)) nr
    have Sd := same_new (o := .lst []) nd
    have rd : r ≠ d := fun z => by
      rw [← z, upd_same] at nd
      cases nd
    obtain ⟨nwl, x0, st0, hw0, hl0, hx0⟩ := id hW
    have rw' : r ≠ w := (ne_of_none hw0 nr).symm
    have rl : r ≠ l := (ne_of_none hl0 nr).symm
    have dw : d ≠ w := (ne_of_none (Sr _ _ hw0) nd).symm
    have dl : d ≠ l := (ne_of_none (Sr _ _ hl0) nd).symm
    have hd0 : H d = none := Sr.free nd
    refine ⟨fun m σ H1 => ∃ rs fs : List Nat, m = rs.length ∧ σ = [some (.ref w), some (.ref p), some (.ref r), some (.ref d)] ∧ H1 r = some (.lst (nv rs)) ∧ H1 d = some (.lst (nv fs)) ∧ (fs ++ rs).Perm ns ∧ Well w l H1 ∧ Keep w l H H1,
      ⟨_, ns, [], rfl, rfl, Sd _ _ upd_same, upd_same, .refl _, hW.same (Sr.trans Sd), Keep.of (Sr.trans Sd)⟩, ?_⟩
    rintro m σ H1 ⟨rs, fs, rfl, rfl, hr1, hd1, pm, hW1, kp⟩
    have lens : fs.length + rs.length = ns.length := by
      have := pm.length_eq
      rwa [List.length_append] at this
    refine ⟨.ref r, rfl, by show 0 ≤ sizeLine; decide, fun e ne => ?_⟩
    have Se := same_new (o := .lst []) ne
    refine ⟨_, .list [], .lst (SqL.of (Se _ _ hr1)) (dpNv rs), .lst (SqL.of upd_same) .nil, shInts _, rfl, _, rfl, ?_⟩
    cases rs with
    | nil =>
      refine iteF ⟨.ref d, rfl, q fs d _ (by simpa using pm) (hW1.same Se) (kp.trans (Keep.of Se)) hd0 (Se _ _ hd1)⟩
    | cons x0 rt =>
      generalize hrs : x0 :: rt = rs at *
      have pos : 0 < rs.length := by rw [← hrs]; exact Nat.succ_pos _
      have hv : PyData.eqv (.list ((rs.map fun x => ((x : Nat) : Int)).map .int)) (.list []) = false := by
        rw [← hrs]
        rfl
      rw [hv]
      refine iteT ⟨fun σ' H' => ∃ rs' fs' : List Nat, rs'.length < rs.length ∧ σ' = [some (.ref w), some (.ref p), some (.ref r), some (.ref d)] ∧ H' r = some (.lst (nv rs')) ∧ H' d = some (.lst (nv fs')) ∧ (fs' ++ rs').Perm ns ∧ Well w l H' ∧ Keep w l H H', ?_, ?_⟩
      · rintro σ' H' ⟨rs', fs', z0, z1, z2, z3, z4, z5, z6⟩
        exact ⟨_, z0, rs', fs', rfl, z1, z2, z3, z4, z5, z6⟩
      · refine ⟨.ref d, rfl, .inl ⟨rfl, _, SqL.of (Se _ _ hd1)⟩, .ref r, rfl, .inl ⟨rfl, _, SqL.of (Se _ _ hr1)⟩, .ref w, rfl, .ref r, rfl, r, _, rfl, .inl (SqL.of (Se _ _ hr1)), w, l, _, rfl, hW1.same Se, ?_, ?_, fun i H2 i0 i1 hW2 kp2 => ?_⟩
        · rw [nv_length]
          omega
        · rw [nv_length]
          omega
        · rw [nv_length] at i1
          have hi : i.toNat < rs.length := by omega
          have hr2 : H2 r = some (.lst (nv rs)) := kp2 _ _ rw' rl (Se _ _ hr1)
          have hd2 : H2 d = some (.lst (nv fs)) := kp2 _ _ dw dl (Se _ _ hd1)
          refine ⟨r, _, i, i.toNat, _, rfl, rfl, hr2, by omega, by omega, ?_, nv_get hi, d, nv fs, _, rfl, rfl, ?_, ?_, ?_⟩
          · rw [nv_length]
            exact seqAt i0 i1
          · rw [upd_ne rd.symm]
            exact hd2
          · rw [nv_length]
            exact small1000 (by omega)
          · refine ⟨rs.eraseIdx i.toNat, fs ++ [rs.getD i.toNat 0], ?_, rfl, ?_, ?_, ?_, ?_, ?_⟩
            · rw [List.length_eraseIdx_of_lt hi]
              omega
            · rw [upd_ne rd, upd_same]
              unfold nv
              rw [erase_map]
            · rw [upd_same, nv_append]
              rfl
            · refine List.Perm.trans ?_ pm
              rw [List.append_assoc]
              refine List.Perm.append_left _ ?_
              have e1 : rs.getD i.toNat 0 = rs[i.toNat] := by rw [List.getD_eq_getElem?_getD, List.getElem?_eq_getElem hi]; rfl
              rw [e1]
              exact erase_permT rs _ hi
            · obtain ⟨n3, x3, st3, hw3, hl3, r3⟩ := hW2
              exact ⟨n3, x3, st3, by rw [upd_ne dw.symm, upd_ne rw'.symm]; exact hw3, by rw [upd_ne dl.symm, upd_ne rl.symm]; exact hl3, r3⟩
            · intro b o h1 h2 h
              rw [upd_ne (ne_of_none h hd0), upd_ne (ne_of_none h nr)]
              exact kp2 b o h1 h2 (Se _ _ (kp b o h1 h2 h))
theorem scTops : FnScope ["_law_parents", "_law_vertex"] ["_law_parents"] (defScope sTops) := ⟨rfl, rfl, rfl, by decide +kernel, rfl, by decide +kernel, by decide +kernel⟩
theorem ok_tops {f : Addr} {fd : FuncData} (F : Fun K "_law_tops" "_law_tops" sTops f fd) (ml : mg "len" = none) (mr : mg "range" = none) : FnOk P w K mg base CX0 1 f fd ["_law_parents"] (spTops K) := by
  refine F.ok scTops (fun vs H Q E h => ?_) (fun cdv A outer s H vs Q E hr h => ?_)
  · obtain ⟨p, fs, rfl, _⟩ := h
    rfl
  · obtain ⟨p, fs, rfl, hp, hlen, q⟩ := h
    refine ⟨_, pss_one (ps_ret (pe_lc (own := [("_law_vertex", 1)]) (g := gName 1) (tt := tTest (tOp rEq (tOp (rIxQ K) (tVar 0) (tVar 1)) (tVar 1))) (te := tVar 1) (by rfl) scTops.nd (pi_range1 (by rfl) mr (pa_cons (pe_callB call_len_seq (by rfl) ml PySem.boot_len (pa_cons (pv 0) pa_nil)) pa_nil))
      (blkOk_by (own := [("_law_vertex", 1)]) (N := ["_law_parents", "_law_vertex"]) (sc := defScope sTops) (by decide +kernel)) (fun _ _ _ _ _ => pg_name (i := 1) scTops.nd rfl (Or.inl rfl))
      (fun _ _ _ _ _ => pts_one (pt_cmpR op_eq (pe_ix ix_q (pv 0) (pv 1) (fun _ _ => rfl)) (pv 1) (nomark _))) (fun _ _ _ _ _ => pv 1))), ?_⟩
    refine ⟨.ref p, rfl, p, _, rfl, hp, _, rfl, ?_, ?_, fun D nD => lc_range (lo := 0) (n := ((nv fs).length : Int).toNat) (fun k H2 => Same H H2 ∧ H2 D = some (.lst (nv ((List.range k).filter fun v => decide (par fs v = v))))) ⟨same_new nD, upd_same⟩ ?_ ?_⟩
    · rw [nv_length]
      omega
    · rw [nv_length]
      omega
    · rintro k H2 hk ⟨sm, hD⟩
      rw [nv_length] at hk
      have hk' : k < fs.length := by omega
      refine ⟨rfl, .ref p, rfl, .int (0 + (k : Int)), rfl, p, _, (k : Int), .int ((par fs k : Nat) : Int), rfl, by rw [Int.zero_add], hp.same sm, atI_nat (nv_get hk'), .int (0 + (k : Int)), rfl, rfl, _, rfl, ite2 (fun hc => ?_) (fun hc => ?_)⟩
      · rw [Int.zero_add] at hc
        have hc : par fs k = k := natV_inj.mp (of_decide_eq_true hc)
        refine ⟨.int (0 + (k : Int)), rfl, _, hD, ?_, fun b o z => ?_, ?_⟩
        · rw [nv_length]
          exact small1000 (Nat.le_trans (range_filter_le _ _) (by omega))
        · rw [upd_ne (ne_of_none z nD)]
          exact sm _ _ z
        · rw [upd_same, range_filter_succ, if_pos (decide_eq_true hc), nv_append, Int.zero_add]
          rfl
      · rw [Int.zero_add] at hc
        refine ⟨sm, ?_⟩
        rw [hD, range_filter_succ, if_neg]
        intro z
        exact hc (decide_eq_true (natV_inj.mpr (of_decide_eq_true z)))
    · rintro H2 ⟨sm, hD⟩
      rw [nv_length, Int.toNat_natCast] at hD
      exact q D H2 sm nD hD
theorem scHeft : FnScope ["_law_parents", "_law_vertex", "_law_inside", "_law_count", "_law_v"] ["_law_parents", "_law_vertex"] (defScope sHeft) := ⟨rfl, rfl, rfl, by decide +kernel, rfl, by decide +kernel, by decide +kernel⟩
theorem ok_heft {f : Addr} {fd : FuncData} (F : Fun K "_law_heft" "_law_heft" sHeft f fd) (ml : mg "len" = none) (mr : mg "range" = none) : FnOk P w K mg base CX0 1 f fd ["_law_parents", "_law_vertex"] (spHeft K) := by
  refine F.ok scHeft (fun vs H Q E h => ?_) (fun cdv A outer s H vs Q E hr h => ?_)
  · obtain ⟨p, fs, v, rfl, _⟩ := h
    rfl
  · obtain ⟨p, fs, v, rfl, hp, hF, hv, q⟩ := h
    refine ⟨_, pss_cons (ps_asg (pe_tup (pa_cons (pe_lst (pa_cons (pv 1) pa_nil)) (pa_cons pe_int pa_nil))) (pg_tup rfl (pgs_cons (pg_name (i := 2) scHeft.nd rfl (.inr rfl)) (pgs_cons (pg_name (i := 3) scHeft.nd rfl (.inr rfl)) pgs_nil))))
      (pss_cons (ps_while PassesOwn.never (pt_cmpR op_lt (pv 3) (pe_callB call_len_seq (by rfl) ml PySem.boot_len (pa_cons (pv 2) pa_nil)) (nomark _))
        (pss_cons (ps_set (i := 2) scHeft.nd rfl (.inr rfl) (pe_op op_cat (pv 2) (pe_lc (own := [("_law_v", 4)]) (g := gName 4)
            (tt := tAnd (tTest (tOp rEq (tOp (rIxQ K) (tVar 0) (tVar 4)) (tOp (rIxL K) (tVar 2) (tVar 3)))) (tTest (tOp rNe (tVar 4) (tOp (rIxQ K) (tVar 0) (tVar 4))))) (te := tVar 4) (by rfl) scHeft.nd (pi_range1 (by rfl) mr (pa_cons (pe_callB call_len_seq (by rfl) ml PySem.boot_len (pa_cons (pv 0) pa_nil)) pa_nil))
          (blkOk_by (own := [("_law_v", 4)]) (N := ["_law_parents", "_law_vertex", "_law_inside", "_law_count", "_law_v"]) (sc := defScope sHeft) (by decide +kernel)) (fun _ _ _ _ _ => pg_name (i := 4) scHeft.nd rfl (Or.inl rfl))
          (fun _ _ _ _ _ => pts_one (PW.pt (pw_and (pt_cmpR op_eq (pe_ix ix_q (pv 0) (pv 4) (fun _ _ => rfl)) (pe_ix ix_list (pv 2) (pv 3) (fun _ _ => rfl)) (nomark _)) (pw_and1 (pt_cmpR op_ne (pv 4) (pe_ix ix_q (pv 0) (pv 4) (fun _ _ => rfl)) (nomark _)))))) (fun _ _ _ _ _ => pv 4))))
        (pss_one (ps_set (i := 3) scHeft.nd rfl (.inr rfl) (pe_op op_add (pv 3) pe_int)))))
      (pss_one (ps_ret (pv 3)))), ?_⟩
    refine ⟨.int (v : Nat), rfl, (by show 1 ≤ sizeLine; decide), fun q1 n1 => ⟨(by show 2 ≤ sizeLine; decide), fun t nt => ⟨t, _, rfl, SqT.of upd_same, rfl, _, _, rfl, _, _, rfl, rfl, ?_⟩⟩⟩
    have S1 := same_new (o := .lst [V.int (v : Nat)]) n1
    have S2 := same_new (o := .tup [V.ref q1, V.int 0]) nt
    refine ⟨fun m σ H1 => ∃ (ins : List Nat) (c : Nat) (qa : Addr), m = fs.length - c ∧ σ = [some (.ref p), some (.int (v : Nat)), some (.ref qa), some (.int (c : Nat)), none] ∧ Same H H1 ∧ H1 qa = some (.lst (nv ins)) ∧ Bfs fs v ins c,
      ⟨_, [v], 0, q1, rfl, rfl, S1.trans S2, S2 _ _ upd_same, Bfs.start hv⟩, ?_⟩
    rintro m σ H1 ⟨ins, c, qa, rfl, rfl, sm, hqa, B⟩
    have few := hF.few
    have le := B.le
    refine ⟨.int (c : Nat), rfl, .ref qa, rfl, qa, _, rfl, .inl (SqL.of hqa), _, _, rfl, rfl, _, rfl, ite2 (fun hc => ?_) (fun hc => ?_)⟩
    · have hc : (c : Int) < ((nv ins).length : Int) := of_decide_eq_true hc
      rw [nv_length] at hc
      have hcl : c < ins.length := by omega
      have ec : ins[c]? = some (ins.getD c 0) := by rw [List.getD_eq_getElem?_getD, List.getElem?_eq_getElem hcl]; rfl
      refine ⟨fun σ' H' => ∃ (ins : List Nat) (qa : Addr), σ' = [some (.ref p), some (.int (v : Nat)), some (.ref qa), some (.int ((c + 1 : Nat) : Int)), none] ∧ Same H H' ∧ H' qa = some (.lst (nv ins)) ∧ Bfs fs v ins (c + 1), ?_, ?_⟩
      · rintro σ' H' ⟨ins', qa', z1, z2, z3, z4⟩
        exact ⟨fs.length - (c + 1), by omega, ins', c + 1, qa', rfl, z1, z2, z3, z4⟩
      · have hpp := hp.same sm
        refine ⟨.ref qa, rfl, .ref p, rfl, p, _, rfl, hpp, _, rfl, ?_, ?_, fun D nD => lc_range (lo := 0) (n := ((nv fs).length : Int).toNat)
          (fun k H2 => Same H1 H2 ∧ H2 D = some (.lst (nv ((List.range k).filter fun u => decide (par fs u = ins.getD c 0) && decide (u ≠ par fs u))))) ⟨same_new nD, upd_same⟩ ?_ ?_⟩
        · rw [nv_length]
          omega
        · rw [nv_length]
          omega
        · rintro k H2 hk ⟨s2, hD⟩
          rw [nv_length] at hk
          have hk' : k < fs.length := by omega
          refine ⟨rfl, .ref p, rfl, .int (0 + (k : Int)), rfl, p, _, (k : Int), .int ((par fs k : Nat) : Int), rfl, by rw [Int.zero_add], hpp.same s2, atI_nat (nv_get hk'), .ref qa, rfl, .int (c : Nat), rfl, qa, _, (c : Int), _, rfl, rfl, SqL.of (s2 _ _ hqa), atI_nat (nv_get hcl), rfl, _, rfl, ite2 (fun h1 => ?_) (fun h1 => ?_)⟩
          · have h1 : par fs k = ins.getD c 0 := natV_inj.mp (of_decide_eq_true h1)
            refine ⟨.int (0 + (k : Int)), rfl, .ref p, rfl, .int (0 + (k : Int)), rfl, p, _, (k : Int), .int ((par fs k : Nat) : Int), rfl, by rw [Int.zero_add], hpp.same s2, atI_nat (nv_get hk'), rfl, _, rfl, ite2 (fun h2 => ?_) (fun h2 => ?_)⟩
            · rw [Int.zero_add] at h2
              have h2 : k ≠ par fs k := fun z => by
                rw [decide_eq_true (natV_inj.mpr z)] at h2
                cases h2
              refine ⟨.int (0 + (k : Int)), rfl, _, hD, ?_, fun b o z => ?_, ?_⟩
              · rw [nv_length]
                exact small1000 (Nat.le_trans (range_filter_le _ _) (by omega))
              · rw [upd_ne (ne_of_none z nD)]
                exact s2 _ _ z
              · rw [upd_same, range_filter_succ, if_pos (by rw [decide_eq_true h1, decide_eq_true h2]; rfl), nv_append, Int.zero_add]
                rfl
            · rw [Int.zero_add] at h2
              have h2 : k = par fs k := Classical.byContradiction fun z => h2 (by rw [decide_eq_false (fun y => z (natV_inj.mp y))]; rfl)
              refine ⟨s2, ?_⟩
              rw [hD, range_filter_succ, if_neg]
              rw [decide_eq_false (p := k ≠ par fs k) (fun z => z h2), Bool.and_false]
              exact Bool.false_ne_true
          · have h1 : ¬ par fs k = ins.getD c 0 := fun z => h1 (decide_eq_true (natV_inj.mpr z))
            refine iteF ⟨s2, ?_⟩
            rw [hD, range_filter_succ, if_neg]
            rw [decide_eq_false h1]
            exact Bool.false_ne_true
        · rintro H2 ⟨s2, hD⟩
          rw [nv_length, Int.toNat_natCast] at hD
          have B2 := B.next hF.rch ec
          have le2 := B2.le
          rw [List.length_append] at le2
          refine ⟨qa, D, _, _, rfl, rfl, s2 _ _ hqa, hD, ?_, fun p2 n2 => ?_⟩
          · rw [nv_length, nv_length]
            have e2 : (kids fs (ins.getD c 0)).length = ((List.range fs.length).filter fun u => decide (par fs u = ins.getD c 0) && decide (u ≠ par fs u)).length := rfl
            exact Nat.le_of_lt (small1000 (by omega))
          · refine ⟨.int (c : Nat), rfl, _, _, rfl, rfl, ins ++ kids fs (ins.getD c 0), p2, ?_, sm.trans (s2.trans (same_new n2)), ?_, B2⟩
            · rfl
            · rw [upd_same, nv_append]
              rfl
    · have hc : ¬ (c : Int) < ((nv ins).length : Int) := fun z => hc (decide_eq_true z)
      rw [nv_length] at hc
      have e : c = ins.length := by
        have := B.cnt
        omega
      subst e
      exact ⟨.int (ins.length : Nat), rfl, q ins H1 sm B.nd (B.done hF.rng)⟩
end
end Lf
namespace Lf
open PySem PySem.Spec PyProof.Rows L2
/-! ### _law_grown -/
def spGrown : Sp := fun vs H Q _ => ∃ (w l : Addr) (most : Int), vs = [.ref w, .int most] ∧ Well w l H ∧ 0 < most ∧ most ≤ 24 ∧
  ∀ (fs : List Nat) (q : Addr) (H' : Hp), Forest fs → (fs.length : Int) ≤ most → Well w l H' → Keep w l H H' → H q = none → H' q = some (.tup (nv fs)) → Q (.ref q) H'
/-- .. without heavy children -/
def spGrownB : Sp := fun vs H Q _ => ∃ (w l : Addr) (most : Int), vs = [.ref w, .int most] ∧ Well w l H ∧ 0 < most ∧ most ≤ 24 ∧
  ∀ (fs : List Nat) (q : Addr) (H' : Hp), Forest fs → (∀ c, ¬ Heavy fs c) → (fs.length : Int) ≤ most → Well w l H' → Keep w l H H' → H q = none → H' q = some (.tup (nv fs)) → Q (.ref q) H'
theorem rgV_nv (n : Nat) : rgV 0 (n : Int) = nv (List.range n) := by
  unfold rgV nv
  simp
theorem keep_free {w l p : Addr} {H H' : Hp} (k : Keep w l H H') (W : Well w l H') (h : H' p = none) : H p = none := by
  obtain ⟨_, _, _, h1, h2, _⟩ := W
  cases z : H p with
  | none => rfl
  | some o =>
    rw [k _ _ (ne_of_none h1 h).symm (ne_of_none h2 h).symm z] at h
    cases h
theorem tops_range (n : Nat) : tops (List.range n) = List.range n := by
  unfold tops
  rw [List.length_range, List.filter_eq_self]
  intro v hv
  exact decide_eq_true (par_range (List.mem_range.mp hv))
/-- a number's value -/
def unV : V → Nat
  | .int i => i.toNat
  | _ => 0
theorem un_nv (l : List Nat) : (nv l).map unV = l := by
  unfold nv
  rw [List.map_map]
  have : (unV ∘ fun x : Nat => V.int (x : Nat)) = id := funext fun x => Int.toNat_natCast x
  rw [this, List.map_id]
theorem perm_nv {zs : List V} {l : List Nat} (p : zs.Perm (nv l)) : ∃ ms, zs = nv ms ∧ ms.Perm l := by
  refine ⟨zs.map unV, ?_, ?_⟩
  · have all : ∀ z ∈ zs, V.int ((unV z : Nat) : Int) = z := fun z hz => by
      obtain ⟨x, _, rfl⟩ := List.mem_map.mp (p.mem_iff.mp hz)
      rfl
    unfold nv
    rw [List.map_map]
    conv => lhs; rw [← List.map_id zs]
    exact List.map_congr_left fun z hz => (all z hz).symm
  · have := p.map unV
    rwa [un_nv] at this
/-- what the pair at a reference points to -/
def pairAt (H : Hp) (xs : List V) : V → V
  | .ref t => match H t with
    | some (.tup [_, .int j]) => xs.getD j.toNat .non
    | _ => .non
  | _ => .non
section
variable {P : Program} {w : World} {K : PySem.W.Frag} {mg : Str → Option Value} {base : Heap}
abbrev NG : List Str := ["_law_well_here", "_law_most", "_law_n", "_law_parents", "_law_way", "_law_turn", "_law_tops_here", "_law_ranked", "_law_one", "_law_other", "_law_k", "_law_weight"]
theorem scGrown : FnScope NG ["_law_well_here", "_law_most"] (defScope sGrown) := ⟨rfl, rfl, rfl, by decide +kernel, rfl, by decide +kernel, by decide +kernel⟩
theorem ok_grownB {f fP fI fM fT fH : Addr} {fd fdP fdI fdM fdT fdH : FuncData} (F : Fun K "_law_grown" "_law_grown" sGrown f fd)
    (FP : Fun K "_law_pull" "_law_pull" sPull fP fdP) (bP : Binds K fdP ["_law_well_here", "_law_many"] []) (gP : mg "_law_pull" = some (.ref fP))
    (FI : Fun K "_law_item" "_law_item" sItem fI fdI) (bI : Binds K fdI ["_law_well_here", "_law_items"] []) (gI : mg "_law_item" = some (.ref fI))
    (FM : Fun K "_law_mixed" "_law_mixed" sMixed fM fdM) (bM : Binds K fdM ["_law_well_here", "_law_items"] []) (gM : mg "_law_mixed" = some (.ref fM))
    (FT : Fun K "_law_tops" "_law_tops" sTops fT fdT) (bT : Binds K fdT ["_law_parents"] []) (gT : mg "_law_tops" = some (.ref fT))
    (FH : Fun K "_law_heft" "_law_heft" sHeft fH fdH) (bH : Binds K fdH ["_law_parents", "_law_vertex"] []) (gH : mg "_law_heft" = some (.ref fH))
    (ml : mg "len" = none) (mr : mg "range" = none) (mL : mg "list" = none) (mT : mg "tuple" = none) (mS : mg "sorted" = none) :
    FnOk P w K mg base CX0 3 f fd ["_law_well_here", "_law_most"] spGrownB := by
  have GP : FnOk P w K mg base CX0 1 fP fdP ["_law_well_here", "_law_many"] spPull := ok_pull FP
  have GI : FnOk P w K mg base CX0 2 fI fdI ["_law_well_here", "_law_items"] spItem := ok_item FI FP bP gP ml
  have GM : FnOk P w K mg base CX0 2 fM fdM ["_law_well_here", "_law_items"] spMixed := ok_mixed FM FP bP gP ml mL
  have GT : FnOk P w K mg base CX0 1 fT fdT ["_law_parents"] (spTops K) := ok_tops FT ml mr
  have GH : FnOk P w K mg base CX0 1 fH fdH ["_law_parents", "_law_vertex"] (spHeft K) := ok_heft FH ml mr
  refine F.ok scGrown (fun vs H Q E h => ?_) (fun cdv A outer s H vs Q E hr h => ?_)
  · obtain ⟨w, l, m, rfl, _⟩ := h
    rfl
  · obtain ⟨w, l, most, rfl, hW, m0, m1, q⟩ := h
    have hr1 : Room 1 _ := hr.mono (by decide)
    refine ⟨_, pss_cons (ps_set (i := 2) scGrown.nd rfl (.inl rfl) (pe_op op_add pe_int (pe_call GP hr1 (by rfl) gP FP.kp bP .nil pass0 (pa_cons (pv 0) (pa_cons (pv 1) pa_nil)))))
      (pss_cons (ps_asg (pe_tup (pa_cons (pe_listRg rfl (by rfl) mL (prg_1 (by rfl) mr (pv 2))) (pa_cons (pe_call GP hr1 (by rfl) gP FP.kp bP .nil pass0 (pa_cons (pv 0) (pa_cons pe_int pa_nil))) pa_nil)))
          (pg_tup rfl (pgs_cons (pg_name (i := 3) scGrown.nd rfl (.inr rfl)) (pgs_cons (pg_name (i := 4) scGrown.nd rfl (.inl rfl)) pgs_nil))))
      (pss_cons (ps_for PassesOwn.never rfl (pi_range1 (by rfl) mr (pa_cons (pe_call GI hr (by rfl) gI FI.kp bI .nil pass0 (pa_cons (pv 0) (pa_cons (pe_lst (pa_cons (pe_op op_sub (pv 2) pe_int) (pa_cons (pe_op op_sub (pv 2) pe_int)
            (pa_cons (pe_call GP hr1 (by rfl) gP FP.kp bP .nil pass0 (pa_cons (pv 0) (pa_cons (pv 2) pa_nil))) pa_nil)))) pa_nil))) pa_nil)) (pg_name (i := 5) scGrown.nd rfl (.inl rfl))
          (pss_cons (ps_set (i := 6) scGrown.nd rfl (.inr rfl) (pe_call GM hr (by rfl) gM FM.kp bM .nil pass0 (pa_cons (pv 0) (pa_cons (pe_call GT hr1 (by rfl) gT FT.kp bT .nil pass0 (pa_cons (pv 3) pa_nil)) pa_nil))))
          (C8.pss_cut (ps_if (pt_cmpR op_lt (pv 4) pe_int (nomark _))
              (pss_cons (ps_set (i := 7) scGrown.nd rfl (.inl rfl) (pe_callB cr_sortedP (by rfl) mS (by decide +kernel) (pa_cons (pe_lc (own := [("_law_k", 10)]) (g := gName 10) (tt := tYes)
                  (te := tTup (tCons (tCall (spHeft K) [] E0 (tCons (tVar 3) (tCons (tOp (rIxL K) (tVar 6) (tVar 10)) tNil))) (tCons (tVar 10) tNil))) (by rfl) scGrown.nd
                  (pi_range1 (by rfl) mr (pa_cons (pe_callB call_len_seq (by rfl) ml PySem.boot_len (pa_cons (pv 6) pa_nil)) pa_nil)) (blkOk_by (own := [("_law_k", 10)]) (N := NG) (sc := defScope sGrown) (by decide +kernel))
                  (fun _ _ _ _ _ => pg_name (i := 10) scGrown.nd rfl (Or.inl rfl)) (fun _ _ _ _ _ => pts_nil)
                  (fun _ _ _ _ _ => pe_tup (pa_cons (pe_call GH hr1 (by rfl) gH FH.kp bH .nil pass0 (pa_cons (pv 3) (pa_cons (pe_ix ix_list (pv 6) (pv 10) (fun _ _ => rfl)) pa_nil))) (pa_cons (pv 10) pa_nil)))) pa_nil)))
              (pss_one (ps_set (i := 6) scGrown.nd rfl (.inr rfl) (pe_stepL (pe_lc (own := [("_law_weight", 11), ("_law_k", 10)]) (g := gTup K 2 (gCons (gName 11) (gCons (gName 10) gNil))) (tt := tYes) (te := tOp (rIxL K) (tVar 6) (tVar 10)) (by rfl) scGrown.nd (pi_list (pv 7))
                  (blkOk_by (own := [("_law_weight", 11), ("_law_k", 10)]) (N := NG) (sc := defScope sGrown) (by decide +kernel)) (fun _ _ _ _ _ => pg_tup rfl (pgs_cons (pg_name (i := 11) scGrown.nd rfl (Or.inl rfl)) (pgs_cons (pg_name (i := 10) scGrown.nd rfl (Or.inl rfl)) pgs_nil))) (fun _ _ _ _ _ => pts_nil)
                  (fun _ _ _ _ _ => pe_ix ix_list (pv 6) (pv 10) (fun _ _ => rfl))) (pe_ix ix_list (pe_lst (pa_cons pe_int (pa_cons (pe_un un_neg pe_int) pa_nil))) (pv 4) (fun _ _ => rfl)))))) pss_nil)
          (pss_cons (ps_par (i := 8) (j := 9) (by rfl) scGrown.nd rfl rfl (by decide) rfl rfl (pa_cons (pe_ix ix_list (pv 6) pe_int (fun _ _ => rfl)) (pa_cons (pe_ix ix_list (pv 6) pe_int (fun _ _ => rfl)) pa_nil)) (by rfl))
          (C8.pss_cut (ps_if (pt_cmpR op_lt (pe_call GH hr1 (by rfl) gH FH.kp bH .nil pass0 (pa_cons (pv 3) (pa_cons (pv 8) pa_nil))) (pe_call GH hr1 (by rfl) gH FH.kp bH .nil pass0 (pa_cons (pv 3) (pa_cons (pv 9) pa_nil))) (nomark _))
              (pss_one (ps_par (i := 8) (j := 9) (by rfl) scGrown.nd rfl rfl (by decide) rfl rfl (pa_cons (pv 9) (pa_cons (pv 8) pa_nil)) (by rfl))) pss_nil)
          (pss_one (ps_asg (pv 8) (pg_sub (pv 3) (pv 9) set_list))))))))
      (pss_one (ps_ret (pe_callTy call_tuple_of (by rfl) mT (by decide +kernel) (pa_cons (pv 3) pa_nil)))))), ?_⟩
    refine ⟨.ref w, rfl, .int most, rfl, w, l, most, rfl, hW, m0, by omega, fun r H1 r0 r1 hW1 kp1 => ⟨1, r, rfl, rfl, ?_⟩⟩
    obtain ⟨n, en⟩ : ∃ n : Nat, 1 + r = (n : Int) := ⟨(1 + r).toNat, by omega⟩
    show gName 2 (V.int (1 + r)) _ _ _
    rw [en]
    have n0 : 0 < n := by omega
    have n24 : n ≤ 24 := by omega
    refine ⟨.int (n : Int), rfl, n, rfl, RgOk.of_le (by omega) (by omega) (by omega) (by omega), fun pr npr => ?_⟩
    rw [rgV_nv]
    have Sp := same_new (o := .lst (nv (List.range n))) npr
    refine ⟨.ref w, rfl, w, l, 4, rfl, hW1.same Sp, by decide, by decide, fun wy H2 y0 y1 hW2 kp2 => ?_⟩
    obtain ⟨nwl, x1, st1, hw1, hl1, _⟩ := id hW1
    have prw : pr ≠ w := (ne_of_none hw1 npr).symm
    have prl : pr ≠ l := (ne_of_none hl1 npr).symm
    have prn : H pr = none := by
      cases z : H pr with
      | none => rfl
      | some o =>
        rw [kp1 _ _ prw prl z] at npr
        cases npr
    have hpr2 : H2 pr = some (.lst (nv (List.range n))) := kp2 _ _ prw prl upd_same
    have K2 : Keep w l H H2 := kp1.trans ((Keep.of Sp).trans kp2)
    refine ⟨(by show 2 ≤ sizeLine; decide), fun t nt => ⟨t, _, rfl, SqT.of upd_same, rfl, _, _, rfl, _, _, rfl, rfl, ?_⟩⟩
    have St := same_new (o := .tup [V.ref pr, V.int wy]) nt
    refine ⟨.ref w, rfl, .int (n : Int), rfl, _, _, rfl, rfl, .int (n : Int), rfl, _, _, rfl, rfl, .ref w, rfl, .int (n : Int), rfl, w, l, (n : Int), rfl, hW2.same St, by omega, by omega, fun r2 H3 q0 q1 hW3 kp3 => ?_⟩
    refine ⟨(by show 3 ≤ sizeLine; decide), fun p3 n3 => ?_⟩
    have S3 := same_new (o := .lst [V.int ((n : Int) - 1), V.int ((n : Int) - 1), V.int r2]) n3
    obtain ⟨_, x3, st3, hw3, hl3, _⟩ := id hW3
    refine ⟨w, l, p3, _, rfl, hW3.same S3, upd_same, (ne_of_none hw3 n3).symm, (ne_of_none hl3 n3).symm, (fun z => nomatch z), (by show 3 < 1073741824; decide), fun v H4 hv hW4 kp4 => ?_⟩
    obtain ⟨tn, rfl, t0, t1⟩ : ∃ tn : Int, v = .int tn ∧ 0 ≤ tn ∧ tn < n := by
      simp only [List.mem_cons, List.not_mem_nil, or_false] at hv
      rcases hv with rfl | rfl | rfl
      · exact ⟨_, rfl, by omega, by omega⟩
      · exact ⟨_, rfl, by omega, by omega⟩
      · exact ⟨_, rfl, q0, q1⟩
    have K4 : Keep w l H H4 := K2.trans ((Keep.of St).trans (kp3.trans ((Keep.of S3).trans kp4)))
    have hpr4 : H4 pr = some (.lst (nv (List.range n))) := kp4 _ _ prw prl (S3 _ _ (kp3 _ _ prw prl (St _ _ hpr2)))
    refine ⟨tn, rfl, by omega, by omega, for_range (lo := 0) (n := tn.toNat) (fun i σ H5 => ∃ (fs : List Nat) (c5 c6 c7 c8 c9 : Option V), σ = [some (.ref w), some (.int most), some (.int (n : Int)), some (.ref pr), some (.int wy), c5, c6, c7, c8, c9, none, none] ∧ Forest fs ∧ (∀ c, ¬ Heavy fs c) ∧ fs.length = n ∧ (tops fs).length + i = n ∧ H5 pr = some (.lst (nv fs)) ∧ Well w l H5 ∧ Keep w l H H5)
      ⟨List.range n, none, none, none, none, none, rfl, Forest.range n0 n24, range_light n, List.length_range, by rw [tops_range, List.length_range]; rfl, hpr4, hW4, K4⟩ ?_ ?_⟩
    · rintro i σ H5 hi ⟨fs, c5, c6, c7, c8, c9, rfl, hF, nh, ef, et, hpr, hW5, kp5⟩
      have two : 2 ≤ (tops fs).length := by omega
      refine ⟨.ref w, rfl, .ref pr, rfl, pr, fs, rfl, .inl (SqL.of hpr), by omega, fun tq H6 S6 nq hq => ?_⟩
      have tle : (tops fs).length ≤ 1000 := by omega
      refine ⟨w, l, tq, tops fs, rfl, hW5.same S6, hq, tle, fun ms th H7 pm hW7 kp7 nth hth => ?_⟩
      have hpr7 : H7 pr = some (.lst (nv fs)) := kp7 _ _ prw prl (S6 _ _ hpr)
      have K7 : Keep w l H H7 := kp5.trans ((Keep.of S6).trans kp7)
      have lms : ms.length = (tops fs).length := pm.length_eq
      have inT : ∀ {x : Nat}, x ∈ ms → x < fs.length := fun hx => (mem_tops.mp (pm.mem_iff.mp hx)).1
      -- the roots in some order, whichever way
      refine ⟨fun σ' H8 => ∃ (ks : List Nat) (tb : Addr) (d7 : Option V), σ' = [some (.ref w), some (.int most), some (.int (n : Int)), some (.ref pr), some (.int wy), some (.int (0 + (i : Int))), some (.ref tb), d7, c8, c9, none, none] ∧ ks.Perm (tops fs) ∧ H8 tb = some (.lst (nv ks)) ∧ H8 pr = some (.lst (nv fs)) ∧ Well w l H8 ∧ Keep w l H H8, ?_, ?_⟩
      · refine ⟨.int wy, rfl, _, _, rfl, rfl, _, rfl, ite2 (fun hy => ?_) (fun hy => ?_)⟩
        · have hy : wy < 2 := of_decide_eq_true hy
          refine ⟨.ref th, rfl, th, _, rfl, .inl (SqL.of hth), _, rfl, ?_, ?_, fun D nD => lc_range (lo := 0) (n := ((nv ms).length : Int).toNat)
            (fun k H8 => Same H7 H8 ∧ ∃ ts : List Addr, H8 D = some (.lst (ts.map V.ref)) ∧ ts.length = k ∧ ∀ (j : Nat) (t : Addr), ts[j]? = some t → H7 t = none ∧ t ≠ D ∧ ∃ c : Int, H8 t = some (.tup [.int c, .int (j : Int)])) ⟨same_new nD, [], upd_same, rfl, fun j t z => nomatch z⟩ ?_ ?_⟩
          · rw [nv_length]
            omega
          · rw [nv_length]
            omega
          · rintro k H8 hk ⟨s8, ts, hD, lt, hts⟩
            rw [nv_length] at hk
            have hk' : k < ms.length := by omega
            refine ⟨rfl, ?_⟩
            dsimp only [tYes]
            rw [if_pos rfl]
            refine ⟨.ref pr, rfl, .ref th, rfl, .int (0 + (k : Int)), rfl, th, _, (k : Int), _, rfl, by rw [Int.zero_add], SqL.of (s8 _ _ hth), atI_nat (nv_get hk'), pr, fs, _, rfl, .inl (SqL.of (s8 _ _ hpr7)), hF, ?_, fun ins H9 s9 _ _ => ?_⟩
            · refine inT ?_
              rw [List.getD_eq_getElem?_getD, List.getElem?_eq_getElem hk']
              exact List.getElem_mem hk'
            · refine ⟨.int (0 + (k : Int)), rfl, (by show 2 ≤ sizeLine; decide), fun t5 n5 => ?_⟩
              have S5 := same_new (o := .tup [V.int (ins.length : Nat), V.int (0 + (k : Int))]) n5
              have hD9 := S5 _ _ (s9 _ _ hD)
              have t5D : t5 ≠ D := (ne_of_none (s9 _ _ hD) n5).symm
              refine ⟨_, hD9, ?_, fun b o z => ?_, ts ++ [t5], ?_, ?_, ?_⟩
              · rw [List.length_map]
                exact small1000 (by omega)
              · rw [upd_ne (ne_of_none z nD)]
                exact S5 _ _ (s9 _ _ (s8 _ _ z))
              · rw [upd_same, List.map_append]
                rfl
              · rw [List.length_append, lt]
                rfl
              · intro j t hj
                by_cases z : j < ts.length
                · rw [List.getElem?_append_left z] at hj
                  obtain ⟨g1, g2, c, g3⟩ := hts j t hj
                  refine ⟨g1, g2, c, ?_⟩
                  rw [upd_ne g2]
                  exact S5 _ _ (s9 _ _ g3)
                · rw [List.getElem?_append_right (Nat.le_of_not_lt z)] at hj
                  have z2 : j - ts.length = 0 := by
                    rcases Nat.eq_zero_or_pos (j - ts.length) with y | y
                    · exact y
                    · rw [List.getElem?_eq_none (by rw [List.length_singleton]; omega)] at hj
                      cases hj
                  rw [z2] at hj
                  have e5 : t5 = t := Option.some.inj hj
                  subst e5
                  have ej : j = k := by omega
                  subst ej
                  refine ⟨(s8.trans s9).free n5, t5D, ((ins.length : Nat) : Int), ?_⟩
                  rw [upd_ne t5D, upd_same, Int.zero_add]
          · rintro H8 ⟨s8, ts, hD, lt, hts⟩
            rw [nv_length, Int.toNat_natCast] at lt
            have memts : ∀ x ∈ ts.map V.ref, ∃ (t : Addr) (a b : Int), x = V.ref t ∧ H8 t = some (.tup [.int a, .int b]) := fun x hx => by
              obtain ⟨t, ht, rfl⟩ := List.mem_map.mp hx
              obtain ⟨j, hj, ej⟩ := List.getElem_of_mem ht
              obtain ⟨_, _, c, g⟩ := hts j t (by rw [List.getElem?_eq_getElem hj, ej])
              exact ⟨t, c, j, rfl, g⟩
            refine ⟨D, _, rfl, SqL.of hD, memts, fun ys p6 py n6 => ?_⟩
            have S8 := same_new (o := .lst ys) n6
            have ey : (upd H8 p6 (.lst ys)) p6 = some (.lst ys) := upd_same
            generalize hG : upd H8 p6 (.lst ys) = G at *
            clear hG
            have lys : ys.length = ms.length := by
              rw [py.length_eq, List.length_map, lt]
            have val : ∀ y ∈ ys, ∃ (t : Addr) (c : Int) (j : Nat), y = V.ref t ∧ G t = some (.tup [.int c, .int (j : Int)]) ∧ j < ms.length := fun y hy => by
              obtain ⟨t, ht, rfl⟩ := List.mem_map.mp (py.mem_iff.mp hy)
              obtain ⟨j, hj, ej⟩ := List.getElem_of_mem ht
              obtain ⟨_, _, c, g⟩ := hts j t (by rw [List.getElem?_eq_getElem hj, ej])
              exact ⟨t, c, j, rfl, S8 _ _ g, by omega⟩
            have eqTs : (ts.map V.ref).map (pairAt G (nv ms)) = nv ms := by
              apply List.ext_getElem?
              intro j
              rw [List.getElem?_map, List.getElem?_map]
              by_cases z : j < ts.length
              · obtain ⟨_, _, c, g⟩ := hts j ts[j] (by rw [List.getElem?_eq_getElem z])
                rw [List.getElem?_eq_getElem z]
                have g2 := S8 _ _ g
                have e3 : pairAt G (nv ms) (V.ref ts[j]) = (nv ms).getD j .non := by
                  show (match G ts[j] with | some (.tup [_, .int j]) => (nv ms).getD j.toNat .non | _ => .non) = _
                  rw [g2]
                  rfl
                show some (pairAt G (nv ms) (V.ref ts[j])) = _
                rw [e3, List.getD_eq_getElem?_getD, nv_get (by omega)]
                rfl
              · rw [List.getElem?_eq_none (Nat.le_of_not_lt z), List.getElem?_eq_none (by rw [nv_length]; omega)]
                rfl
            have hth8 : G th = some (.lst (nv ms)) := S8 _ _ (s8 _ _ hth)
            refine ⟨.ref p6, rfl, p6, rfl, ⟨_, SqL.of ey⟩, fun E nE => lc_list (K := K) (a := p6) (xs := ys) (fun k H9 => Same G H9 ∧ H9 E = some (.lst ((ys.take k).map (pairAt G (nv ms))))) ⟨same_new nE, upd_same⟩ (fun k H9 _ z => SqL.of (z.1 _ _ ey)) ?_ ?_⟩
            · rintro k y H9 hk ⟨s9, hE⟩
              have hkl : k < ys.length := by
                rcases Nat.lt_or_ge k ys.length with z | z
                · exact z
                · rw [List.getElem?_eq_none z] at hk
                  cases hk
              obtain ⟨t, c, j, rfl, g, jl⟩ := val y (List.mem_of_getElem? hk)
              refine ⟨t, _, rfl, SqT.of (s9 _ _ g), rfl, _, _, rfl, _, _, rfl, rfl, rfl, ?_⟩
              dsimp only [tYes]
              rw [if_pos rfl]
              refine ⟨.ref th, rfl, .int (j : Int), rfl, th, _, (j : Int), _, rfl, rfl, SqL.of (s9 _ _ hth8), atI_nat (nv_get jl), _, hE, ?_, fun b o z => ?_, ?_⟩
              · rw [List.length_map, List.length_take]
                exact small1000 (Nat.le_trans (Nat.min_le_right _ _) (by omega))
              · rw [upd_ne (ne_of_none z nE)]
                exact s9 _ _ z
              · have e3 : pairAt G (nv ms) (V.ref t) = .int ((ms.getD j 0 : Nat) : Int) := by
                  show (match G t with | some (.tup [_, .int j]) => (nv ms).getD j.toNat .non | _ => .non) = _
                  rw [g]
                  show (nv ms).getD (Int.toNat (j : Int)) .non = _
                  rw [Int.toNat_natCast, List.getD_eq_getElem?_getD, nv_get jl]
                  rfl
                rw [upd_same, List.take_add_one, hk, List.map_append]
                show some (HO.lst (_ ++ [_])) = some (HO.lst (_ ++ [pairAt G (nv ms) (V.ref t)]))
                rw [e3]
            · rintro H9 ⟨s9, hE⟩
              rw [List.take_length] at hE
              refine ⟨1, rfl, (by show 2 ≤ sizeLine; decide), fun p7 n7 => ?_⟩
              have S9 := same_new (o := .lst [V.int 1, V.int (-1)]) n7
              have pz : (ys.map (pairAt G (nv ms))).Perm (nv ms) := by
                have := py.map (pairAt G (nv ms))
                rwa [eqTs] at this
              obtain ⟨ks, ek, pk⟩ := perm_nv pz
              rw [ek] at hE
              have fin : ∀ (zs : List Nat), zs.Perm ms → ∀ p8, (upd H9 p7 (.lst [V.int 1, V.int (-1)])) p8 = none → _ := fun zs pzs p8 n8 =>
                show ∃ (ks : List Nat) (tb : Addr) (d7 : Option V), [some (.ref w), some (.int most), some (.int (n : Int)), some (.ref pr), some (.int wy), some (.int (0 + (i : Int))), some (.ref p8), some (.ref p6), c8, c9, none, none] = [some (.ref w), some (.int most), some (.int (n : Int)), some (.ref pr), some (.int wy), some (.int (0 + (i : Int))), some (.ref tb), d7, c8, c9, none, none] ∧ ks.Perm (tops fs) ∧ (upd (upd H9 p7 (.lst [V.int 1, V.int (-1)])) p8 (.lst (nv zs))) tb = some (.lst (nv ks)) ∧ (upd (upd H9 p7 (.lst [V.int 1, V.int (-1)])) p8 (.lst (nv zs))) pr = some (.lst (nv fs)) ∧ Well w l (upd (upd H9 p7 (.lst [V.int 1, V.int (-1)])) p8 (.lst (nv zs))) ∧ Keep w l H (upd (upd H9 p7 (.lst [V.int 1, V.int (-1)])) p8 (.lst (nv zs))) from by
                  have Sz := (s8.trans (S8.trans (s9.trans S9))).trans (same_new (o := .lst (nv zs)) n8)
                  exact ⟨zs, p8, _, rfl, pzs.trans pm, upd_same, Sz _ _ hpr7, hW7.same Sz, K7.trans (Keep.of Sz)⟩
              have w01 : wy = 0 ∨ wy = 1 := by omega
              rcases w01 with rfl | rfl
              · refine ⟨.int 0, rfl, p7, _, 0, .int 1, rfl, rfl, SqL.of upd_same, atI_nat (j := 0) rfl, E, _, 1, rfl, rfl, SqL.of (S9 _ _ hE), .inl rfl, fun p8 n8 zs hz => ?_⟩
                rcases hz with rfl | rfl
                · exact fin ks pk p8 n8
                · rw [show (nv ks).reverse = nv ks.reverse from (List.map_reverse ..).symm]
                  exact fin ks.reverse ((List.reverse_perm ks).trans pk) p8 n8
              · refine ⟨.int 1, rfl, p7, _, 1, .int (-1), rfl, rfl, SqL.of upd_same, atI_nat (j := 1) rfl, E, _, -1, rfl, rfl, SqL.of (S9 _ _ hE), .inr rfl, fun p8 n8 zs hz => ?_⟩
                rcases hz with rfl | rfl
                · exact fin ks pk p8 n8
                · rw [show (nv ks).reverse = nv ks.reverse from (List.map_reverse ..).symm]
                  exact fin ks.reverse ((List.reverse_perm ks).trans pk) p8 n8
        · exact ⟨ms, th, c7, rfl, pm, hth, hpr7, hW7, K7⟩
      · rintro σ' H8 ⟨ks, tb, d7, rfl, pk, htb, hpr8, hW8, K8⟩
        have k2 : 2 ≤ ks.length := by rw [pk.length_eq]; exact two
        have knd : ks.Nodup := pk.symm.nodup (tops_nodup fs)
        generalize hx : ks.getD 0 0 = x
        generalize hy : ks.getD 1 0 = y
        have ex : ks[0]? = some x := by rw [← hx, List.getD_eq_getElem?_getD, List.getElem?_eq_getElem (by omega)]; rfl
        have ey : ks[1]? = some y := by rw [← hy, List.getD_eq_getElem?_getD, List.getElem?_eq_getElem (by omega)]; rfl
        have xm : x ∈ tops fs := pk.mem_iff.mp (List.mem_of_getElem? ex)
        have ym : y ∈ tops fs := pk.mem_iff.mp (List.mem_of_getElem? ey)
        have xy : x ≠ y := fun z => by
          subst z
          have := (List.getElem?_inj (by omega) knd).mp (ex.trans ey.symm)
          omega
        refine ⟨.ref tb, rfl, tb, _, 0, .int (x : Nat), rfl, rfl, SqL.of htb, ?_, .ref tb, rfl, tb, _, 1, .int (y : Nat), rfl, rfl, SqL.of htb, ?_, _, _, rfl, ?_⟩
        · rw [← hx]
          exact atI_nat (j := 0) (nv_get (by omega))
        · rw [← hy]
          exact atI_nat (j := 1) (nv_get (by omega))
        refine ⟨fun σ' H9 => ∃ x y : Nat, σ' = [some (.ref w), some (.int most), some (.int (n : Int)), some (.ref pr), some (.int wy), some (.int (0 + (i : Int))), some (.ref tb), d7, some (.int (x : Nat)), some (.int (y : Nat)), none, none] ∧ x ∈ tops fs ∧ y ∈ tops fs ∧ x ≠ y ∧ wt fs y ≤ wt fs x ∧ Same H8 H9, ?_, ?_⟩
        · refine ⟨.ref pr, rfl, .int (x : Nat), rfl, pr, fs, x, rfl, .inl (SqL.of hpr8), hF, (mem_tops.mp xm).1, fun i1 H9 s9 nd1 m1 => ?_⟩
          refine ⟨.ref pr, rfl, .int (y : Nat), rfl, pr, fs, y, rfl, .inl (SqL.of (s9 _ _ hpr8)), hF, (mem_tops.mp ym).1, fun i2 H10 s10 nd2 m2 => ?_⟩
          have w1 : wt fs x = i1.length := cnt_of nd1 m1
          have w2 : wt fs y = i2.length := cnt_of nd2 m2
          refine ⟨_, _, rfl, rfl, _, rfl, ite2 (fun hlt => ?_) (fun hlt => ?_)⟩
          · exact ⟨.int (y : Nat), rfl, .int (x : Nat), rfl, _, _, rfl, y, x, rfl, ym, xm, Ne.symm xy, by rw [w1, w2]; exact Nat.le_of_lt (Int.ofNat_lt.mp (of_decide_eq_true hlt)), s9.trans s10⟩
          · exact ⟨x, y, rfl, xm, ym, xy, by rw [w1, w2]; exact Nat.le_of_not_lt fun z => hlt (decide_eq_true (Int.ofNat_lt.mpr z)), s9.trans s10⟩
        · rintro σ2 H9 ⟨x, y, rfl, xm, ym, xy, wxy, s9⟩
          have hx1 := mem_tops.mp xm
          have hy1 := mem_tops.mp ym
          refine ⟨.int (x : Nat), rfl, .ref pr, rfl, .int (y : Nat), rfl, pr, _, (y : Int), y, rfl, rfl, s9 _ _ hpr8, ?_, ?_⟩
          · unfold ixN
            rw [nv_length, if_pos (by omega), if_pos (by omega), Int.toNat_natCast]
          · refine ⟨fs.set y x, _, _, _, _, _, rfl, hF.moved hy1.1 hx1.1 ?_, join_light hF hy1.1 hy1.2 hx1.1 hx1.2 (Ne.symm xy) wxy nh, by rw [List.length_set]; exact ef, ?_, ?_, ?_, ?_⟩
            · intro b
              cases b with
              | refl => exact xy rfl
              | step h _ => exact h hx1.2
            · have := tops_moved ym xm (Ne.symm xy)
              omega
            · rw [upd_same]
              unfold nv
              rw [List.map_set]
            · obtain ⟨w1, w2, w3, w4, w5, w6⟩ := hW8.same s9
              exact ⟨w1, w2, w3, by rw [upd_ne prw.symm]; exact w4, by rw [upd_ne prl.symm]; exact w5, w6⟩
            · intro b o h1 h2 h
              rw [upd_ne (ne_of_none h prn)]
              exact s9 _ _ (K8 b o h1 h2 h)
    · rintro σ H5 ⟨fs, c5, c6, c7, c8, c9, rfl, hF, nh, ef, et, hpr, hW5, kp5⟩
      refine ⟨.ref pr, rfl, pr, _, rfl, .inl ⟨SqL.of hpr, fun p9 n9 => ?_⟩⟩
      have S9 := same_new (o := .tup (nv fs)) n9
      exact q fs p9 _ hF nh (by omega) (hW5.same S9) (kp5.trans (Keep.of S9)) (keep_free kp5 hW5 n9) upd_same
theorem ok_grown {f fP fI fM fT fH : Addr} {fd fdP fdI fdM fdT fdH : FuncData} (F : Fun K "_law_grown" "_law_grown" sGrown f fd)
    (FP : Fun K "_law_pull" "_law_pull" sPull fP fdP) (bP : Binds K fdP ["_law_well_here", "_law_many"] []) (gP : mg "_law_pull" = some (.ref fP))
    (FI : Fun K "_law_item" "_law_item" sItem fI fdI) (bI : Binds K fdI ["_law_well_here", "_law_items"] []) (gI : mg "_law_item" = some (.ref fI))
    (FM : Fun K "_law_mixed" "_law_mixed" sMixed fM fdM) (bM : Binds K fdM ["_law_well_here", "_law_items"] []) (gM : mg "_law_mixed" = some (.ref fM))
    (FT : Fun K "_law_tops" "_law_tops" sTops fT fdT) (bT : Binds K fdT ["_law_parents"] []) (gT : mg "_law_tops" = some (.ref fT))
    (FH : Fun K "_law_heft" "_law_heft" sHeft fH fdH) (bH : Binds K fdH ["_law_parents", "_law_vertex"] []) (gH : mg "_law_heft" = some (.ref fH))
    (ml : mg "len" = none) (mr : mg "range" = none) (mL : mg "list" = none) (mT : mg "tuple" = none) (mS : mg "sorted" = none) :
    FnOk P w K mg base CX0 3 f fd ["_law_well_here", "_law_most"] spGrown := FnOk.imp (ok_grownB F FP bP gP FI bI gI FM bM gM FT bT gT FH bH gH ml mr mL mT mS) fun vs H Q E h => by
  obtain ⟨w, l, m, h1, h2, h3, h4, h5⟩ := h
  exact ⟨w, l, m, h1, h2, h3, h4, fun fs q H' a _ => h5 fs q H' a⟩
end
end Lf
namespace Lf
open PySem PySem.Spec PyProof.Rows L2
/-! ### _law_wild -/
/-- each one's parent is itself or stands before it -/
structure Ord (os ps : List Nat) (i : Nat) : Prop where
  len : ps.length = os.length
  bef : ∀ j, j < i → ∃ v, os[j]? = some v ∧ (par ps v = v ∨ ∃ m u, m < j ∧ os[m]? = some u ∧ par ps v = u)
theorem Ord.forest {os ps : List Nat} {n : Nat} (pm : os.Perm (List.range n)) (O : Ord os ps n) (n0 : 0 < n) (n24 : n ≤ 24) : Forest ps := by
  have lo : os.length = n := by rw [pm.length_eq, List.length_range]
  have lp : ps.length = n := by rw [O.len, lo]
  have mem : ∀ {v : Nat}, v ∈ os → v < n := fun h => List.mem_range.mp (pm.mem_iff.mp h)
  have at_ : ∀ v, v < n → ∃ j, j < n ∧ os[j]? = some v := fun v hv => by
    obtain ⟨j, hj, ej⟩ := List.getElem_of_mem (pm.mem_iff.mpr (List.mem_range.mpr hv))
    exact ⟨j, by omega, by rw [List.getElem?_eq_getElem hj, ej]⟩
  refine ⟨by omega, by omega, fun v hv => ?_, fun v hv => ?_⟩
  · obtain ⟨j, hj, ej⟩ := at_ v (by omega)
    obtain ⟨v', ev, hb⟩ := O.bef j hj
    rw [ej] at ev
    cases ev
    rcases hb with z | ⟨m, u, _, eu, z⟩
    · rw [z]
      exact hv
    · rw [z, lp]
      exact mem (List.mem_of_getElem? eu)
  · obtain ⟨j, hj, ej⟩ := at_ v (by omega)
    clear hv
    show Up ps v
    induction j using Nat.strongRecOn generalizing v with
    | _ j ih =>
      obtain ⟨v', ev, hb⟩ := O.bef j hj
      rw [ej] at ev
      cases ev
      rcases hb with z | ⟨m, u, hm, eu, z⟩
      · exact .root z
      · refine .step ?_
        rw [z]
        exact ih m hm u (by omega) eu
theorem Ord.next {os ps : List Nat} {i v x : Nat} (nd : os.Nodup) (vl : v < ps.length) (ev : os[i]? = some v) (hx : x = v ∨ ∃ m u, m < i ∧ os[m]? = some u ∧ x = u) (O : Ord os ps i) : Ord os (ps.set v x) (i + 1) := by
  refine ⟨by rw [List.length_set]; exact O.len, fun j hj => ?_⟩
  by_cases z : j < i
  · obtain ⟨v', e', hb⟩ := O.bef j z
    have ne : ¬ v' = v := fun y => by
      subst y
      have hj2 : j < os.length := by
        rcases Nat.lt_or_ge j os.length with y | y
        · exact y
        · rw [List.getElem?_eq_none y] at e'
          cases e'
      have := (List.getElem?_inj hj2 nd).mp (e'.trans ev.symm)
      omega
    refine ⟨v', e', ?_⟩
    rw [par_set vl, if_neg ne]
    exact hb
  · have : j = i := by omega
    subst this
    refine ⟨v, ev, ?_⟩
    rw [par_set vl, if_pos rfl]
    exact hx
theorem rep_nv : ∀ n : Nat, (List.replicate n [V.int 0]).flatten = nv (List.replicate n 0)
  | 0 => rfl
  | n + 1 => by
    rw [List.replicate_succ, List.replicate_succ, List.flatten_cons, rep_nv n]
    rfl
theorem cut_upto {os : List Nat} {i : Nat} (h : i ≤ os.length) : cutV (nv os) none (some (i : Int)) = nv (os.take i) := by
  unfold cutV
  rw [HT.sIx_none, HT.sIx_nat, nv_length, Nat.min_eq_left h, List.drop_zero, Nat.sub_zero]
  unfold nv
  rw [List.map_take]
section
variable {P : Program} {w : World} {K : PySem.W.Frag} {mg : Str → Option Value} {base : Heap}
abbrev NW : List Str := ["_law_well_here", "_law_most", "_law_n", "_law_order", "_law_parents", "_law_often", "_law_k", "_law_vertex"]
theorem scWild : FnScope NW ["_law_well_here", "_law_most"] (defScope sWild) := ⟨rfl, rfl, rfl, by decide +kernel, rfl, by decide +kernel, by decide +kernel⟩
theorem ok_wild {f fP fI fM : Addr} {fd fdP fdI fdM : FuncData} (F : Fun K "_law_wild" "_law_wild" sWild f fd)
    (FP : Fun K "_law_pull" "_law_pull" sPull fP fdP) (bP : Binds K fdP ["_law_well_here", "_law_many"] []) (gP : mg "_law_pull" = some (.ref fP))
    (FI : Fun K "_law_item" "_law_item" sItem fI fdI) (bI : Binds K fdI ["_law_well_here", "_law_items"] []) (gI : mg "_law_item" = some (.ref fI))
    (FM : Fun K "_law_mixed" "_law_mixed" sMixed fM fdM) (bM : Binds K fdM ["_law_well_here", "_law_items"] []) (gM : mg "_law_mixed" = some (.ref fM))
    (ml : mg "len" = none) (mr : mg "range" = none) (mL : mg "list" = none) (mT : mg "tuple" = none) (me : mg "enumerate" = none) :
    FnOk P w K mg base CX0 3 f fd ["_law_well_here", "_law_most"] spGrown := by
  have GP : FnOk P w K mg base CX0 1 fP fdP ["_law_well_here", "_law_many"] spPull := ok_pull FP
  have GI : FnOk P w K mg base CX0 2 fI fdI ["_law_well_here", "_law_items"] spItem := ok_item FI FP bP gP ml
  have GM : FnOk P w K mg base CX0 2 fM fdM ["_law_well_here", "_law_items"] spMixed := ok_mixed FM FP bP gP ml mL
  refine F.ok scWild (fun vs H Q E h => ?_) (fun cdv A outer s H vs Q E hr h => ?_)
  · obtain ⟨w, l, m, rfl, _⟩ := h
    rfl
  · obtain ⟨w, l, most, rfl, hW, m0, m1, q⟩ := h
    have hr1 : Room 1 _ := hr.mono (by decide)
    refine ⟨_, pss_cons (ps_set (i := 2) scWild.nd rfl (.inl rfl) (pe_op op_add pe_int (pe_call GP hr1 (by rfl) gP FP.kp bP .nil pass0 (pa_cons (pv 0) (pa_cons (pv 1) pa_nil)))))
      (pss_cons (ps_par (i := 3) (j := 4) (by rfl) scWild.nd rfl rfl (by decide) rfl rfl (pa_cons (pe_call GM hr (by rfl) gM FM.kp bM .nil pass0 (pa_cons (pv 0) (pa_cons (pe_listRg rfl (by rfl) mL (prg_1 (by rfl) mr (pv 2))) pa_nil))) (pa_cons (pe_op op_rep (pe_lst (pa_cons pe_int pa_nil)) (pv 2)) pa_nil)) (by rfl))
      (pss_cons (ps_set (i := 5) scWild.nd rfl (.inl rfl) (pe_op op_add pe_int (pe_call GP hr1 (by rfl) gP FP.kp bP .nil pass0 (pa_cons (pv 0) (pa_cons pe_int pa_nil)))))
      (pss_cons (ps_for PassesOwn.never rfl (pi_enum (by rfl) me (pa_cons (pv 3) pa_nil)) (pg_tup rfl (pgs_cons (pg_name (i := 6) scWild.nd rfl (.inl rfl)) (pgs_cons (pg_name (i := 7) scWild.nd rfl (.inl rfl)) pgs_nil)))
          (pss_one (ps_asg (pe_ifExp (PW.pt (pw_or (pt_cmpR op_eq (pv 6) pe_int (nomark _)) (pw_or1 (PW.pt (pw_and (pt_cmpR op_eq (pe_call GP hr1 (by rfl) gP FP.kp bP .nil pass0 (pa_cons (pv 0) (pa_cons (pv 5) pa_nil))) pe_int (nomark _)) (pw_and1 (pt_cmpR op_gt (pv 5) pe_int (nomark _)))))))) (pv 7)
              (pe_call GI hr (by rfl) gI FI.kp bI .nil pass0 (pa_cons (pv 0) (pa_cons (pe_slice sl_list (pv 3) po_none (po_some (pv 6))) pa_nil)))) (pg_sub (pv 4) (pv 7) set_list))))
      (pss_one (ps_ret (pe_callTy call_tuple_of (by rfl) mT (by decide +kernel) (pa_cons (pv 4) pa_nil))))))), ?_⟩
    refine ⟨.ref w, rfl, .int most, rfl, w, l, most, rfl, hW, m0, by omega, fun r H1 r0 r1 hW1 kp1 => ⟨1, r, rfl, rfl, ?_⟩⟩
    obtain ⟨n, en⟩ : ∃ n : Nat, 1 + r = (n : Int) := ⟨(1 + r).toNat, by omega⟩
    show gName 2 (V.int (1 + r)) _ _ _
    rw [en]
    have n0 : 0 < n := by omega
    have n24 : n ≤ 24 := by omega
    refine ⟨.ref w, rfl, .int (n : Int), rfl, n, rfl, RgOk.of_le (by omega) (by omega) (by omega) (by omega), fun pr npr => ?_⟩
    rw [rgV_nv]
    have Sp := same_new (o := .lst (nv (List.range n))) npr
    refine ⟨w, l, pr, List.range n, rfl, hW1.same Sp, upd_same, by rw [List.length_range]; omega, fun os qo H2 pm hW2 kp2 nqo hqo => ?_⟩
    refine ⟨(by show 1 ≤ sizeLine; decide), fun z1 nz1 => ⟨.int (n : Int), rfl, z1, _, _, rfl, rfl, upd_same, by omega, by omega, ?_, fun pp npp => ⟨_, _, rfl, ?_⟩⟩⟩
    · show 1 * Int.toNat (n : Int) ≤ sizeLine
      rw [sizeLine_eq]
      omega
    have Z1 := same_new (o := .lst [V.int 0]) nz1
    have lo : os.length = n := by rw [pm.length_eq, List.length_range]
    have nd : os.Nodup := pm.symm.nodup List.nodup_range
    have hrep : (List.replicate (Int.toNat (n : Int)) [V.int 0]).flatten = nv (List.replicate n 0) := by
      rw [Int.toNat_natCast]
      exact rep_nv n
    rw [hrep]
    have Z2 := same_new (o := .lst (nv (List.replicate n 0))) npp
    have ZZ := Z1.trans Z2
    have K2 : Keep w l H H2 := kp1.trans ((Keep.of Sp).trans kp2)
    have ppn : H pp = none := keep_free (K2.trans (Keep.of Z1)) (hW2.same Z1) npp
    refine ⟨.ref w, rfl, w, l, 6, rfl, hW2.same ZZ, by decide, by decide, fun of H3 o0 o1 hW3 kp3 => ⟨1, of, rfl, rfl, ?_⟩⟩
    obtain ⟨_, x3, st3, hw3, hl3, _⟩ := id (hW2.same ZZ)
    have qow : qo ≠ w ∧ qo ≠ l := by
      obtain ⟨_, _, _, hw1, hl1, _⟩ := hW1.same Sp
      exact ⟨(ne_of_none hw1 nqo).symm, (ne_of_none hl1 nqo).symm⟩
    have ppw : pp ≠ w ∧ pp ≠ l := by
      obtain ⟨_, _, _, hw1, hl1, _⟩ := hW2.same Z1
      exact ⟨(ne_of_none hw1 npp).symm, (ne_of_none hl1 npp).symm⟩
    have qopp : qo ≠ pp := (ne_of_none (Z1 _ _ hqo) npp)
    have hqo3 : H3 qo = some (.lst (nv os)) := kp3 _ _ qow.1 qow.2 (ZZ _ _ hqo)
    have hpp3 : H3 pp = some (.lst (nv (List.replicate n 0))) := kp3 _ _ ppw.1 ppw.2 upd_same
    have K3 : Keep w l H H3 := K2.trans ((Keep.of ZZ).trans kp3)
    refine ⟨.ref qo, rfl, qo, _, rfl, SqL.of hqo3, for_it (walk_enum (K := K) (a := qo) (xs := nv os)) (fun i σ H4 => ∃ (ps : List Nat) (c6 c7 : Option V), σ = [some (.ref w), some (.int most), some (.int (n : Int)), some (.ref qo), some (.ref pp), some (.int (1 + of)), c6, c7] ∧ Ord os ps i ∧ H4 qo = some (.lst (nv os)) ∧ H4 pp = some (.lst (nv ps)) ∧ Well w l H4 ∧ Keep w l H H4)
      ⟨List.replicate n 0, none, none, rfl, ⟨by rw [List.length_replicate, lo], fun j hj => absurd hj (Nat.not_lt_zero j)⟩, hqo3, hpp3, hW3, K3⟩ (fun i σ H4 _ ⟨_, _, _, _, _, z, _⟩ => SqL.of z) ?_ ?_⟩
    · rintro i v σ H4 H4' hi ⟨ps, c6, c7, rfl, O, hq4, hp4, hW4, K4⟩ ⟨t, v1, v2, rfl, nt, rfl, z1, z2⟩
      obtain ⟨io, rfl⟩ := nv_some z2
      cases z1
      have St := same_new (o := .tup [V.int (i : Nat), V.int ((os.getD i 0 : Nat) : Int)]) nt
      generalize hv : os.getD i 0 = v at *
      have ev : os[i]? = some v := by rw [← hv, List.getD_eq_getElem?_getD, List.getElem?_eq_getElem io]; rfl
      have vn : v < n := List.mem_range.mp (pm.mem_iff.mp (List.mem_of_getElem? ev))
      have vp : v < ps.length := by rw [O.len, lo]; exact vn
      -- whatever is chosen
      have put : ∀ (x : Nat) (H5 : Hp), (x = v ∨ ∃ m u, m < i ∧ os[m]? = some u ∧ x = u) → H5 qo = some (.lst (nv os)) → H5 pp = some (.lst (nv ps)) → Well w l H5 → Keep w l H H5 →
          ∃ (ps' : List Nat) (c6 c7 : Option V), [some (.ref w), some (.int most), some (.int (n : Int)), some (.ref qo), some (.ref pp), some (.int (1 + of)), some (V.int (i : Nat)), some (V.int (v : Nat))] = [some (.ref w), some (.int most), some (.int (n : Int)), some (.ref qo), some (.ref pp), some (.int (1 + of)), c6, c7] ∧ Ord os ps' (i + 1) ∧
            (upd H5 pp (.lst ((nv ps).set v (.int (x : Nat))))) qo = some (.lst (nv os)) ∧ (upd H5 pp (.lst ((nv ps).set v (.int (x : Nat))))) pp = some (.lst (nv ps')) ∧ Well w l (upd H5 pp (.lst ((nv ps).set v (.int (x : Nat))))) ∧ Keep w l H (upd H5 pp (.lst ((nv ps).set v (.int (x : Nat))))) := by
        intro x H5 hx hq5 hp5 hW5 K5
        refine ⟨ps.set v x, _, _, rfl, O.next nd vp ev hx, ?_, ?_, ?_, ?_⟩
        · rw [upd_ne qopp]
          exact hq5
        · rw [upd_same]
          unfold nv
          rw [List.map_set]
        · obtain ⟨w1, w2, w3, w4, w5, w6⟩ := hW5
          exact ⟨w1, w2, w3, by rw [upd_ne ppw.1.symm]; exact w4, by rw [upd_ne ppw.2.symm]; exact w5, w6⟩
        · intro b o h1 h2 h
          rw [upd_ne (ne_of_none h ppn)]
          exact K5 b o h1 h2 h
      have ix : ixN (nv ps).length (v : Int) = some v := by
        unfold ixN
        rw [nv_length, if_pos (by omega), if_pos (by omega), Int.toNat_natCast]
      refine ⟨t, _, rfl, SqT.of upd_same, rfl, _, _, rfl, _, _, rfl, rfl, ?_⟩
      refine ⟨.int (i : Nat), rfl, rfl, _, rfl, ite2 (fun hz => ?_) (fun hz => ?_)⟩
      · refine iteT ⟨.int (v : Nat), rfl, .ref pp, rfl, .int (v : Nat), rfl, pp, _, (v : Int), v, rfl, rfl, St _ _ hp4, ix, ?_⟩
        exact put v _ (.inl rfl) (St _ _ hq4) (St _ _ hp4) (hW4.same St) (K4.trans (Keep.of St))
      · have hz : ¬ i = 0 := fun z => hz (decide_eq_true (by rw [z]; rfl))
        refine ⟨.ref w, rfl, .int (1 + of), rfl, w, l, 1 + of, rfl, hW4.same St, by omega, by omega, fun g H5 g0 g1 hW5 kp5 => ?_⟩
        have hq5 := kp5 _ _ qow.1 qow.2 (St _ _ hq4)
        have hp5 := kp5 _ _ ppw.1 ppw.2 (St _ _ hp4)
        have K5 := K4.trans ((Keep.of St).trans kp5)
        have other : ∀ {Z : Prop}, Z → Z := fun z => z
        refine ⟨rfl, _, rfl, ite2 (fun h1 => ?_) (fun h1 => ?_)⟩
        · refine ⟨.int (1 + of), rfl, _, _, rfl, rfl, _, rfl, ite2 (fun h2 => ?_) (fun h2 => ?_)⟩
          · refine ⟨.int (v : Nat), rfl, .ref pp, rfl, .int (v : Nat), rfl, pp, _, (v : Int), v, rfl, rfl, hp5, ix, ?_⟩
            exact put v _ (.inl rfl) hq5 hp5 hW5 K5
          · refine ⟨.ref w, rfl, .ref qo, rfl, .int (i : Nat), rfl, _, rfl, qo, _, rfl, SqL.of hq5, fun ps5 n5 => ?_⟩
            have S5 := same_new (o := .lst (nv (os.take i))) n5
            rw [cut_upto (Nat.le_of_lt io)]
            obtain ⟨_, _, _, hw5, hl5, _⟩ := id hW5
            refine ⟨w, l, ps5, _, rfl, hW5.same S5, upd_same, (ne_of_none hw5 n5).symm, (ne_of_none hl5 n5).symm, ?_, ?_, fun x H6 hx hW6 kp6 => ?_⟩
            · intro z
              have := congrArg List.length z
              rw [nv_length, List.length_take] at this
              have : min i os.length = 0 := this
              omega
            · rw [nv_length, List.length_take]
              omega
            · obtain ⟨u, hu, rfl⟩ := List.mem_map.mp hx
              obtain ⟨m, hm, em⟩ := List.getElem_of_mem hu
              rw [List.length_take] at hm
              have em2 : os[m]? = some u := by
                rw [← em, List.getElem_take, List.getElem?_eq_getElem (by omega)]
              have hq6 := kp6 _ _ qow.1 qow.2 (S5 _ _ hq5)
              have hp6 := kp6 _ _ ppw.1 ppw.2 (S5 _ _ hp5)
              refine ⟨.ref pp, rfl, .int (v : Nat), rfl, pp, _, (v : Int), v, rfl, rfl, hp6, ix, ?_⟩
              exact put u _ (.inr ⟨m, u, by omega, em2, rfl⟩) hq6 hp6 hW6 (K5.trans ((Keep.of S5).trans kp6))
        · refine iteF ⟨.ref w, rfl, .ref qo, rfl, .int (i : Nat), rfl, _, rfl, qo, _, rfl, SqL.of hq5, fun ps5 n5 => ?_⟩
          have S5 := same_new (o := .lst (nv (os.take i))) n5
          rw [cut_upto (Nat.le_of_lt io)]
          obtain ⟨_, _, _, hw5, hl5, _⟩ := id hW5
          refine ⟨w, l, ps5, _, rfl, hW5.same S5, upd_same, (ne_of_none hw5 n5).symm, (ne_of_none hl5 n5).symm, ?_, ?_, fun x H6 hx hW6 kp6 => ?_⟩
          · intro z
            have := congrArg List.length z
            rw [nv_length, List.length_take] at this
            have : min i os.length = 0 := this
            omega
          · rw [nv_length, List.length_take]
            omega
          · obtain ⟨u, hu, rfl⟩ := List.mem_map.mp hx
            obtain ⟨m, hm, em⟩ := List.getElem_of_mem hu
            rw [List.length_take] at hm
            have em2 : os[m]? = some u := by
              rw [← em, List.getElem_take, List.getElem?_eq_getElem (by omega)]
            have hq6 := kp6 _ _ qow.1 qow.2 (S5 _ _ hq5)
            have hp6 := kp6 _ _ ppw.1 ppw.2 (S5 _ _ hp5)
            refine ⟨.ref pp, rfl, .int (v : Nat), rfl, pp, _, (v : Int), v, rfl, rfl, hp6, ix, ?_⟩
            exact put u _ (.inr ⟨m, u, by omega, em2, rfl⟩) hq6 hp6 hW6 (K5.trans ((Keep.of S5).trans kp6))
    · rintro σ H4 ⟨ps, c6, c7, rfl, O, hq4, hp4, hW4, K4⟩
      refine ⟨.ref pp, rfl, pp, _, rfl, .inl ⟨SqL.of hp4, fun p9 n9 => ?_⟩⟩
      have S9 := same_new (o := .tup (nv ps)) n9
      rw [nv_length, lo] at O
      exact q ps p9 _ (O.forest pm n0 n24) (by have := O.len; omega) (hW4.same S9) (K4.trans (Keep.of S9)) (keep_free K4 hW4 n9) upd_same
end
end Lf
namespace Lf
open PySem PySem.Spec PyProof.Rows L2
/-! ### _law_line, _law_forest -/
def spLine (K : PySem.W.Frag) : Sp := fun vs H Q _ => ∃ (p : Addr) (fs : List Nat) (v : Nat), vs = [.ref p, .int (v : Nat)] ∧ SqQ K H p (nv fs) ∧ Forest fs ∧ v < fs.length ∧
  ∀ (ln : List Nat) (q : Addr) (H' : Hp), Same H H' → Pth fs v ln → ln.length ≤ fs.length → H q = none → H' q = some (.lst (nv ln)) → Q (.ref q) H'
theorem nv_last (l : List Nat) (v : Nat) : atI (nv (l ++ [v])) (-1) = some (.int (v : Nat)) := by
  rw [nv_append]
  exact atI_last (nv l) (.int (v : Nat))
section
variable {P : Program} {w : World} {K : PySem.W.Frag} {mg : Str → Option Value} {base : Heap}
theorem scLine : FnScope ["_law_parents", "_law_vertex", "_law_found"] ["_law_parents", "_law_vertex"] (defScope sLine) := ⟨rfl, rfl, rfl, by decide +kernel, rfl, by decide +kernel, by decide +kernel⟩
theorem ok_line {f : Addr} {fd : FuncData} (F : Fun K "_law_line" "_law_line" sLine f fd) : FnOk P w K mg base CX0 1 f fd ["_law_parents", "_law_vertex"] (spLine K) := by
  refine F.ok scLine (fun vs H Q E h => ?_) (fun cdv A outer s H vs Q E hr h => ?_)
  · obtain ⟨p, fs, v, rfl, _⟩ := h
    rfl
  · obtain ⟨p, fs, v, rfl, hp, hF, hv, q⟩ := h
    refine ⟨_, pss_cons (ps_set (i := 2) scLine.nd rfl (.inl rfl) (pe_lst (pa_cons (pv 1) pa_nil)))
      (pss_cons (ps_while PassesOwn.never (pt_cmpR op_ne (pe_ix ix_q (pv 0) (pe_ix ix_list (pv 2) (pe_un un_neg pe_int) (fun _ _ => rfl)) (fun _ _ => rfl)) (pe_ix ix_list (pv 2) (pe_un un_neg pe_int) (fun _ _ => rfl)) (nomark _))
        (pss_one (ps_expr (pe_bm PySem.F.plainAttrs_list PySem.F.slot_list_append PySem.F.type_list_append mt_append (pv 2) (pa_cons (pe_ix ix_q (pv 0) (pe_ix ix_list (pv 2) (pe_un un_neg pe_int) (fun _ _ => rfl)) (fun _ _ => rfl)) pa_nil)))))
      (pss_one (ps_ret (pv 2)))), ?_⟩
    refine ⟨.int (v : Nat), rfl, (by show 1 ≤ sizeLine; decide), fun qa nq => ?_⟩
    obtain ⟨k, rk⟩ := hF.rch v hv
    obtain ⟨full, pf, nd, lf, _, _, _⟩ := hF.path hv
    refine ⟨fun m σ H1 => ∃ (pre : List Nat) (cur : Nat), σ = [some (.ref p), some (.int (v : Nat)), some (.ref qa)] ∧ Same H H1 ∧ H1 qa = some (.lst (nv (pre ++ [cur]))) ∧ cur < fs.length ∧ Rch fs m cur ∧ ∀ l, Pth fs cur l → Pth fs v (pre ++ l),
      ⟨k, [], v, rfl, same_new nq, upd_same, hv, rk, fun l h => h⟩, ?_⟩
    rintro m σ H1 ⟨pre, cur, rfl, sm, hqa, hc, rc, ext⟩
    have hpp := hp.same sm
    have short : pre.length + 1 + m ≤ 24 := by
      obtain ⟨l, pl, el⟩ := Pth.of rc
      have e := (ext l pl).inj pf
      have := congrArg List.length e
      rw [List.length_append, el] at this
      have := hF.few
      omega
    refine ⟨.ref p, rfl, .ref qa, rfl, 1, rfl, qa, _, -1, _, rfl, rfl, SqL.of hqa, nv_last pre cur, p, _, (cur : Int), .int ((par fs cur : Nat) : Int), rfl, rfl, hpp, atI_nat (nv_get hc), .ref qa, rfl, 1, rfl, qa, _, -1, _, rfl, rfl, SqL.of hqa, nv_last pre cur, rfl, _, rfl, ite2 (fun hn => ?_) (fun hn => ?_)⟩
    · have hn : par fs cur ≠ cur := fun z => by
        rw [decide_eq_true (natV_inj.mpr z)] at hn
        cases hn
      cases rc with
      | root z => exact absurd z hn
      | @step m' _ _ r =>
        refine ⟨fun σ' H' => σ' = [some (.ref p), some (.int (v : Nat)), some (.ref qa)] ∧ Same H H' ∧ H' qa = some (.lst (nv ((pre ++ [cur]) ++ [par fs cur]))), ?_, ?_⟩
        · rintro σ' H' ⟨z1, z2, z3⟩
          refine ⟨m', Nat.lt_succ_self _, pre ++ [cur], par fs cur, z1, z2, z3, hF.rng cur hc, r, fun l hl => ?_⟩
          rw [List.append_assoc]
          exact ext _ (.step hn hl)
        · refine ⟨.ref qa, rfl, .inl ⟨rfl, _, SqL.of hqa⟩, .ref p, rfl, .ref qa, rfl, 1, rfl, qa, _, -1, _, rfl, rfl, SqL.of hqa, nv_last pre cur, p, _, (cur : Int), .int ((par fs cur : Nat) : Int), rfl, rfl, hpp, atI_nat (nv_get hc), qa, _, _, rfl, rfl, hqa, ?_, rfl, fun b o z => ?_, ?_⟩
          · rw [nv_length, List.length_append]
            exact small1000 (by show pre.length + 1 ≤ 1000; omega)
          · rw [upd_ne (ne_of_none z nq)]
            exact sm _ _ z
          · rw [upd_same, nv_append (pre ++ [cur])]
            rfl
    · have hn : par fs cur = cur := Classical.byContradiction fun z => hn (by rw [decide_eq_false (fun y => z (natV_inj.mp y))]; rfl)
      have pt := ext _ (.root hn)
      exact ⟨.ref qa, rfl, q _ qa H1 sm pt (by rw [pt.inj pf]; exact lf) nq hqa⟩
theorem in_nv {x : Nat} : ∀ l : List Nat, inV (.int (x : Nat)) (nv l) = decide (x ∈ l)
  | [] => rfl
  | y :: l => by
    show (eqV (.int (y : Nat)) (.int (x : Nat)) || inV (.int (x : Nat)) (nv l)) = _
    rw [in_nv l]
    have e : eqV (.int (y : Nat)) (.int (x : Nat)) = decide (x = y) := by
      show (((y : Nat) : Int) == ((x : Nat) : Int)) = _
      by_cases h : x = y
      · rw [h, decide_eq_true rfl, beq_self_eq_true]
      · rw [decide_eq_false h]
        exact beq_eq_false_iff_ne.mpr (by omega)
    rw [e]
    by_cases h : x = y <;> simp [h]
theorem flat_nv : ∀ l : List Nat, (nv l).all flatV = true
  | [] => rfl
  | _ :: l => flat_nv l
theorem cut_from {os : List Nat} {i : Nat} (h : i ≤ os.length) : cutV (nv os) (some (i : Int)) none = nv (os.drop i) := by
  unfold cutV
  rw [HT.sIx_none, HT.sIx_nat, nv_length, Nat.min_eq_left h]
  unfold nv
  rw [← List.map_drop, List.take_of_length_le]
  rw [List.length_map, List.length_drop]
  exact Nat.le_refl _
theorem set_cut {fs : List Nat} {v x : Nat} (h : v < fs.length) : fs.set v x = fs.take v ++ [x] ++ fs.drop (v + 1) := by
  rw [List.set_eq_take_append_cons_drop, if_pos h, List.append_assoc]
  rfl
abbrev NF : List Str := ["_law_well_here", "_law_most", "_law_way", "_law_parents", "_law_vertex", "_law_other"]
theorem scForest : FnScope NF ["_law_well_here", "_law_most"] (defScope sForest) := ⟨rfl, rfl, rfl, by decide +kernel, rfl, by decide +kernel, by decide +kernel⟩
theorem ok_forest {f fP fG fW fL : Addr} {fd fdP fdG fdW fdL : FuncData} (F : Fun K "_law_forest" "_law_forest" sForest f fd)
    (FP : Fun K "_law_pull" "_law_pull" sPull fP fdP) (bP : Binds K fdP ["_law_well_here", "_law_many"] []) (gP : mg "_law_pull" = some (.ref fP))
    (FG : Fun K "_law_grown" "_law_grown" sGrown fG fdG) (bG : Binds K fdG ["_law_well_here", "_law_most"] []) (gG : mg "_law_grown" = some (.ref fG)) (GG : FnOk P w K mg base CX0 3 fG fdG ["_law_well_here", "_law_most"] spGrown)
    (FW : Fun K "_law_wild" "_law_wild" sWild fW fdW) (bW : Binds K fdW ["_law_well_here", "_law_most"] []) (gW : mg "_law_wild" = some (.ref fW)) (GW : FnOk P w K mg base CX0 3 fW fdW ["_law_well_here", "_law_most"] spGrown)
    (FL : Fun K "_law_line" "_law_line" sLine fL fdL) (bL : Binds K fdL ["_law_parents", "_law_vertex"] []) (gL : mg "_law_line" = some (.ref fL))
    (ml : mg "len" = none) : FnOk P w K mg base CX0 4 f fd ["_law_well_here", "_law_most"] spGrown := by
  have GP : FnOk P w K mg base CX0 1 fP fdP ["_law_well_here", "_law_many"] spPull := ok_pull FP
  have GL : FnOk P w K mg base CX0 1 fL fdL ["_law_parents", "_law_vertex"] (spLine K) := ok_line FL
  refine F.ok scForest (fun vs H Q E h => ?_) (fun cdv A outer s H vs Q E hr h => ?_)
  · obtain ⟨w, l, m, rfl, _⟩ := h
    rfl
  · obtain ⟨w, l, most, rfl, hW, m0, m1, q⟩ := h
    have hr1 : Room 1 _ := hr.mono (by decide)
    refine ⟨_, pss_cons (ps_set (i := 2) scForest.nd rfl (.inl rfl) (pe_call GP hr1 (by rfl) gP FP.kp bP .nil pass0 (pa_cons (pv 0) (pa_cons pe_int pa_nil))))
      (pss_cons (ps_if (pt_cmpR op_eq (pv 2) pe_int (nomark _)) (pss_one (ps_ret (pe_call GW hr (by rfl) gW FW.kp bW .nil pass0 (pa_cons (pv 0) (pa_cons (pv 1) pa_nil))))) pss_nil)
      (pss_cons (ps_set (i := 3) scForest.nd rfl (.inl rfl) (pe_call GG hr (by rfl) gG FG.kp bG .nil pass0 (pa_cons (pv 0) (pa_cons (pv 1) pa_nil))))
      (pss_cons (ps_if (pt_cmpR op_eq (pv 2) pe_int (nomark _))
          (pss_cons (ps_par (i := 4) (j := 5) (by rfl) scForest.nd rfl rfl (by decide) rfl rfl (pa_cons (pe_call GP hr1 (by rfl) gP FP.kp bP .nil pass0 (pa_cons (pv 0) (pa_cons (pe_callB call_len_seq (by rfl) ml PySem.boot_len (pa_cons (pv 3) pa_nil)) pa_nil)))
              (pa_cons (pe_call GP hr1 (by rfl) gP FP.kp bP .nil pass0 (pa_cons (pv 0) (pa_cons (pe_callB call_len_seq (by rfl) ml PySem.boot_len (pa_cons (pv 3) pa_nil)) pa_nil))) pa_nil)) (by rfl))
          (pss_one (ps_if (pt_cmpR op_notIn_seq (pv 4) (pe_call GL hr1 (by rfl) gL FL.kp bL .nil pass0 (pa_cons (pv 3) (pa_cons (pv 5) pa_nil))) (by rfl))
            (pss_one (ps_set (i := 3) scForest.nd rfl (.inl rfl) (pe_op op_catA (pe_op op_catA (pe_slice sl_tupA (pv 3) po_none (po_some (pv 4))) (pe_tup (pa_cons (pv 5) pa_nil))) (pe_slice sl_tupA (pv 3) (po_some (pe_op op_add (pv 4) pe_int)) po_none)))) pss_nil))) pss_nil)
      (pss_one (ps_ret (pv 3)))))), ?_⟩
    refine ⟨.ref w, rfl, w, l, 4, rfl, hW, by decide, by decide, fun wy H1 y0 y1 hW1 kp1 => ?_⟩
    refine ⟨.int wy, rfl, rfl, _, rfl, ite2 (fun h0 => ?_) (fun h0 => ?_)⟩
    · refine ⟨.ref w, rfl, .int most, rfl, w, l, most, rfl, hW1, m0, m1, fun fs qa H2 hF hle hW2 kp2 nq hq => ?_⟩
      exact q fs qa H2 hF hle hW2 (kp1.trans kp2) (keep_free kp1 hW1 nq) hq
    · refine ⟨.ref w, rfl, .int most, rfl, w, l, most, rfl, hW1, m0, m1, fun fs qa H2 hF hle hW2 kp2 nq hq => ?_⟩
      have K2 := kp1.trans kp2
      have nqH : H qa = none := keep_free kp1 hW1 nq
      obtain ⟨_, _, _, hw1, hl1, _⟩ := id hW1
      have qw : qa ≠ w := (ne_of_none hw1 nq).symm
      have ql : qa ≠ l := (ne_of_none hl1 nq).symm
      have pos := hF.pos
      have few := hF.few
      refine ⟨.int wy, rfl, rfl, _, rfl, ite2 (fun h1 => ?_) (fun h1 => ?_)⟩
      · refine ⟨.ref w, rfl, .ref qa, rfl, qa, _, rfl, .inr (SqT.of hq), w, l, _, rfl, hW2, ?_, ?_, fun v H3 v0 v1 hW3 kp3 => ?_⟩
        · rw [nv_length]
          omega
        · rw [nv_length]
          omega
        have hq3 := kp3 _ _ qw ql hq
        refine ⟨.ref w, rfl, .ref qa, rfl, qa, _, rfl, .inr (SqT.of hq3), w, l, _, rfl, hW3, ?_, ?_, fun u H4 u0 u1 hW4 kp4 => ⟨_, _, rfl, ?_⟩⟩
        · rw [nv_length]
          omega
        · rw [nv_length]
          omega
        have hq4 := kp4 _ _ qw ql hq3
        rw [nv_length] at v1 u1
        obtain ⟨vn, ev⟩ : ∃ n : Nat, v = (n : Int) := ⟨v.toNat, by omega⟩
        obtain ⟨un, eu⟩ : ∃ n : Nat, u = (n : Int) := ⟨u.toNat, by omega⟩
        subst ev eu
        have vl : vn < fs.length := by omega
        have ul : un < fs.length := by omega
        have K4 := K2.trans (kp3.trans kp4)
        refine ⟨.int (vn : Nat), rfl, .ref qa, rfl, .int (un : Nat), rfl, qa, fs, un, rfl, .inr (SqT.of hq4), hF, ul, fun ln ql' H5 s5 pl _ nl hl => ?_⟩
        refine ⟨ql', _, rfl, .inl (SqL.of hl), rfl, flat_nv ln, _, rfl, ?_⟩
        have hq5 := s5 _ _ hq4
        have K5 := K4.trans (Keep.of s5)
        have hW5 := hW4.same s5
        show if (!inV (.int (vn : Nat)) (nv ln)) = true then _ else _
        rw [in_nv]
        refine ite2 (fun hi => ?_) (fun hi => ?_)
        · have nb : ¬ Bel fs vn un := fun b => by
            rw [decide_eq_true ((pl.bel vn).mpr b)] at hi
            cases hi
          have hF2 := hF.moved vl ul nb
          have lt : (nv fs).length = fs.length := nv_length fs
          -- the parts
          refine ⟨.ref qa, rfl, .int (vn : Nat), rfl, _, rfl, qa, _, rfl, SqT.of hq5, ?_, fun _ p1 n1 => ?_⟩
          · rintro ⟨_, z⟩
            rw [HT.sIx_nat, nv_length] at z
            omega
          rw [cut_upto (Nat.le_of_lt vl)]
          have S1 := same_new (o := .tup (nv (fs.take vn))) n1
          refine ⟨.int (un : Nat), rfl, (by show 1 ≤ sizeLine; decide), fun p2 n2 => ?_⟩
          have S2 := same_new (o := .tup [V.int (un : Nat)]) n2
          have len1 : (nv (fs.take vn)).length + [V.int (un : Nat)].length ≤ sizeLine := by
            rw [nv_length, List.length_take]
            exact Nat.le_of_lt (small1000 (by show min vn fs.length + 1 ≤ 1000; omega))
          refine ⟨p1, p2, _, _, rfl, rfl, SqT.of (S2 _ _ upd_same), SqT.of upd_same, len1, fun z => ?_, (fun _ z => nomatch z), fun _ _ p3 n3 => ?_⟩
          · have e0 : fs.take vn = [] := List.map_eq_nil_iff.mp z
            have nm : H p2 = none := keep_free (K5.trans (Keep.of S1)) (hW5.same S1) n2
            have SG := S1.trans S2
            have hm : (upd (upd (H5) p1 (.tup (nv (fs.take vn)))) p2 (.tup [V.int (un : Nat)])) p2 = some (.tup (nv (fs.take vn ++ [un]))) := by
              rw [upd_same, e0]
              rfl
            generalize hG : upd (upd H5 p1 (.tup (nv (fs.take vn)))) p2 (.tup [V.int (un : Nat)]) = G at *
            generalize hmm : p2 = m at *
            have hqG := SG _ _ hq5
            refine ⟨.ref qa, rfl, .int (vn : Nat), rfl, _, _, rfl, rfl, _, rfl, qa, _, rfl, SqT.of hqG, ?_, fun _ p5 n5 => ?_⟩
            · rintro ⟨z, _⟩
              have z2 : HT.sIx (nv fs).length 0 (some (((vn + 1 : Nat) : Int))) = 0 := z
              rw [HT.sIx_nat, nv_length] at z2
              omega
            have ec : cutV (nv fs) (some ((vn : Int) + 1)) none = nv (fs.drop (vn + 1)) := cut_from (i := vn + 1) vl
            have S5 := same_new (o := .tup (nv (fs.drop (vn + 1)))) n5
            rw [ec]
            have len2 : (nv (fs.take vn ++ [un])).length + (nv (fs.drop (vn + 1))).length ≤ sizeLine := by
              rw [nv_length, nv_length, List.length_append, List.length_take, List.length_drop]
              exact Nat.le_of_lt (small1000 (by show min vn fs.length + 1 + (fs.length - (vn + 1)) ≤ 1000; omega))
            refine ⟨m, p5, _, _, rfl, rfl, SqT.of (S5 _ _ hm), SqT.of upd_same, len2, fun z => ?_, fun _ z => ?_, fun _ _ p6 n6 => ?_⟩
            · have := congrArg List.length z
              rw [nv_length, List.length_append] at this
              have : (fs.take vn).length + 1 = 0 := this
              omega
            · have e0 : fs.drop (vn + 1) = [] := List.map_eq_nil_iff.mp z
              have eF : fs.set vn un = fs.take vn ++ [un] := by rw [set_cut vl, e0, List.append_nil]
              refine ⟨.ref m, rfl, q (fs.set vn un) m _ hF2 (by rw [List.length_set]; exact hle) ((hW5.same SG).same S5) (K5.trans ((Keep.of SG).trans (Keep.of S5))) nm ?_⟩
              rw [eF]
              exact S5 _ _ hm
            · have S6 := same_new (o := .tup (nv (fs.take vn ++ [un]) ++ nv (fs.drop (vn + 1)))) n6
              refine ⟨.ref p6, rfl, q (fs.set vn un) p6 _ hF2 (by rw [List.length_set]; exact hle) (((hW5.same SG).same S5).same S6) (K5.trans ((Keep.of SG).trans ((Keep.of S5).trans (Keep.of S6)))) (keep_free (K5.trans ((Keep.of SG).trans (Keep.of S5))) ((hW5.same SG).same S5) n6) ?_⟩
              rw [upd_same, set_cut vl, nv_append (fs.take vn ++ [un])]
          · have S3 := same_new (o := .tup (nv (fs.take vn) ++ [V.int (un : Nat)])) n3
            have nm : H p3 = none := keep_free (K5.trans (Keep.of (S1.trans S2))) (hW5.same (S1.trans S2)) n3
            have SG := (S1.trans S2).trans S3
            have hm : (upd (upd (upd H5 p1 (.tup (nv (fs.take vn)))) p2 (.tup [V.int (un : Nat)])) p3 (.tup (nv (fs.take vn) ++ [V.int (un : Nat)]))) p3 = some (.tup (nv (fs.take vn ++ [un]))) := by
              rw [upd_same, nv_append]
              rfl
            generalize hG : upd (upd (upd H5 p1 (.tup (nv (fs.take vn)))) p2 (.tup [V.int (un : Nat)])) p3 (.tup (nv (fs.take vn) ++ [V.int (un : Nat)])) = G at *
            generalize hmm : p3 = m at *
            have hqG := SG _ _ hq5
            refine ⟨.ref qa, rfl, .int (vn : Nat), rfl, _, _, rfl, rfl, _, rfl, qa, _, rfl, SqT.of hqG, ?_, fun _ p5 n5 => ?_⟩
            · rintro ⟨z, _⟩
              have z2 : HT.sIx (nv fs).length 0 (some (((vn + 1 : Nat) : Int))) = 0 := z
              rw [HT.sIx_nat, nv_length] at z2
              omega
            have ec : cutV (nv fs) (some ((vn : Int) + 1)) none = nv (fs.drop (vn + 1)) := cut_from (i := vn + 1) vl
            have S5 := same_new (o := .tup (nv (fs.drop (vn + 1)))) n5
            rw [ec]
            have len2 : (nv (fs.take vn ++ [un])).length + (nv (fs.drop (vn + 1))).length ≤ sizeLine := by
              rw [nv_length, nv_length, List.length_append, List.length_take, List.length_drop]
              exact Nat.le_of_lt (small1000 (by show min vn fs.length + 1 + (fs.length - (vn + 1)) ≤ 1000; omega))
            refine ⟨m, p5, _, _, rfl, rfl, SqT.of (S5 _ _ hm), SqT.of upd_same, len2, fun z => ?_, fun _ z => ?_, fun _ _ p6 n6 => ?_⟩
            · have := congrArg List.length z
              rw [nv_length, List.length_append] at this
              have : (fs.take vn).length + 1 = 0 := this
              omega
            · have e0 : fs.drop (vn + 1) = [] := List.map_eq_nil_iff.mp z
              have eF : fs.set vn un = fs.take vn ++ [un] := by rw [set_cut vl, e0, List.append_nil]
              refine ⟨.ref m, rfl, q (fs.set vn un) m _ hF2 (by rw [List.length_set]; exact hle) ((hW5.same SG).same S5) (K5.trans ((Keep.of SG).trans (Keep.of S5))) nm ?_⟩
              rw [eF]
              exact S5 _ _ hm
            · have S6 := same_new (o := .tup (nv (fs.take vn ++ [un]) ++ nv (fs.drop (vn + 1)))) n6
              refine ⟨.ref p6, rfl, q (fs.set vn un) p6 _ hF2 (by rw [List.length_set]; exact hle) (((hW5.same SG).same S5).same S6) (K5.trans ((Keep.of SG).trans ((Keep.of S5).trans (Keep.of S6)))) (keep_free (K5.trans ((Keep.of SG).trans (Keep.of S5))) ((hW5.same SG).same S5) n6) ?_⟩
              rw [upd_same, set_cut vl, nv_append (fs.take vn ++ [un])]
        · exact ⟨.ref qa, rfl, q fs qa _ hF hle hW5 K5 nqH hq5⟩
      · exact ⟨.ref qa, rfl, q fs qa _ hF hle hW2 K2 nqH hq⟩
end
end Lf
namespace Lf
open PySem PySem.Spec PyProof.Rows L2
/-! ### forests.py, with its error -/
abbrev sPI : Stmt := topS (8)
abbrev sIV : Stmt := topS (9)
abbrev sCheck : Stmt := topS (10)
abbrev sRoots : Stmt := topS (11)
abbrev sKidsOf : Stmt := topS (12)
abbrev sWeights : Stmt := topS (13)
abbrev sPath : Stmt := topS (14)
theorem isV_int {n : Nat} {d : PyData} (h : isV n d = true) : ∃ x : Nat, d = .int (x : Nat) ∧ x < n := by
  cases d with
  | int i =>
    obtain ⟨h1, h2⟩ := Bool.and_eq_true_iff.mp h
    have h1 := of_decide_eq_true h1
    have h2 := of_decide_eq_true h2
    exact ⟨i.toNat, by rw [Int.toNat_of_nonneg h1], by omega⟩
  | _ => cases h
def spPI : Sp := fun vs H Q _ => ∃ (v : V) (d : PyData), vs = [v] ∧ Rp H v d ∧ Q (.bl (isInt d)) H
def spIV : Sp := fun vs H Q _ => ∃ (n : Nat) (v : V) (d : PyData), vs = [.int (n : Nat), v] ∧ Rp H v d ∧ Q (.bl (isV n d)) H
def spRoots (K : PySem.W.Frag) : Sp := fun vs H Q _ => ∃ (p : Addr) (fs : List Nat), vs = [.ref p] ∧ SqT K H p (nv fs) ∧ fs.length ≤ 1000 ∧
  ∀ (q : Addr) (H' : Hp), Same H H' → H q = none → H' q = some (.tup (nv (tops fs))) → Q (.ref q) H'
/-- the error with the value leaves -/
def Out (C : Addr) (H : Hp) (v : V) (E : XK) : Prop := ∀ (dx : Addr) (H' : Hp), Same H H' → H dx = none → H' dx = some (.xd [(Str.ofString "value", v)]) → E (.ref C) (some dx) H'
theorem Out.same {C : Addr} {H H' : Hp} {v : V} {E : XK} (h : Out C H v E) (s : Same H H') : Out C H' v E := fun dx G sG n e => h dx G (s.trans sG) (s.free n) e
def spCheck (K : PySem.W.Frag) (C : Addr) : Sp := fun vs H Q E => ∃ (p : Addr) (fs : List Nat) (v : V) (d : PyData), vs = [.ref p, v] ∧ SqT K H p (nv fs) ∧ Rp H v d ∧ (isV fs.length d = true → Q .non H) ∧ (isV fs.length d = false → Out C H v E)
def spPathX (K : PySem.W.Frag) (C : Addr) : Sp := fun vs H Q E => ∃ (p : Addr) (fs : List Nat) (v : V) (d : PyData), vs = [.ref p, v] ∧ SqT K H p (nv fs) ∧ Forest fs ∧ Rp H v d ∧
  (∀ x : Nat, d = .int (x : Nat) → x < fs.length → ∀ (ln : List Nat) (q : Addr) (H' : Hp), Same H H' → Pth fs x ln → ln.length ≤ fs.length → H q = none → H' q = some (.tup (nv ln)) → Q (.ref q) H') ∧ (isV fs.length d = false → Out C H v E)
def kidsL (fs : List Nat) (x : Nat) : List Nat := (List.range fs.length).filter fun u => decide (par fs u = x) && decide (u ≠ x)
def spKidsX (K : PySem.W.Frag) (C : Addr) : Sp := fun vs H Q E => ∃ (p : Addr) (fs : List Nat) (v : V) (d : PyData), vs = [.ref p, v] ∧ SqT K H p (nv fs) ∧ Forest fs ∧ Rp H v d ∧
  (∀ x : Nat, d = .int (x : Nat) → x < fs.length → ∀ (q : Addr) (H' : Hp), Same H H' → H q = none → H' q = some (.tup (nv (kidsL fs x))) → Q (.ref q) H') ∧ (isV fs.length d = false → Out C H v E)
open Classical in
noncomputable def belowL (fs : List Nat) (x : Nat) : List Nat := (List.range fs.length).filter fun u => decide (Bel fs x u)
def spTreeX (K : PySem.W.Frag) (C : Addr) : Sp := fun vs H Q E => ∃ (p : Addr) (fs : List Nat) (v : V) (d : PyData), vs = [.ref p, v] ∧ SqT K H p (nv fs) ∧ Forest fs ∧ Rp H v d ∧
  (∀ x : Nat, d = .int (x : Nat) → x < fs.length → ∀ (q : Addr) (H' : Hp), Same H H' → H q = none → H' q = some (.tup (nv (belowL fs x))) → Q (.ref q) H') ∧ (isV fs.length d = false → Out C H v E)
def spSingle : Sp := fun vs H Q _ => ∃ n : Nat, vs = [.int (n : Nat)] ∧ n ≤ 1000 ∧ ∀ q, H q = none → Q (.ref q) (upd H q (.tup (nv (List.range n))))
theorem isV_nat {n x : Nat} (h : x < n) : isV n (.int (x : Nat)) = true := show (decide (0 ≤ ((x : Nat) : Int)) && decide (((x : Nat) : Int) < (n : Int))) = true from Bool.and_eq_true_iff.mpr ⟨decide_eq_true (by omega), decide_eq_true (by omega)⟩
section
variable {P : Program} {w : World} {K : PySem.W.Frag} {mg : Str → Option Value} {base : Heap}
theorem scPI : FnScope ["value"] ["value"] (defScope sPI) := ⟨rfl, rfl, rfl, by decide +kernel, rfl, by decide +kernel, by decide +kernel⟩
theorem ok_pi {f : Addr} {fd : FuncData} (F : Fun K "is_plain_int" "is_plain_int" sPI f fd) (mi : mg "isinstance" = none) (mt : mg "int" = none) (mb : mg "bool" = none) : FnOk P w K mg base CX0 1 f fd ["value"] spPI := by
  refine F.ok scPI (fun vs H Q E h => ?_) (fun cdv A outer s H vs Q E hr h => ?_)
  · obtain ⟨v, d, rfl, _⟩ := h
    rfl
  · obtain ⟨v, d, rfl, hd, q⟩ := h
    refine ⟨_, pss_one (ps_ret (pe_and (pe_callB call_isi (by rfl) mi (by decide +kernel) (pa_cons (pv 0) (pa_cons (pe_bltn (v := .ty "int") rfl mt (by decide +kernel) rfl) pa_nil)))
      (pe_one (pe_not (pe_callB call_isi (by rfl) mi (by decide +kernel) (pa_cons (pv 0) (pa_cons (pe_bltn (v := .ty "bool") rfl mb (by decide +kernel) rfl) pa_nil))))))), ?_⟩
    refine ⟨v, rfl, v, .ty "int", _, .type "int", _, rfl, .ty _, hd.ty, kInt d, _, rfl, ?_⟩
    have two : ∃ b, PySem.W.kitOne K (.type (tyD d)) (.type "bool") = some b := ⟨_, kBool d⟩
    cases d with
    | int i => exact iteT ⟨v, rfl, v, .ty "bool", _, .type "bool", _, rfl, .ty _, hd.ty, kBool _, _, rfl, q⟩
    | bool b => exact iteT ⟨v, rfl, v, .ty "bool", _, .type "bool", _, rfl, .ty _, hd.ty, kBool _, _, rfl, q⟩
    | _ => exact iteF q
theorem scIV : FnScope ["n", "value"] ["n", "value"] (defScope sIV) := ⟨rfl, rfl, rfl, by decide +kernel, rfl, by decide +kernel, by decide +kernel⟩
theorem ok_iv {f fP : Addr} {fd fdP : FuncData} (F : Fun K "is_vertex" "is_vertex" sIV f fd) (FP : Fun K "is_plain_int" "is_plain_int" sPI fP fdP) (GP : FnOk P w K mg base CX0 1 fP fdP ["value"] spPI) (bP : Binds K fdP ["value"] []) (gP : mg "is_plain_int" = some (.ref fP)) :
    FnOk P w K mg base CX0 2 f fd ["n", "value"] spIV := by
  refine F.ok scIV (fun vs H Q E h => ?_) (fun cdv A outer s H vs Q E hr h => ?_)
  · obtain ⟨n, v, d, rfl, _⟩ := h
    rfl
  · obtain ⟨n, v, d, rfl, hd, q⟩ := h
    refine ⟨_, pss_one (ps_ret (pe_and (pe_call GP hr (by rfl) gP FP.kp bP .nil pass0 (pa_cons (pv 1) pa_nil)) (pe_one (pe_chain op_le op_lt pe_int (pv 1) (pv 0))))), ?_⟩
    refine ⟨v, rfl, v, d, rfl, hd, _, rfl, ?_⟩
    cases hd with
    | int i =>
      refine iteT ⟨.int i, rfl, _, _, rfl, rfl, _, rfl, ?_⟩
      by_cases h0 : 0 ≤ i
      · rw [decide_eq_true h0]
        refine iteT ⟨.int (n : Nat), rfl, _, _, rfl, rfl, ?_⟩
        have e : isV n (.int i) = decide (i < (n : Int)) := by
          show (decide (0 ≤ i) && decide (i < (n : Int))) = _
          rw [decide_eq_true h0, Bool.true_and]
        rw [e] at q
        exact q
      · rw [decide_eq_false h0]
        have e : isV n (.int i) = false := by
          show (decide (0 ≤ i) && decide (i < (n : Int))) = _
          rw [decide_eq_false h0, Bool.false_and]
        rw [e] at q
        exact iteF q
    | _ => exact iteF q
/-- the class of the error, and its __init__ -/
structure Err (P : Program) (w : World) (K : PySem.W.Frag) (mg : Str → Option Value) (base : Heap) (C fI : Addr) (fdI : FuncData) : Prop where
  T : OexC K C
  iC : PySem.W.findIn K (.ref C) "__init__" = some (some (.ref fI))
  tI : PySem.W.typeIn K (.ref fI) = some (.type "function")
  G : FnOk P w K mg base CX0 1 fI fdI ["self", "value"] (spInit K C "value")
  b : Binds K fdI ["self", "value"] []
  g : mg "NoVertex" = some (.ref C)
theorem scCheck : FnScope ["forest", "value"] ["forest", "value"] (defScope sCheck) := ⟨rfl, rfl, rfl, by decide +kernel, rfl, by decide +kernel, by decide +kernel⟩
theorem ok_check {f fV C fI : Addr} {fd fdV fdI : FuncData} (F : Fun K "check_vertex" "check_vertex" sCheck f fd) (FV : Fun K "is_vertex" "is_vertex" sIV fV fdV) (GV : FnOk P w K mg base CX0 2 fV fdV ["n", "value"] spIV) (bV : Binds K fdV ["n", "value"] []) (gV : mg "is_vertex" = some (.ref fV)) (R : Err P w K mg base C fI fdI) (ml : mg "len" = none) :
    FnOk P w K mg base (L2.CX P w) 3 f fd ["forest", "value"] (spCheck K C) := by
  refine F.okX scCheck (fun vs H Q E h => ?_) (fun cdv A outer s H vs Q E hr h => ?_)
  · obtain ⟨p, fs, v, d, rfl, _⟩ := h
    rfl
  · obtain ⟨p, fs, v, d, rfl, hp, rp, qT, qF⟩ := h
    refine ⟨_, pss_one (ps_if (pt_not (pt_val (pe_call GV hr (by rfl) gV FV.kp bV .nil pass0 (pa_cons (pe_callB call_len_seq (by rfl) ml PySem.boot_len (pa_cons (pv 0) pa_nil)) (pa_cons (pv 1) pa_nil)))))
      (pss_one (ps_raise rfl (takes_of rfl rfl rfl rfl) (pmk_oex R.T R.iC R.tI R.G hr R.b .nil pass0 (by rfl) R.g (pa_cons (pv 1) pa_nil)))) pss_nil), ?_⟩
    refine ⟨.ref p, rfl, p, _, rfl, .inr hp, v, rfl, (nv fs).length, v, d, rfl, rp, _, rfl, ?_⟩
    rw [nv_length]
    cases z : isV fs.length d with
    | true => exact iteF (qT z)
    | false => exact iteT ⟨v, rfl, (by show 1 ≤ 1000; decide), fun a na => ⟨a, v, rfl, upd_same, fun dx nd ne => ⟨rfl, made_out (Same.refl H) (qF z) a na dx nd ne⟩⟩⟩
theorem scPath : FnScope ["forest", "vertex", "path"] ["forest", "vertex"] (defScope sPath) := ⟨rfl, rfl, rfl, by decide +kernel, rfl, by decide +kernel, by decide +kernel⟩
theorem ok_path {f fC C : Addr} {fd fdC : FuncData} (F : Fun K "path_of" "path_of" sPath f fd) (FC : Fun K "check_vertex" "check_vertex" sCheck fC fdC) (GC : FnOk P w K mg base (L2.CX P w) 3 fC fdC ["forest", "value"] (spCheck K C)) (bC : Binds K fdC ["forest", "value"] []) (gC : mg "check_vertex" = some (.ref fC)) (mT : mg "tuple" = none) :
    FnOk P w K mg base (L2.CX P w) 4 f fd ["forest", "vertex"] (spPathX K C) := by
  refine F.okX scPath (fun vs H Q E h => ?_) (fun cdv A outer s H vs Q E hr h => ?_)
  · obtain ⟨p, fs, v, d, rfl, _⟩ := h
    rfl
  · obtain ⟨p, fs, v0, d, rfl, hp, hF, rp, q0, qF⟩ := h
    refine ⟨_, pss_cons (ps_expr (pe_callS GC hr (by rfl) gC FC.kp bC (fun σ => passAt (takes_of rfl rfl rfl rfl) σ) (pa_cons (pv 0) (pa_cons (pv 1) pa_nil))))
      (PSs.nox (pss_cons (ps_set (i := 2) scPath.nd rfl (.inl rfl) (pe_lst (pa_cons (pv 1) pa_nil)))
      (pss_cons (ps_while PassesOwn.never (pt_cmpR op_ne (pe_ix ix_tup (pv 0) (pe_ix ix_list (pv 2) (pe_un un_neg pe_int) (fun _ _ => rfl)) (fun _ _ => rfl)) (pe_ix ix_list (pv 2) (pe_un un_neg pe_int) (fun _ _ => rfl)) (nomark _))
        (pss_one (ps_expr (pe_bm PySem.F.plainAttrs_list PySem.F.slot_list_append PySem.F.type_list_append mt_append (pv 2) (pa_cons (pe_ix ix_tup (pv 0) (pe_ix ix_list (pv 2) (pe_un un_neg pe_int) (fun _ _ => rfl)) (fun _ _ => rfl)) pa_nil)))))
      (pss_one (ps_ret (pe_callTy call_tuple_of (by rfl) mT (by decide +kernel) (pa_cons (pv 2) pa_nil))))))), ?_⟩
    refine ⟨.ref p, rfl, v0, rfl, p, fs, v0, d, rfl, hp, rp, fun z => ?_, qF⟩
    obtain ⟨v, rfl, hv⟩ := isV_int z
    cases rp
    have q := q0 v rfl hv
    refine ⟨.int (v : Nat), rfl, (by show 1 ≤ sizeLine; decide), fun qa nq => ?_⟩
    obtain ⟨k, rk⟩ := hF.rch v hv
    obtain ⟨full, pf, nd, lf, _, _, _⟩ := hF.path hv
    refine ⟨fun m σ H1 => ∃ (pre : List Nat) (cur : Nat), σ = [some (.ref p), some (.int (v : Nat)), some (.ref qa)] ∧ Same H H1 ∧ H1 qa = some (.lst (nv (pre ++ [cur]))) ∧ cur < fs.length ∧ Rch fs m cur ∧ ∀ l, Pth fs cur l → Pth fs v (pre ++ l),
      ⟨k, [], v, rfl, same_new nq, upd_same, hv, rk, fun l h => h⟩, ?_⟩
    rintro m σ H1 ⟨pre, cur, rfl, sm, hqa, hc, rc, ext⟩
    have hpp := same_seqT sm hp
    have short : pre.length + 1 + m ≤ 24 := by
      obtain ⟨l, pl, el⟩ := Pth.of rc
      have e := (ext l pl).inj pf
      have := congrArg List.length e
      rw [List.length_append, el] at this
      have := hF.few
      omega
    refine ⟨.ref p, rfl, .ref qa, rfl, 1, rfl, qa, _, -1, _, rfl, rfl, SqL.of hqa, nv_last pre cur, p, _, (cur : Int), .int ((par fs cur : Nat) : Int), rfl, rfl, hpp, atI_nat (nv_get hc), .ref qa, rfl, 1, rfl, qa, _, -1, _, rfl, rfl, SqL.of hqa, nv_last pre cur, rfl, _, rfl, ite2 (fun hn => ?_) (fun hn => ?_)⟩
    · have hn : par fs cur ≠ cur := fun z => by
        rw [decide_eq_true (natV_inj.mpr z)] at hn
        cases hn
      cases rc with
      | root z => exact absurd z hn
      | @step m' _ _ r =>
        refine ⟨fun σ' H' => σ' = [some (.ref p), some (.int (v : Nat)), some (.ref qa)] ∧ Same H H' ∧ H' qa = some (.lst (nv ((pre ++ [cur]) ++ [par fs cur]))), ?_, ?_⟩
        · rintro σ' H' ⟨z1, z2, z3⟩
          refine ⟨m', Nat.lt_succ_self _, pre ++ [cur], par fs cur, z1, z2, z3, hF.rng cur hc, r, fun l hl => ?_⟩
          rw [List.append_assoc]
          exact ext _ (.step hn hl)
        · refine ⟨.ref qa, rfl, .inl ⟨rfl, _, SqL.of hqa⟩, .ref p, rfl, .ref qa, rfl, 1, rfl, qa, _, -1, _, rfl, rfl, SqL.of hqa, nv_last pre cur, p, _, (cur : Int), .int ((par fs cur : Nat) : Int), rfl, rfl, hpp, atI_nat (nv_get hc), qa, _, _, rfl, rfl, hqa, ?_, rfl, fun b o z => ?_, ?_⟩
          · rw [nv_length, List.length_append]
            exact small1000 (by show pre.length + 1 ≤ 1000; omega)
          · rw [upd_ne (ne_of_none z nq)]
            exact sm _ _ z
          · rw [upd_same, nv_append (pre ++ [cur])]
            rfl
    · have hn : par fs cur = cur := Classical.byContradiction fun z => hn (by rw [decide_eq_false (fun y => z (natV_inj.mp y))]; rfl)
      have pt := ext _ (.root hn)
      refine ⟨.ref qa, rfl, qa, _, rfl, .inl ⟨SqL.of hqa, fun p9 n9 => ?_⟩⟩
      exact q _ p9 _ (sm.trans (same_new n9)) pt (by rw [pt.inj pf]; exact lf) (sm.free n9) upd_same
theorem scRoots : FnScope ["forest", "vertex", "parent"] ["forest"] (defScope sRoots) := ⟨rfl, rfl, rfl, by decide +kernel, rfl, by decide +kernel, by decide +kernel⟩
theorem ok_roots {f : Addr} {fd : FuncData} (F : Fun K "roots" "roots" sRoots f fd) (me : mg "enumerate" = none) (mT : mg "tuple" = none) : FnOk P w K mg base CX0 1 f fd ["forest"] (spRoots K) := by
  refine F.ok scRoots (fun vs H Q E h => ?_) (fun cdv A outer s H vs Q E hr h => ?_)
  · obtain ⟨p, fs, rfl, _⟩ := h
    rfl
  · obtain ⟨p, fs, rfl, hp, hlen, q⟩ := h
    refine ⟨_, pss_one (ps_ret (pe_callTy call_tuple_of (by rfl) mT (by decide +kernel) (pa_cons (pe_lc (own := [("vertex", 1), ("parent", 2)]) (g := gTup K 2 (gCons (gName 1) (gCons (gName 2) gNil))) (tt := tTest (tOp rEq (tVar 2) (tVar 1))) (te := tVar 1) (by rfl) scRoots.nd
      (pi_enumT (by rfl) me (pa_cons (pv 0) pa_nil)) (blkOk_by (own := [("vertex", 1), ("parent", 2)]) (N := ["forest", "vertex", "parent"]) (sc := defScope sRoots) (by decide +kernel))
      (fun _ _ _ _ _ => pg_tup rfl (pgs_cons (pg_name (i := 1) scRoots.nd rfl (Or.inl rfl)) (pgs_cons (pg_name (i := 2) scRoots.nd rfl (Or.inl rfl)) pgs_nil))) (fun _ _ _ _ _ => pts_one (pt_cmpR op_eq (pv 2) (pv 1) (nomark _))) (fun _ _ _ _ _ => pv 1)) pa_nil))), ?_⟩
    refine ⟨.ref p, rfl, p, _, rfl, hp, fun D nD => lc_it (walkT (K := K) (a := p) (xs := nv fs)) (fun k H2 => Same H H2 ∧ H2 D = some (.lst (nv ((List.range k).filter fun v => decide (par fs v = v))))) ⟨same_new nD, upd_same⟩ (fun k H2 _ z => same_seqT z.1 hp) ?_ ?_⟩
    · rintro k x H2 H2' hk ⟨sm, hD⟩ ⟨t, v1, v2, rfl, nt, rfl, z1, z2⟩
      obtain ⟨hk', rfl⟩ := nv_some z2
      cases z1
      have St := same_new (o := .tup [V.int (k : Nat), V.int ((fs.getD k 0 : Nat) : Int)]) nt
      refine ⟨t, _, rfl, SqT.of upd_same, rfl, _, _, rfl, _, _, rfl, rfl, rfl, ?_⟩
      refine ⟨.int ((fs.getD k 0 : Nat) : Int), rfl, .int (k : Nat), rfl, rfl, _, rfl, ite2 (fun hc => ?_) (fun hc => ?_)⟩
      · have hc : par fs k = k := natV_inj.mp (of_decide_eq_true hc)
        refine ⟨.int (k : Nat), rfl, _, St _ _ hD, ?_, fun b o z => ?_, ?_⟩
        · rw [nv_length]
          exact small1000 (Nat.le_trans (range_filter_le _ _) (by omega))
        · rw [upd_ne (ne_of_none z nD)]
          exact St _ _ (sm _ _ z)
        · rw [upd_same, range_filter_succ, if_pos (decide_eq_true hc), nv_append]
          rfl
      · refine ⟨sm.trans St, ?_⟩
        rw [St _ _ hD, range_filter_succ, if_neg]
        intro z
        exact hc (decide_eq_true (natV_inj.mpr (of_decide_eq_true z)))
    · rintro H2 ⟨sm, hD⟩
      rw [nv_length] at hD
      refine ⟨D, _, rfl, .inl ⟨SqL.of hD, fun p9 n9 => ?_⟩⟩
      exact q p9 _ (sm.trans (same_new n9)) (sm.free n9) upd_same
theorem scKids : FnScope ["forest", "vertex", "child", "parent"] ["forest", "vertex"] (defScope sKidsOf) := ⟨rfl, rfl, rfl, by decide +kernel, rfl, by decide +kernel, by decide +kernel⟩
theorem ok_kidsOf {f fC C : Addr} {fd fdC : FuncData} (F : Fun K "children_of" "children_of" sKidsOf f fd) (FC : Fun K "check_vertex" "check_vertex" sCheck fC fdC) (GC : FnOk P w K mg base (L2.CX P w) 3 fC fdC ["forest", "value"] (spCheck K C)) (bC : Binds K fdC ["forest", "value"] []) (gC : mg "check_vertex" = some (.ref fC)) (mT : mg "tuple" = none) (me : mg "enumerate" = none) :
    FnOk P w K mg base (L2.CX P w) 4 f fd ["forest", "vertex"] (spKidsX K C) := by
  refine F.okX scKids (fun vs H Q E h => ?_) (fun cdv A outer s H vs Q E hr h => ?_)
  · obtain ⟨p, fs, v, d, rfl, _⟩ := h
    rfl
  · obtain ⟨p, fs, v0, d, rfl, hp, hF, rp, q0, qF⟩ := h
    refine ⟨_, pss_cons (ps_expr (pe_callS GC hr (by rfl) gC FC.kp bC (fun σ => passAt (takes_of rfl rfl rfl rfl) σ) (pa_cons (pv 0) (pa_cons (pv 1) pa_nil))))
      (PSs.nox (pss_one (ps_ret (pe_callTy call_tuple_of (by rfl) mT (by decide +kernel) (pa_cons (pe_lc (own := [("child", 2), ("parent", 3)]) (g := gTup K 2 (gCons (gName 2) (gCons (gName 3) gNil))) (tt := tAnd (tTest (tOp rEq (tVar 3) (tVar 1))) (tTest (tOp rNe (tVar 2) (tVar 1)))) (te := tVar 2) (by rfl) scKids.nd
      (pi_enumT (by rfl) me (pa_cons (pv 0) pa_nil)) (blkOk_by (own := [("child", 2), ("parent", 3)]) (N := ["forest", "vertex", "child", "parent"]) (sc := defScope sKidsOf) (by decide +kernel))
      (fun _ _ _ _ _ => pg_tup rfl (pgs_cons (pg_name (i := 2) scKids.nd rfl (Or.inl rfl)) (pgs_cons (pg_name (i := 3) scKids.nd rfl (Or.inl rfl)) pgs_nil)))
      (fun _ _ _ _ _ => pts_one (PW.pt (pw_and (pt_cmpR op_eq (pv 3) (pv 1) (nomark _)) (pw_and1 (pt_cmpR op_ne (pv 2) (pv 1) (nomark _)))))) (fun _ _ _ _ _ => pv 2)) pa_nil))))), ?_⟩
    refine ⟨.ref p, rfl, v0, rfl, p, fs, v0, d, rfl, hp, rp, fun z => ?_, qF⟩
    obtain ⟨v, rfl, hv⟩ := isV_int z
    cases rp
    have q := q0 v rfl hv
    have few := hF.few
    refine ⟨.ref p, rfl, p, _, rfl, hp, fun D nD => lc_it (walkT (K := K) (a := p) (xs := nv fs)) (fun k H2 => Same H H2 ∧ H2 D = some (.lst (nv ((List.range k).filter fun u => decide (par fs u = v) && decide (u ≠ v))))) ⟨same_new nD, upd_same⟩ (fun k H2 _ z => same_seqT z.1 hp) ?_ ?_⟩
    · rintro k x H2 H2' hk ⟨sm, hD⟩ ⟨t, v1, v2, rfl, nt, rfl, z1, z2⟩
      obtain ⟨hk', rfl⟩ := nv_some z2
      cases z1
      have St := same_new (o := .tup [V.int (k : Nat), V.int ((fs.getD k 0 : Nat) : Int)]) nt
      have stay : ¬ (decide (par fs k = v) && decide (k ≠ v)) = true → Same H (upd H2 t (.tup [V.int (k : Nat), V.int ((fs.getD k 0 : Nat) : Int)])) ∧ (upd H2 t (.tup [V.int (k : Nat), V.int ((fs.getD k 0 : Nat) : Int)])) D = some (.lst (nv ((List.range (k + 1)).filter fun u => decide (par fs u = v) && decide (u ≠ v)))) := fun hc => by
        refine ⟨sm.trans St, ?_⟩
        rw [St _ _ hD, range_filter_succ, if_neg hc]
      refine ⟨t, _, rfl, SqT.of upd_same, rfl, _, _, rfl, _, _, rfl, rfl, rfl, ?_⟩
      refine ⟨.int ((fs.getD k 0 : Nat) : Int), rfl, .int (v : Nat), rfl, rfl, _, rfl, ite2 (fun h1 => ?_) (fun h1 => iteF ?_)⟩
      · have h1 : par fs k = v := natV_inj.mp (of_decide_eq_true h1)
        refine ⟨.int (k : Nat), rfl, .int (v : Nat), rfl, rfl, _, rfl, ite2 (fun h2 => ?_) (fun h2 => ?_)⟩
        · have h2 : k ≠ v := fun y => by
            rw [y, decide_eq_true rfl] at h2
            cases h2
          have hc : (decide (par fs k = v) && decide (k ≠ v)) = true := by rw [decide_eq_true h1, decide_eq_true h2]; rfl
          refine ⟨.int (k : Nat), rfl, _, St _ _ hD, ?_, fun b o z => ?_, ?_⟩
          · rw [nv_length]
            exact small1000 (Nat.le_trans (range_filter_le _ _) (by omega))
          · rw [upd_ne (ne_of_none z nD)]
            exact St _ _ (sm _ _ z)
          · rw [upd_same, range_filter_succ, if_pos hc, nv_append]
            rfl
        · refine stay fun y => ?_
          have : k ≠ v := of_decide_eq_true (Bool.and_eq_true_iff.mp y).2
          exact h2 (by rw [decide_eq_false (fun e => this (natV_inj.mp e))]; rfl)
      · refine stay fun y => ?_
        exact h1 (decide_eq_true (natV_inj.mpr (of_decide_eq_true (Bool.and_eq_true_iff.mp y).1)))
    · rintro H2 ⟨sm, hD⟩
      rw [nv_length] at hD
      refine ⟨D, _, rfl, .inl ⟨SqL.of hD, fun p9 n9 => ?_⟩⟩
      exact q p9 _ (sm.trans (same_new n9)) (sm.free n9) upd_same
end
end Lf
namespace Lf
open PySem PySem.Spec PyProof.Rows L2
/-! ### weights -/
def spWeights (K : PySem.W.Frag) : Sp := fun vs H Q _ => ∃ (p : Addr) (fs : List Nat), vs = [.ref p] ∧ SqT K H p (nv fs) ∧ Forest fs ∧
  ∀ (ws : List Nat) (q : Addr) (H' : Hp), Same H H' → ws.length = fs.length → (∀ v, v < fs.length → ws.getD v 0 = cnt fs v fs.length) → H q = none → H' q = some (.tup (nv ws)) → Q (.ref q) H'
theorem getD_setT {ws : List Nat} {y x v : Nat} (h : y < ws.length) : (ws.set y x).getD v 0 = if v = y then x else ws.getD v 0 := par_set h
section
variable {P : Program} {w : World} {K : PySem.W.Frag} {mg : Str → Option Value} {base : Heap}
theorem scWeights : FnScope ["forest", "counts", "vertex", "above"] ["forest"] (defScope sWeights) := ⟨rfl, rfl, rfl, by decide +kernel, rfl, by decide +kernel, by decide +kernel⟩
theorem ok_weights {f fA C : Addr} {fd fdA : FuncData} (F : Fun K "weights" "weights" sWeights f fd) (FA : Fun K "path_of" "path_of" sPath fA fdA) (GA : FnOk P w K mg base (L2.CX P w) 4 fA fdA ["forest", "vertex"] (spPathX K C)) (bA : Binds K fdA ["forest", "vertex"] []) (gA : mg "path_of" = some (.ref fA))
    (ml : mg "len" = none) (mr : mg "range" = none) (mT : mg "tuple" = none) : FnOk P w K mg base CX0 5 f fd ["forest"] (spWeights K) := by
  refine F.ok scWeights (fun vs H Q E h => ?_) (fun cdv A outer s H vs Q E hr h => ?_)
  · obtain ⟨p, fs, rfl, _⟩ := h
    rfl
  · obtain ⟨p, fs, rfl, hp, hF, q⟩ := h
    refine ⟨_, pss_cons (ps_set (i := 1) scWeights.nd rfl (.inl rfl) (pe_op op_rep (pe_lst (pa_cons pe_int pa_nil)) (pe_callB call_len_seq (by rfl) ml PySem.boot_len (pa_cons (pv 0) pa_nil))))
      (pss_cons (ps_for PassesOwn.never rfl (pi_range1 (by rfl) mr (pa_cons (pe_callB call_len_seq (by rfl) ml PySem.boot_len (pa_cons (pv 0) pa_nil)) pa_nil)) (pg_name (i := 2) scWeights.nd rfl (.inl rfl))
        (pss_one (ps_for PassesOwn.never rfl (pi_tup (pe_call GA hr (by rfl) gA FA.kp bA .nil passL (pa_cons (pv 0) (pa_cons (pv 2) pa_nil)))) (pg_name (i := 3) scWeights.nd rfl (.inl rfl))
          (pss_one (ps_augS (pv 1) (pv 3) get_listN pe_int ip_add set_list)))))
      (pss_one (ps_ret (pe_callTy call_tuple_of (by rfl) mT (by decide +kernel) (pa_cons (pv 1) pa_nil))))), ?_⟩
    have few := hF.few
    refine ⟨(by show 1 ≤ sizeLine; decide), fun z1 nz1 => ⟨.ref p, rfl, p, _, rfl, .inr (same_seqT (same_new nz1) hp), z1, _, _, rfl, rfl, upd_same, ?_, ?_, ?_, fun cq ncq => ?_⟩⟩
    · rw [nv_length]
      omega
    · rw [nv_length]
      omega
    · show 1 * Int.toNat ((nv fs).length : Int) ≤ sizeLine
      rw [sizeLine_eq, nv_length]
      omega
    rw [show (List.replicate (Int.toNat ((nv fs).length : Int)) [V.int 0]).flatten = nv (List.replicate fs.length 0) from by rw [nv_length, Int.toNat_natCast]; exact rep_nv _]
    have Z1 := same_new (o := .lst [V.int 0]) nz1
    have Z2 := same_new (o := .lst (nv (List.replicate fs.length 0))) ncq
    have cn : H cq = none := Z1.free ncq
    refine ⟨.ref p, rfl, p, _, rfl, .inr (same_seqT (Z1.trans Z2) hp), _, rfl, ?_, ?_, for_range (lo := 0) (n := Int.toNat ((nv fs).length : Int)) (fun k σ H1 => ∃ (ws : List Nat) (c2 c3 : Option V), σ = [some (.ref p), some (.ref cq), c2, c3] ∧ Same H H1 ∧ H1 cq = some (.lst (nv ws)) ∧ ws.length = fs.length ∧ ∀ v, v < fs.length → ws.getD v 0 = cnt fs v k)
      ⟨List.replicate fs.length 0, none, none, rfl, Z1.trans Z2, upd_same, List.length_replicate, fun v hv => ?_⟩ ?_ ?_⟩
    · rw [nv_length]
      omega
    · rw [nv_length]
      omega
    · rw [cnt_zero, List.getD_eq_getElem?_getD, List.getElem?_replicate, if_pos hv]
      rfl
    · rintro k σ H1 hk ⟨ws, c2, c3, rfl, sm, hcq, lw, hws⟩
      rw [nv_length] at hk
      have hk' : k < fs.length := by omega
      refine ⟨.ref p, rfl, .int (0 + (k : Int)), rfl, p, fs, .int (0 + (k : Int)), .int (0 + (k : Int)), rfl, same_seqT sm hp, hF, .int _, fun x ex hx ln qa H2 s2 pl ll nq hqa => ?_, fun z => by rw [Int.zero_add, isV_nat hk'] at z; cases z⟩
      have ekx : k = x := by
        have := PyData.int.inj ex
        omega
      subst ekx
      have nd : ln.Nodup := pl.nodup hF.rch hF.rng hk'
      have inn : ∀ {x : Nat}, x ∈ ln → x < fs.length := fun hx => ((pl.bel _).mp hx).lt hF.rng hk'
      have qc : qa ≠ cq := fun z => by
        rw [z, hcq] at nq
        cases nq
      refine ⟨qa, rfl, ⟨_, SqT.of hqa⟩, for_tup (K := K) (a := qa) (xs := nv ln) (fun j σ H3 => ∃ (us : List Nat) (c3 : Option V), σ = [some (.ref p), some (.ref cq), some (.int (0 + (k : Int))), c3] ∧ Same H H3 ∧ H3 qa = some (.tup (nv ln)) ∧ H3 cq = some (.lst (nv us)) ∧ us.length = fs.length ∧ ∀ v, v < fs.length → us.getD v 0 = ws.getD v 0 + (if v ∈ ln.take j then 1 else 0))
        ⟨ws, c3, rfl, sm.trans s2, hqa, s2 _ _ hcq, lw, fun v _ => by rw [List.take_zero, if_neg List.not_mem_nil]; rfl⟩ (fun j σ H3 _ ⟨_, _, _, _, z, _⟩ => SqT.of z) ?_ ?_⟩
      · rintro j y σ H3 hj ⟨us, d3, rfl, s3, hq3, hc3, lu, hus⟩
        obtain ⟨hjl, rfl⟩ := nv_some hj
        generalize hy : ln.getD j 0 = y
        have ey : ln[j]? = some y := by rw [← hy, List.getD_eq_getElem?_getD, List.getElem?_eq_getElem hjl]; rfl
        have yl : y < fs.length := inn (List.mem_of_getElem? ey)
        have yu : y < us.length := by omega
        refine ⟨.ref cq, rfl, .int (y : Nat), rfl, cq, _, y, _, rfl, rfl, SqL.of hc3, nv_get yu, _, 1, rfl, rfl, cq, _, (y : Int), y, rfl, rfl, hc3, ?_, us.set y (us.getD y 0 + 1), some (.int (y : Nat)), rfl, fun b o z => ?_, ?_, ?_, ?_, ?_⟩
        · unfold ixN
          rw [nv_length, if_pos (by omega), if_pos (by omega), Int.toNat_natCast]
        · rw [upd_ne (ne_of_none z cn)]
          exact s3 _ _ z
        · rw [upd_ne qc]
          exact hq3
        · rw [upd_same]
          unfold nv
          rw [List.map_set]
          rfl
        · rw [List.length_set]
          exact lu
        · intro v hv
          rw [getD_setT yu, List.take_add_one, ey]
          have notin : y ∉ ln.take j := fun z => by
            obtain ⟨i, hi, ei⟩ := List.getElem_of_mem z
            rw [List.length_take] at hi
            rw [List.getElem_take] at ei
            have e2 : ln[i]? = ln[j]? := by rw [ey, List.getElem?_eq_getElem (by omega), ei]
            have := (List.getElem?_inj (by omega) nd).mp e2
            omega
          by_cases z : v = y
          · subst z
            rw [if_pos rfl, hus v hv, if_neg notin, if_pos (by simp)]
          · rw [if_neg z, hus v hv]
            have e3 : (v ∈ ln.take j ++ (some y).toList) ↔ v ∈ ln.take j := by simp [z]
            by_cases z2 : v ∈ ln.take j
            · rw [if_pos z2, if_pos (e3.mpr z2)]
            · rw [if_neg z2, if_neg (fun y => z2 (e3.mp y))]
      · rintro σ H3 ⟨us, d3, rfl, s3, hq3, hc3, lu, hus⟩
        rw [nv_length, List.take_length] at hus
        refine ⟨us, _, _, rfl, s3, hc3, lu, fun v hv => ?_⟩
        rw [hus v hv, hws v hv, cnt_succ]
        by_cases z : v ∈ ln
        · rw [if_pos z, if_pos ((pl.bel v).mp z)]
        · rw [if_neg z, if_neg (fun y => z ((pl.bel v).mpr y))]
    · rintro σ H1 ⟨ws, c2, c3, rfl, sm, hcq, lw, hws⟩
      rw [nv_length, Int.toNat_natCast] at hws
      refine ⟨.ref cq, rfl, cq, _, rfl, .inl ⟨SqL.of hcq, fun p9 n9 => ?_⟩⟩
      exact q ws p9 _ (sm.trans (same_new n9)) lw hws (sm.free n9) upd_same
end
end Lf
namespace Lf
open PySem PySem.Spec PyProof.Rows L2
/-! ### builds.py: is_root, is_join, with_parent -/
abbrev sIsRoot : Stmt := topS (17)
abbrev sIsJoin : Stmt := topS (19)
abbrev sWithP : Stmt := topS (20)
def isRt (fs : List Nat) (d : PyData) : Bool := isV fs.length d && decide (par fs (unD d) = unD d)
theorem unD_nat (x : Nat) : unD (.int (x : Nat)) = x := Int.toNat_natCast x
theorem isRt_iff {fs : List Nat} {d : PyData} : isRt fs d = true ↔ ∃ x : Nat, d = .int (x : Nat) ∧ x < fs.length ∧ par fs x = x := by
  constructor
  · intro h
    obtain ⟨h1, h2⟩ := Bool.and_eq_true_iff.mp h
    obtain ⟨x, rfl, hx⟩ := isV_int h1
    have h2 := of_decide_eq_true h2
    rw [unD_nat] at h2
    exact ⟨x, rfl, hx, h2⟩
  · rintro ⟨x, rfl, hx, h⟩
    unfold isRt
    rw [isV_nat hx, unD_nat, decide_eq_true h]
    rfl
theorem isRt_nat {fs : List Nat} {x : Nat} (hx : x < fs.length) (h : par fs x = x) : isRt fs (.int (x : Nat)) = true := isRt_iff.mpr ⟨x, rfl, hx, h⟩
noncomputable def isJn (fs : List Nat) (d e : PyData) : Bool := isRt fs d && (isRt fs e && (!decide (unD d = unD e) && decide (cnt fs (unD d) fs.length ≤ cnt fs (unD e) fs.length)))
theorem isJn_iff {fs : List Nat} {d e : PyData} : isJn fs d e = true ↔ ∃ a b : Nat, d = .int (a : Nat) ∧ e = .int (b : Nat) ∧ Jn fs a b := by
  constructor
  · intro h
    obtain ⟨h1, h⟩ := Bool.and_eq_true_iff.mp h
    obtain ⟨h2, h⟩ := Bool.and_eq_true_iff.mp h
    obtain ⟨h3, h4⟩ := Bool.and_eq_true_iff.mp h
    obtain ⟨x, rfl, hx, px⟩ := isRt_iff.mp h1
    obtain ⟨y, rfl, hy, py⟩ := isRt_iff.mp h2
    have h4 := of_decide_eq_true h4
    rw [unD_nat, unD_nat] at h3 h4
    refine ⟨x, y, rfl, rfl, hx, px, hy, py, fun z => ?_, h4⟩
    rw [decide_eq_true z] at h3
    cases h3
  · rintro ⟨a, b, rfl, rfl, h1, h2, h3, h4, h5, h6⟩
    unfold isJn
    rw [isRt_nat h1 h2, isRt_nat h3 h4, unD_nat, unD_nat, decide_eq_false h5, decide_eq_true h6]
    rfl
theorem isJn_nat {fs : List Nat} {a b : Nat} : isJn fs (.int (a : Nat)) (.int (b : Nat)) = true ↔ Jn fs a b := by
  rw [isJn_iff]
  constructor
  · rintro ⟨x, y, e1, e2, h⟩
    have e1 : a = x := by have := PyData.int.inj e1; omega
    have e2 : b = y := by have := PyData.int.inj e2; omega
    subst e1 e2
    exact h
  · exact fun h => ⟨a, b, rfl, rfl, h⟩
noncomputable def lawJn (fs : List Nat) : PyData → Bool
  | .tuple [a, b] => isJn fs a b
  | _ => false
theorem lawJn_no {fs : List Nat} {ds : List PyData} (h : ds.length ≠ 2) : lawJn fs (.tuple ds) = false := by
  match ds, h with
  | [], _ => rfl
  | [_], _ => rfl
  | [_, _], h => exact absurd rfl h
  | _ :: _ :: _ :: _, _ => rfl
def isTwo (fs : List Nat) (d e : PyData) : Bool := isRt fs d && (isRt fs e && !decide (unD d = unD e))
theorem isJn_two (fs : List Nat) (d e : PyData) : isJn fs d e = (isTwo fs d e && decide (cnt fs (unD d) fs.length ≤ cnt fs (unD e) fs.length)) := by
  unfold isJn isTwo
  cases isRt fs d <;> cases isRt fs e <;> cases decide (unD d = unD e) <;> cases decide (cnt fs (unD d) fs.length ≤ cnt fs (unD e) fs.length) <;> rfl
def spTwoR (K : PySem.W.Frag) : Sp := fun vs H Q _ => ∃ (p : Addr) (fs : List Nat) (v u : V) (d e : PyData), vs = [.ref p, v, u] ∧ SqT K H p (nv fs) ∧ Rp H v d ∧ Rp H u e ∧ Q (.bl (isTwo fs d e)) H
def spRoot (K : PySem.W.Frag) : Sp := fun vs H Q _ => ∃ (p : Addr) (fs : List Nat) (v : V) (d : PyData), vs = [.ref p, v] ∧ SqT K H p (nv fs) ∧ Rp H v d ∧ Q (.bl (isRt fs d)) H
def spJoin (K : PySem.W.Frag) : Sp := fun vs H Q _ => ∃ (p : Addr) (fs : List Nat) (v u : V) (d e : PyData), vs = [.ref p, v, u] ∧ SqT K H p (nv fs) ∧ Forest fs ∧ Rp H v d ∧ Rp H u e ∧ ∀ H', Same H H' → Q (.bl (isJn fs d e)) H'
def spWithP : Sp := fun vs H Q _ => ∃ (p : Addr) (fs : List Nat) (c u : Nat), vs = [.ref p, .int (c : Nat), .int (u : Nat)] ∧ H p = some (.tup (nv fs)) ∧ fs.length ≤ 100 ∧ c < fs.length ∧ ∀ (q : Addr) (H' : Hp), Same H H' → H' q = some (.tup (nv (fs.set c u))) → Q (.ref q) H'
section
variable {P : Program} {w : World} {K : PySem.W.Frag} {mg : Str → Option Value} {base : Heap}
theorem scIsRoot : FnScope ["forest", "value"] ["forest", "value"] (defScope sIsRoot) := ⟨rfl, rfl, rfl, by decide +kernel, rfl, by decide +kernel, by decide +kernel⟩
theorem ok_isRoot (M : Mk K mg "is_root" sIsRoot ["forest", "value"]) (dV : Df P w K mg base CX0 2 "is_vertex" ["n", "value"] spIV) (ml : mg "len" = none) : Df P w K mg base CX0 3 "is_root" ["forest", "value"] (spRoot K) := by
  obtain ⟨f, fd, F, b, g⟩ := M
  refine Df.of F b g (F.ok scIsRoot (fun vs H Q E h => ?_) (fun cdv A outer s H vs Q E hr h => ?_))
  · obtain ⟨p, fs, v, d, rfl, _⟩ := h
    rfl
  · obtain ⟨p, fs, v, d, rfl, hp, rp, q⟩ := h
    refine ⟨_, pss_one (ps_ret (pe_and (pe_d dV hr (pa_cons (pe_callB call_len_seq (by rfl) ml PySem.boot_len (pa_cons (pv 0) pa_nil)) (pa_cons (pv 1) pa_nil))) (pe_one (pe_cmpR op_eq (pe_ix ix_tup (pv 0) (pv 1) (fun _ _ => rfl)) (pv 1) (nomark _))))), ?_⟩
    refine ⟨.ref p, rfl, p, _, rfl, .inr hp, v, rfl, (nv fs).length, v, d, rfl, rp, _, rfl, ?_⟩
    rw [nv_length]
    cases z : isV fs.length d with
    | false =>
      have e : isRt fs d = false := by unfold isRt; rw [z]; rfl
      rw [e] at q
      exact iteF q
    | true =>
      obtain ⟨x, rfl, hx⟩ := isV_int z
      cases rp
      refine iteT ⟨.ref p, rfl, .int (x : Nat), rfl, p, _, x, .int ((par fs x : Nat) : Int), rfl, rfl, hp, atI_nat (nv_get hx), .int (x : Nat), rfl, rfl, ?_⟩
      have e : isRt fs (.int (x : Nat)) = decide (V.int ((par fs x : Nat) : Int) = V.int ((x : Nat) : Int)) := by
        unfold isRt
        rw [z, unD_nat, Bool.true_and]
        exact decide_eq_decide.mpr natV_inj.symm
      rw [e] at q
      exact q
abbrev sTwoR : Stmt := topS (18)
theorem scTwoR : FnScope ["forest", "one", "other"] ["forest", "one", "other"] (defScope sTwoR) := ⟨rfl, rfl, rfl, by decide +kernel, rfl, by decide +kernel, by decide +kernel⟩
theorem ok_twoR (M : Mk K mg "are_two_roots" sTwoR ["forest", "one", "other"]) (dR : Df P w K mg base CX0 3 "is_root" ["forest", "value"] (spRoot K)) : Df P w K mg base CX0 4 "are_two_roots" ["forest", "one", "other"] (spTwoR K) := by
  obtain ⟨f, fd, F, b, g⟩ := M
  refine Df.of F b g (F.ok scTwoR (fun vs H Q E h => ?_) (fun cdv A outer s H vs Q E hr h => ?_))
  · obtain ⟨p, fs, v, u, d, e, rfl, _⟩ := h
    rfl
  · obtain ⟨p, fs, v, u, d, e, rfl, hp, rv, ru, q⟩ := h
    refine ⟨_, pss_one (ps_ret (pe_and (pe_d dR hr (pa_cons (pv 0) (pa_cons (pv 1) pa_nil))) (pe_and (pe_d dR hr (pa_cons (pv 0) (pa_cons (pv 2) pa_nil))) (pe_one (pe_cmpR op_ne (pv 1) (pv 2) (nomark _)))))), ?_⟩
    refine ⟨.ref p, rfl, v, rfl, p, fs, v, d, rfl, hp, rv, _, rfl, ?_⟩
    unfold isTwo at q
    cases z1 : isRt fs d with
    | false =>
      rw [z1] at q
      exact iteF q
    | true =>
      rw [z1] at q
      refine iteT ⟨.ref p, rfl, u, rfl, p, fs, u, e, rfl, hp, ru, _, rfl, ?_⟩
      cases z2 : isRt fs e with
      | false =>
        rw [z2] at q
        exact iteF q
      | true =>
        rw [z2] at q
        obtain ⟨x, rfl, hx, px⟩ := isRt_iff.mp z1
        obtain ⟨y, rfl, hy, py⟩ := isRt_iff.mp z2
        cases rv
        cases ru
        refine iteT ⟨.int (x : Nat), rfl, .int (y : Nat), rfl, rfl, ?_⟩
        rw [unD_nat, unD_nat] at q
        rw [show decide (V.int ((x : Nat) : Int) = V.int ((y : Nat) : Int)) = decide (x = y) from decide_eq_decide.mpr natV_inj]
        exact q
theorem scIsJoin : FnScope ["forest", "child", "parent", "loads"] ["forest", "child", "parent"] (defScope sIsJoin) := ⟨rfl, rfl, rfl, by decide +kernel, rfl, by decide +kernel, by decide +kernel⟩
theorem ok_isJoin (M : Mk K mg "is_join" sIsJoin ["forest", "child", "parent"]) (dT : Df P w K mg base CX0 4 "are_two_roots" ["forest", "one", "other"] (spTwoR K)) (dW : Df P w K mg base CX0 5 "weights" ["forest"] (spWeights K)) : Df P w K mg base CX0 6 "is_join" ["forest", "child", "parent"] (spJoin K) := by
  obtain ⟨f, fd, F, b, g⟩ := M
  refine Df.of F b g (F.ok scIsJoin (fun vs H Q E h => ?_) (fun cdv A outer s H vs Q E hr h => ?_))
  · obtain ⟨p, fs, v, u, d, e, rfl, _⟩ := h
    rfl
  · obtain ⟨p, fs, v, u, d, e, rfl, hp, hF, rv, ru, q⟩ := h
    refine ⟨_, pss_cons (ps_if (pt_not (pt_val (pe_d dT hr (pa_cons (pv 0) (pa_cons (pv 1) (pa_cons (pv 2) pa_nil)))))) (pss_one (ps_ret pe_bl)) pss_nil)
      (pss_cons (ps_set (i := 3) scIsJoin.nd rfl (.inl rfl) (pe_d dW hr (pa_cons (pv 0) pa_nil)))
      (pss_one (ps_ret (pe_cmpR op_le (pe_ix ix_tup (pv 3) (pv 1) (fun _ _ => rfl)) (pe_ix ix_tup (pv 3) (pv 2) (fun _ _ => rfl)) (nomark _))))), ?_⟩
    have q0 := q H (Same.refl H)
    refine ⟨.ref p, rfl, v, rfl, u, rfl, p, fs, v, u, d, e, rfl, hp, rv, ru, _, rfl, ?_⟩
    cases z : isTwo fs d e with
    | false =>
      rw [isJn_two, z] at q0
      exact iteT q0
    | true =>
      obtain ⟨z1, z2⟩ := Bool.and_eq_true_iff.mp z
      obtain ⟨z2a, z3⟩ := Bool.and_eq_true_iff.mp z2
      obtain ⟨x, rfl, hx, px⟩ := isRt_iff.mp z1
      obtain ⟨y, rfl, hy, py⟩ := isRt_iff.mp z2a
      cases rv
      cases ru
      refine iteF ⟨.ref p, rfl, p, fs, rfl, hp, hF, fun ws qa H' sm lw hws nq hq => ?_⟩
      refine ⟨.ref qa, rfl, .int (x : Nat), rfl, qa, _, x, _, rfl, rfl, SqT.of hq, atI_nat (nv_get (by omega)), .ref qa, rfl, .int (y : Nat), rfl, qa, _, y, _, rfl, rfl, SqT.of hq, atI_nat (nv_get (by omega)), _, _, rfl, rfl, ?_⟩
      have q1 := q H' sm
      rw [isJn_two, z, Bool.true_and, unD_nat, unD_nat, ← hws x hx, ← hws y hy, show decide (ws.getD x 0 ≤ ws.getD y 0) = decide (((ws.getD x 0 : Nat) : Int) ≤ ((ws.getD y 0 : Nat) : Int)) from decide_eq_decide.mpr ⟨fun z => by omega, fun z => by omega⟩] at q1
      exact q1
theorem scWithP : FnScope ["forest", "child", "parent"] ["forest", "child", "parent"] (defScope sWithP) := ⟨rfl, rfl, rfl, by decide +kernel, rfl, by decide +kernel, by decide +kernel⟩
theorem ok_withP (M : Mk K mg "with_parent" sWithP ["forest", "child", "parent"]) : Df P w K mg base CX0 1 "with_parent" ["forest", "child", "parent"] spWithP := by
  obtain ⟨f, fd, F, b, g⟩ := M
  refine Df.of F b g (F.ok scWithP (fun vs H Q E h => ?_) (fun cdv A outer s H vs Q E hr h => ?_))
  · obtain ⟨p, fs, c, u, rfl, _⟩ := h
    rfl
  · obtain ⟨p, fs, c, u, rfl, hp, few, hc, q⟩ := h
    refine ⟨_, pss_one (ps_ret (pe_op op_catW (pe_op op_catW (pe_slice sl_tupW (pv 0) po_none (po_some (pv 1))) (pe_tup (pa_cons (pv 2) pa_nil))) (pe_slice sl_tupW (pv 0) (po_some (pe_op op_add (pv 1) pe_int)) po_none))), ?_⟩
    refine ⟨.ref p, rfl, .int (c : Nat), rfl, _, rfl, p, _, rfl, hp, fun r1 H1 s1 h1 => ?_⟩
    rw [cut_upto (Nat.le_of_lt hc)] at h1
    refine ⟨.int (u : Nat), rfl, (by show 1 ≤ sizeLine; decide), fun p2 n2 => ⟨r1, p2, _, _, rfl, rfl, same_new n2 _ _ h1, upd_same, ?_, fun r3 H3 s3 h3 => ?_⟩⟩
    · rw [nv_length, List.length_take]
      exact Nat.le_of_lt (small1000 (by show min c fs.length + 1 ≤ 1000; omega))
    · have S3 := s1.trans ((same_new n2).trans s3)
      have ec : cutV (nv fs) (some ((c : Int) + 1)) none = nv (fs.drop (c + 1)) := cut_from (i := c + 1) hc
      refine ⟨.ref p, rfl, .int (c : Nat), rfl, _, _, rfl, rfl, _, rfl, p, _, rfl, S3 _ _ hp, fun r5 H5 s5 h5 => ?_⟩
      rw [ec] at h5
      refine ⟨r3, r5, _, _, rfl, rfl, s5 _ _ h3, h5, ?_, fun r6 H6 s6 h6 => q r6 H6 (S3.trans (s5.trans s6)) ?_⟩
      · rw [List.length_append, nv_length, nv_length, List.length_take, List.length_drop]
        exact Nat.le_of_lt (small1000 (by show min c fs.length + 1 + (fs.length - (c + 1)) ≤ 1000; omega))
      · rw [h6, set_cut hc, nv_append, nv_append]
        rfl
end
end Lf
namespace Lf
open PySem PySem.Spec PyProof.Rows L2
/-! ### builds.py: possible_joins, after_join -/
abbrev sPoss : Stmt := topS (21)
abbrev sAfter : Stmt := topS (22)
noncomputable def pj (fs : List Nat) (a b : Nat) : Bool := !decide (a = b) && decide (cnt fs a fs.length ≤ cnt fs b fs.length)
noncomputable def rowJ (fs bs : List Nat) (a : Nat) : List (List Nat) := (bs.filter (pj fs a)).map fun b => [a, b]
noncomputable def joinsL (fs as : List Nat) : List (List Nat) := as.flatMap (rowJ fs (tops fs))
theorem rowJ_le (fs bs : List Nat) (a : Nat) : (rowJ fs bs a).length ≤ bs.length := by
  unfold rowJ
  rw [List.length_map]
  exact List.length_filter_le _ _
theorem joinsL_le (fs : List Nat) : ∀ as : List Nat, (joinsL fs as).length ≤ (tops fs).length * as.length
  | [] => Nat.zero_le _
  | a :: as => by
    have := joinsL_le fs as
    have := rowJ_le fs (tops fs) a
    show ((rowJ fs (tops fs) a) ++ joinsL fs as).length ≤ _
    rw [List.length_append, List.length_cons, Nat.mul_succ]
    omega
theorem tops_le (fs : List Nat) : (tops fs).length ≤ fs.length := range_filter_le _ _
def spPoss (K : PySem.W.Frag) : Sp := fun vs H Q _ => ∃ (p : Addr) (fs : List Nat), vs = [.ref p] ∧ SqT K H p (nv fs) ∧ Forest fs ∧
  ∀ (q : Addr) (us : List V) (H' : Hp), Same H H' → H' q = some (.tup us) → Rows H' us (joinsL fs (tops fs)) → Q (.ref q) H'
def spAfter (C : Addr) : Sp := fun vs H Q E => ∃ (p : Addr) (fs : List Nat) (v u : V) (d e : PyData), vs = [.ref p, v, u] ∧ H p = some (.tup (nv fs)) ∧ Forest fs ∧ Rp H v d ∧ Rp H u e ∧
  (∀ a b : Nat, d = .int (a : Nat) → e = .int (b : Nat) → Jn fs a b → ∀ (q : Addr) (H' : Hp), Same H H' → H' q = some (.tup (nv (fs.set a b))) → Q (.ref q) H') ∧ (isJn fs d e = false → OutF "index" C H (.int 0) E)
section
variable {P : Program} {w : World} {K : PySem.W.Frag} {mg : Str → Option Value} {base : Heap}
abbrev NPo : List Str := ["forest", "tops", "loads", "low", "high"]
theorem scPoss : FnScope NPo ["forest"] (defScope sPoss) := ⟨rfl, rfl, rfl, by decide +kernel, rfl, by decide +kernel, by decide +kernel⟩
theorem ok_poss (M : Mk K mg "possible_joins" sPoss ["forest"]) (dR : Df P w K mg base CX0 1 "roots" ["forest"] (spRoots K)) (dW : Df P w K mg base CX0 5 "weights" ["forest"] (spWeights K)) (mT : mg "tuple" = none) : Df P w K mg base CX0 6 "possible_joins" ["forest"] (spPoss K) := by
  obtain ⟨f, fd, F, b, g⟩ := M
  refine Df.of F b g (F.ok scPoss (fun vs H Q E h => ?_) (fun cdv A outer s H vs Q E hr h => ?_))
  · obtain ⟨p, fs, rfl, _⟩ := h
    rfl
  · obtain ⟨p, fs, rfl, hp, hF, q⟩ := h
    refine ⟨_, pss_cons (ps_set (i := 1) scPoss.nd rfl (.inr rfl) (pe_d dR hr (pa_cons (pv 0) pa_nil)))
      (pss_cons (ps_set (i := 2) scPoss.nd rfl (.inr rfl) (pe_d dW hr (pa_cons (pv 0) pa_nil)))
      (pss_one (ps_ret (pe_callTy call_tuple_of (by rfl) mT (by decide +kernel) (pa_cons (pe_lc2 (own := [("low", 3), ("high", 4)]) (vs1 := [4]) (g := gName 3) (tt := tYes) (wi1 := iTup K (tVar 1)) (g1 := gName 4)
        (tt1 := tAnd (tTest (tOp rNe (tVar 3) (tVar 4))) (tTest (tOp (rI0 fun i j => .bl (decide (i ≤ j))) (tOp (rIxT K) (tVar 2) (tVar 3)) (tOp (rIxT K) (tVar 2) (tVar 4))))) (te := tTup (tCons (tVar 3) (tCons (tVar 4) tNil))) (by rfl) scPoss.nd (pi_tup (pv 1))
        (blkOk_by (own := [("low", 3), ("high", 4)]) (N := NPo) (sc := defScope sPoss) (by decide +kernel)) (by decide) (fun _ _ _ _ _ => pg_name (i := 3) scPoss.nd rfl (Or.inl rfl)) (fun _ _ _ _ _ => pts_nil)
        (fun _ _ _ _ _ => pi_tup (pv 1)) (fun _ _ _ _ _ => pg_name (i := 4) scPoss.nd rfl (Or.inl rfl))
        (fun _ _ _ _ _ => pts_one (PW.pt (pw_and (pt_cmpR op_ne (pv 3) (pv 4) (nomark _)) (pw_and1 (pt_cmpR op_le (pe_ix ix_tup (pv 2) (pv 3) (fun _ _ => rfl)) (pe_ix ix_tup (pv 2) (pv 4) (fun _ _ => rfl)) (nomark _))))))
        (fun _ _ _ _ _ => pe_tup (pa_cons (pv 3) (pa_cons (pv 4) pa_nil)))) pa_nil))))), ?_⟩
    have few := hF.few
    have tl := tops_le fs
    refine ⟨.ref p, rfl, p, fs, rfl, hp, by omega, fun qt H1 s1 nqt hqt => ⟨.ref p, rfl, p, fs, rfl, same_seqT s1 hp, hF, fun ws qw H2 s2 lw hws nqw hqw => ?_⟩⟩
    have hqt2 := s2 _ _ hqt
    refine ⟨.ref qt, rfl, qt, rfl, ⟨_, SqT.of hqt2⟩, fun D nD => it_tup (K := K) (a := qt) (xs := nv (tops fs)) (fun i H3 => Same H2 H3 ∧ ∃ us, H3 D = some (.lst us) ∧ Rows H3 us (joinsL fs ((tops fs).take i))) ⟨same_new nD, [], upd_same, .nil⟩ (fun i H3 _ z => SqT.of (z.1 _ _ hqt2)) ?_ ?_⟩
    · rintro i x H3 hx ⟨s3, us, hD, ru⟩
      obtain ⟨hi, rfl⟩ := nv_some hx
      have ea : (tops fs)[i]? = some ((tops fs).getD i 0) := by rw [List.getD_eq_getElem?_getD, List.getElem?_eq_getElem hi]; rfl
      generalize hga : (tops fs).getD i 0 = a at *
      obtain ⟨al, ap⟩ := mem_tops.mp (List.mem_of_getElem? ea)
      have bound := joinsL_le fs ((tops fs).take i)
      rw [List.length_take] at bound
      refine ⟨rfl, ?_⟩
      dsimp only [tYes]
      rw [if_pos rfl]
      refine ⟨.ref qt, rfl, qt, rfl, ⟨_, SqT.of (s3 _ _ hqt2)⟩, it_tup (K := K) (a := qt) (xs := nv (tops fs)) (fun j H4 => Same H2 H4 ∧ ∃ us, H4 D = some (.lst us) ∧ Rows H4 us (joinsL fs ((tops fs).take i) ++ rowJ fs ((tops fs).take j) a)) ⟨s3, us, hD, by rw [List.take_zero]; show Rows H3 us (_ ++ []); rw [List.append_nil]; exact ru⟩ (fun j H4 _ z => SqT.of (z.1 _ _ hqt2)) ?_ ?_⟩
      · rintro j y H4 hy ⟨s4, us4, hD4, ru4⟩
        obtain ⟨hj, rfl⟩ := nv_some hy
        have eb : (tops fs)[j]? = some ((tops fs).getD j 0) := by rw [List.getD_eq_getElem?_getD, List.getElem?_eq_getElem hj]; rfl
        generalize hgb : (tops fs).getD j 0 = b at *
        obtain ⟨bl, bp⟩ := mem_tops.mp (List.mem_of_getElem? eb)
        have step : rowJ fs ((tops fs).take (j + 1)) a = rowJ fs ((tops fs).take j) a ++ (if pj fs a b = true then [[a, b]] else []) := by
          unfold rowJ
          rw [take_snoc eb, List.filter_append, List.map_append]
          cases z : pj fs a b with
          | true => rw [List.filter_cons_of_pos z]; rfl
          | false => rw [List.filter_cons_of_neg (by rw [z]; exact Bool.false_ne_true)]; rfl
        have stay : pj fs a b = false → Same H2 H4 ∧ ∃ us, H4 D = some (.lst us) ∧ Rows H4 us (joinsL fs ((tops fs).take i) ++ rowJ fs ((tops fs).take (j + 1)) a) := fun z => by
          rw [step, z]
          refine ⟨s4, us4, hD4, ?_⟩
          rw [if_neg Bool.false_ne_true, List.append_nil]
          exact ru4
        refine ⟨rfl, .int (a : Nat), rfl, .int (b : Nat), rfl, rfl, _, rfl, ite2 (fun h1 => ?_) (fun h1 => iteF (stay ?_))⟩
        · have h1 : a ≠ b := fun z => by
            rw [z, decide_eq_true rfl] at h1
            cases h1
          refine ⟨.ref qw, rfl, .int (a : Nat), rfl, qw, _, a, _, rfl, rfl, SqT.of (s4 _ _ hqw), atI_nat (nv_get (by omega)), .ref qw, rfl, .int (b : Nat), rfl, qw, _, b, _, rfl, rfl, SqT.of (s4 _ _ hqw), atI_nat (nv_get (by omega)), _, _, rfl, rfl, _, rfl, ite2 (fun h2 => ?_) (fun h2 => stay ?_)⟩
          · have h2 := of_decide_eq_true h2
            rw [hws a al, hws b bl] at h2
            have hp' : pj fs a b = true := by
              unfold pj
              rw [decide_eq_false h1, decide_eq_true (by omega)]
              rfl
            refine ⟨.int (a : Nat), rfl, .int (b : Nat), rfl, (by show 2 ≤ sizeLine; decide), fun t nt => ⟨us4, ?_, ?_, ?_, ?_⟩⟩
            · rw [upd_ne (ne_of_none hD4 nt)]
              exact hD4
            · have := ru4.length
              rw [List.length_append] at this
              have := rowJ_le fs ((tops fs).take j) a
              rw [List.length_take] at this
              have b2 : (tops fs).length * min i (tops fs).length ≤ 24 * 24 := Nat.mul_le_mul (by omega) (by omega)
              exact small1000 (by omega)
            · exact fun c o z => by
                rw [upd_ne (ne_of_none z nD), upd_ne (ne_of_none (s4 _ _ z) nt)]
                exact s4 _ _ z
            · refine ⟨us4 ++ [.ref t], upd_same, ?_⟩
              rw [step, hp', if_pos rfl, ← List.append_assoc]
              have hD5 : (upd H4 t (.tup [V.int (a : Nat), V.int (b : Nat)])) D = some (.lst us4) := by
                rw [upd_ne (ne_of_none hD4 nt)]
                exact hD4
              exact ((ru4.mono (TK.of (same_new nt))).snoc (r := [a, b]) upd_same).mono (TK.lst hD5)
          · unfold pj
            rw [decide_eq_false h1]
            refine decide_eq_false fun z => h2 (decide_eq_true ?_)
            rw [hws a al, hws b bl]
            omega
        · unfold pj
          have h1 : a = b := Classical.byContradiction fun z => h1 (by rw [decide_eq_false (fun y => z (natV_inj.mp y))]; rfl)
          rw [decide_eq_true h1]
          rfl
      · rintro H4 ⟨s4, us4, hD4, ru4⟩
        refine ⟨s4, us4, hD4, ?_⟩
        rw [nv_length, List.take_length] at ru4
        rw [take_snoc ea]
        unfold joinsL at ru4 ⊢
        rw [List.flatMap_append]
        show Rows H4 us4 (_ ++ (rowJ fs (tops fs) a ++ []))
        rw [List.append_nil]
        exact ru4
    · rintro H3 ⟨s3, us, hD, ru⟩
      rw [nv_length, List.take_length] at ru
      refine ⟨D, _, rfl, .inl ⟨SqL.of hD, fun p9 n9 => q p9 us _ (s1.trans (s2.trans (s3.trans (same_new n9)))) upd_same (ru.mono (TK.of (same_new n9)))⟩⟩
theorem scAfter : FnScope ["forest", "child", "parent"] ["forest", "child", "parent"] (defScope sAfter) := ⟨rfl, rfl, rfl, by decide +kernel, rfl, by decide +kernel, by decide +kernel⟩
theorem ok_after {C : Addr} (M : Mk K mg "after_join" sAfter ["forest", "child", "parent"]) (dJ : Df P w K mg base CX0 6 "is_join" ["forest", "child", "parent"] (spJoin K)) (dP : Df P w K mg base CX0 1 "with_parent" ["forest", "child", "parent"] spWithP) (R : ErrF P w K mg base "BadJoin" "index" C) :
    Df P w K mg base (L2.CX P w) 7 "after_join" ["forest", "child", "parent"] (spAfter C) := by
  obtain ⟨f, fd, F, b, g⟩ := M
  refine Df.of F b g (F.okX scAfter (fun vs H Q E h => ?_) (fun cdv A outer s H vs Q E hr h => ?_))
  · obtain ⟨p, fs, v, u, d, e, rfl, _⟩ := h
    rfl
  · obtain ⟨p, fs, v, u, d, e, rfl, hp, hF, rv, ru, qT, qF⟩ := h
    refine ⟨_, pss_cons (ps_if (pt_not (pt_val (pe_d dJ hr (pa_cons (pv 0) (pa_cons (pv 1) (pa_cons (pv 2) pa_nil)))))) (pss_one (ps_raise rfl (takes_of rfl rfl rfl rfl) (pmk_err R hr (pa_cons pe_int pa_nil)))) pss_nil)
      (pss_one (ps_ret (pe_d dP hr (pa_cons (pv 0) (pa_cons (pv 1) (pa_cons (pv 2) pa_nil)))))), ?_⟩
    refine ⟨.ref p, rfl, v, rfl, u, rfl, p, fs, v, u, d, e, rfl, SqT.of hp, hF, rv, ru, fun H' sm => ⟨_, rfl, ?_⟩⟩
    have few := hF.few
    cases z : isJn fs d e with
    | true =>
      obtain ⟨x, y, rfl, rfl, hj⟩ := isJn_iff.mp z
      cases rv
      cases ru
      exact iteF ⟨.ref p, rfl, .int (x : Nat), rfl, .int (y : Nat), rfl, p, fs, x, y, rfl, sm _ _ hp, by omega, hj.1, fun q H2 s2 h2 => qT x y rfl rfl hj q H2 (sm.trans s2) h2⟩
    | false => exact iteT ⟨(by show 1 ≤ 1000; decide), fun a na => ⟨a, .int 0, rfl, upd_same, fun dx nd ne => ⟨rfl, made_out sm (qF z) a na dx nd ne⟩⟩⟩
end
end Lf
namespace Lf
open PySem PySem.Spec PyProof.Rows L2
/-! ### def f(a, *rest, key=False) -/
/-- the def stands under its name; its keyword-only default is False -/
def MkV (K : PySem.W.Frag) (mg : Str → Option Value) (x key : Str) (st : Stmt) : Prop := ∃ (f : Addr) (fd : FuncData), FunD K x x (defArgs st) (defBody st) (defScope st) [] [(key, .bl false)] f fd ∧ mg x = some (.ref f)
/-- its calls: without the keyword (False) and with it -/
def DfV (P : Program) (w : World) (K : PySem.W.Frag) (mg : Str → Option Value) (base : Heap) (k : Nat) (x key : Str) (sp : Bool → Sp) : Prop :=
  ∃ f : Addr, mg x = some (.ref f) ∧ PySem.W.keepIn K (.ref f) = true ∧
    ∀ (b : Bool) (kw : List (Str × Value)), (b = false ∧ kw = []) ∨ kw = [(key, .bool b)] → ∀ (A : Around) (outer : List Env) (s : Shared) (H : Hp) (us : List Value) (vs : List V) (Q : VK) (E : XK), Room k A → Env0 P w K mg base A outer s H → Vals vs us → sp b vs H Q E →
      codeAny (model P w) A (.call (.ref f) ⟨us, kw⟩) (CR CX0 outer P w H s Q E) s
/-- from what the body promises (first argument, flag, tuple of the rest) to what the calls promise -/
def fVar (F : DF Z0) (b : Bool) : DF Z0 := fun s as Q => ∃ (a : PyData) (rest : List PyData), as = .im a :: rest.map Sl.im ∧ rest.length ≤ 1000 ∧ F s [.im a, .im (.bool b), .im (.tuple rest)] Q
theorem args_im {B : Addr → Prop} {H : Hp} : ∀ {vs : List V} {rest : List PyData}, ArgRs B H vs (rest.map Sl.im) → ImAll B H vs rest
  | _, [], .nil => .nil
  | _, _ :: _, .cons h q => .cons h (args_im q)
section
variable {P : Program} {w : World} {K : PySem.W.Frag} {mg : Str → Option Value} {base : Heap}
theorem dfv_ok {nm key p0 pv : Str} {st : Stmt} {N : List Str} {k : Nat} {F : DF Z0} {d : DSt Z0} (M : MkV K mg nm key st) (Sc : FnScope N [p0, key, pv] (defScope st)) (hl : 3 ≤ N.length)
    (hB : ∀ (D : Addr) (doc pm : Value) (an : Option Addr) (cdv ct u kd : Value) (rest : List Value), ∃ (β γ : Type) (k1 : Option Value → Sem β) (k2 : β → Sem γ) (k3 : γ → Sem (List (Str × Value))) (a : β),
      bindArgs (PySem.W.fnOf nm nm (defArgs st) (defBody st) (defScope st) .none (.ref D) doc pm an cdv ct) ⟨u :: rest, []⟩ = ((nsGet D key >>= k1) >>= k2) >>= k3 ∧ k1 (some kd) = pure a ∧ (k2 a >>= k3) = (newTuple rest >>= fun t => pure [(p0, u), (key, kd), (pv, t)]))
    (hB1 : ∀ (D : Addr) (doc pm : Value) (an : Option Addr) (cdv ct u kd : Value) (rest : List Value), bindArgs (PySem.W.fnOf nm nm (defArgs st) (defBody st) (defScope st) .none (.ref D) doc pm an cdv ct) ⟨u :: rest, [(key, kd)]⟩ = (newTuple rest >>= fun t => pure [(p0, u), (key, kd), (pv, t)]))
    (body : ∀ (f : Addr) (cdv : Value) (A : Around) (outer : List Env) (s : Shared) (H : Hp) (E : XK), Room k (A.deeper (envOfC nm (defScope st) s.heap.objs.size f cdv)) → DSs Z0 (cxOf CX0 P w K mg base N nm (defScope st) f cdv A outer s H E).nox (defBody st) d)
    (hd : ∀ a b rest s Qd, F s [.im a, .im (.bool b), .im (.tuple rest)] Qd → d (ends Qd) s ([.im a, .im (.bool b), .im (.tuple rest)] ++ List.replicate (N.length - 3) .no)) : DfV P w K mg base (k + 1) nm key fun b => spD Z0 (fVar F b) := by
  obtain ⟨f, fd, Fd, g⟩ := M
  refine ⟨f, g, Fd.kp, fun b kw hkw A outer s H us vs Q E hr e0 r hsp => ?_⟩
  obtain ⟨oc, od, dV, kV, doc, pm, an, cdv, ct, osl, rfl, lk, hcd, hDf, hKw⟩ := Fd.ex
  obtain ⟨B0, z, as, Qd, ok, hB0, ha, ⟨a, rest, rfl, hz, hf⟩, hq⟩ := hsp
  obtain ⟨D, rfl, hns⟩ : ∃ D : Addr, kV = .ref D ∧ ∀ q ∈ [(key, V.bl false)], ∃ u, PySem.W.nsIn K D q.1 = some (some u) ∧ RelV q.2 u := hKw.elim (fun z => nomatch z) id
  obtain rfl : dV = .none := hDf.elim (fun z => z.2) fun z => absurd rfl z.1
  cases ha with
  | @cons v0 vr _ _ h1 h2 =>
    cases r with
    | @cons _ u0 _ ur r1 r2 =>
      have hi := args_im h2
      have lr : ur.length ≤ sizeLine := by rw [← r2.length, hi.length]; exact smB (by omega)
      have hn : H s.heap.objs.size = Option.none := e0.hok.fresh (Nat.le_refl _)
      refine StX.run_bnd lk hcd Sc hr e0 (G := fun xs H2 => ∃ p, H p = Option.none ∧ xs = [v0, V.bl b, V.ref p] ∧ H2 = upd H p (.tup vr)) (fun A' Ex Q' h => ?_) fun s2 H2 xs ⟨p, hp, ex, eH⟩ hr' => ?_
      · have fin : wpAny (model P w) A' (newTuple ur >>= fun t => pure [(p0, u0), (key, Value.bool b), (pv, t)]) Q' Ex s := by
          refine wpAny_bind (wpAny_newTuple (wpAny_pure ?_) lr)
          have new : ObjOk P w (upd H s.heap.objs.size (.tup vr)) (s.heap.push ({ cls := .type "tuple", data := .seq ur.toArray } : Obj)) s.heap.objs.size (.tup vr) := ⟨by rw [r2.length]; exact lr, ur, r2, ⟨_, Heap.get?_push_size _ rfl, rfl, _, rfl⟩⟩
          have un := StX.un_laid (fs := frs outer) (s := s) (o := ({ cls := .type "tuple", data := .seq ur.toArray } : Obj)) (u := .tup vr) hn
          exact h _ _ [v0, V.bl b, V.ref s.heap.objs.size] [u0, Value.bool b, Value.ref s.heap.objs.size] (StX.env0_laid e0 new) un rfl (fun e s' z => z.elim) (.cons r1 (.cons rfl (.cons rfl .nil))) rfl ⟨_, hn, rfl, rfl⟩
        rcases hkw with ⟨rfl, rfl⟩ | rfl
        · obtain ⟨u, hu, ru⟩ := hns _ List.mem_cons_self
          cases (show u = Value.bool false from ru)
          obtain ⟨β, γ, k1, k2, k3, x, e1, e2, e3⟩ := hB D doc pm an cdv ct u0 (.bool false) ur
          have KX : K.In s.heap := e0.mod.kin.keeps fun b o e => (e0.bs b o e).1
          have l1 : PySem.W.Looks (model P w) s.heap (nsGet D key >>= k1) x := (PySem.W.looks_nsIn KX hu).andThen (PySem.W.Looks.of_pure e2)
          rw [e1, bind_assoc]
          refine wpAny_bind (l1.here ?_)
          rw [e3]
          exact fin
        · rw [hB1]
          exact fin
      · subst ex eH
        have sm := same_new (o := .tup vr) hp
        have hg := body f cdv A outer s2 (upd H p (.tup vr)) E hr'
        refine ⟨_, hg.nox, body_ok (E := E) (F := fun s as Q => ∃ a b rest, as = [.im a, .im (.bool b), .im (.tuple rest)] ∧ F s as Q) hl (fun s as Qd ⟨a, b, rest, e, hf⟩ => ?_) ⟨B0, z, _, Qd, trivial, fun a ha e => ?_, .cons (x := .im a) (Im.same h1 sm) (.cons (x := .im (.bool b)) (.bl b) (.cons (x := .im (.tuple rest)) (Im.tup upd_same (hi.same sm)) .nil)), ⟨a, b, rest, rfl, hf⟩, fun r s' v H' q ok' gr rr => ?_⟩⟩
        · subst e
          exact hd a b rest s Qd hf
        · cases e1 : H a with
          | none => exact hB0 a ha e1
          | some o => rw [sm a o e1] at e; cases e
        · exact hq r s' v H' q trivial (Gr.trans (Gr.of sm) gr) (rr.back (Z := Z0) (s1 := ()) trivial (Gr.of sm))
end
/-! ### its calls -/
section
variable {Z : Zn} {X : Cx} {e : Expr} {es : List Expr} {das : DA Z} {pos p cpos kpos : Pos} {k j : Nat} {n key : Str} {F : Bool → DF Z0}
theorem pe_V {t : TA} {sp : Bool → Sp} (D : DfV X.prog X.w X.K X.mg X.base k n key sp) (hr : Room j X.A) (ha : PA X (e :: es) t) (hj : k ≤ j) (hg : Gl X n)
    (hdb : (n == ("__debug__" : Str)) = false) (he : starEach (e :: es) X.env = (false, eval e X.env) :: starEach es X.env) (hpl : (backTo pos (starEach es X.env)).any (·.1) = false) : PE X (.Call (.Name n p) (e :: es) [] pos) (fun σ H Q => t σ H fun vs H1 => sp false vs H1 Q E0) := by
  obtain ⟨f, g, kp, run⟩ := D
  refine ⟨fun pins s σ H Q I h => ?_⟩
  refine wpAny_Call_Name_kw (ld_glob I hg g ?_ hdb)
  refine PySem.W.callWith_K (h₀ := X.base) I.ok.mod.kin kp (thn (ha.run pos pins s σ H _ I h) fun us s1 ⟨vs, H1, I1, r, q⟩ => ⟨I1.kIn, ?_⟩) he hpl
  refine wpAny_call (codeAny_mono (run false [] (.inl ⟨rfl, rfl⟩) X.A X.stack s1 H1 _ vs Q E0 (hr.mono hj) I1.env0 r q) fun r s' hq => ?_)
  cases r with
  | error e => exact pass0 pins σ H1 s1 e s' I1 hq
  | ok fl =>
    cases fl with
    | ret u => exact I1.after hq
    | next => exact False.elim hq
    | brk => exact False.elim hq
    | cont => exact False.elim hq
theorem pe_VK {t : TA} {sp : Bool → Sp} {b : Bool} {cj} (D : DfV X.prog X.w X.K X.mg X.base k n key sp) (hr : Room j X.A) (ha : PA X (e :: es) t) (hj : k ≤ j) (hg : Gl X n) (hall : (backToKw pos (keywordEach [⟨some key, .Constant (.bool b) cj cpos, kpos⟩] X.env)).all (·.1.isSome) = true) (hks : (backToKw pos (keywordEach [⟨some key, .Constant (.bool b) cj cpos, kpos⟩] X.env)).filterMap (·.1) = [key])
    (hdb : (n == ("__debug__" : Str)) = false) (he : starEach (e :: es) X.env = (false, eval e X.env) :: starEach es X.env) (hpl : ((backTo pos (starEach (e :: es) X.env)).any (·.1) || (backToKw pos (keywordEach [⟨some key, .Constant (.bool b) cj cpos, kpos⟩] X.env)).any (·.1.isNone)) = false) :
    PE X (.Call (.Name n p) (e :: es) [⟨some key, .Constant (.bool b) cj cpos, kpos⟩] pos) (fun σ H Q => t σ H fun vs H1 => sp b vs H1 Q E0) := by
  obtain ⟨f, g, kp, run⟩ := D
  refine ⟨fun pins s σ H Q I h => ?_⟩
  refine wpAny_Call_Name_kw (ld_glob I hg g ?_ hdb)
  refine PySem.W.callWith_KW (h₀ := X.base) I.ok.mod.kin kp hall (thn (ha.run pos pins s σ H _ I h) fun us s1 ⟨vs, H1, I1, r, q⟩ => ?_) hpl he
  refine thn ((pk_cons (nm := some key) (kpos := kpos) (pe_bl (b := b) (j := cj) (pos := cpos)) pk_nil).run pos pins s1 σ H1 (fun zs H2 => zs = [V.bl b] ∧ sp b vs H2 Q E0) I1 ⟨rfl, q⟩) fun ws s2 ⟨zs, H2, I2, rz, ez, q2⟩ => ⟨I2.kIn, ?_⟩
  subst ez
  rw [hks]
  cases rz with
  | @cons _ w0 _ wr r1 r2 =>
    cases r2
    cases (show w0 = Value.bool b from r1)
    refine wpAny_call (codeAny_mono (run b [(key, .bool b)] (.inr rfl) X.A X.stack s2 H2 _ vs Q E0 (hr.mono hj) I2.env0 r q2) fun r s' hq => ?_)
    cases r with
    | error e => exact pass0 pins σ H2 s2 e s' I2 hq
    | ok fl =>
      cases fl with
      | ret u => exact I2.after hq
      | next => exact False.elim hq
      | brk => exact False.elim hq
      | cont => exact False.elim hq
theorem de_callM (D : DfV X.prog X.w X.K X.mg X.base k n key fun b => spD Z0 (F b)) (hx : Passes CX0 X E0) (hr : Room j X.A) (ha : DAs Z X (e :: es) das) (hj : k ≤ j := by decide) (hg : Gl X n := by rfl)
    (hdb : (n == ("__debug__" : Str)) = false := by decide) (he : starEach (e :: es) X.env = (false, eval e X.env) :: starEach es X.env := by rfl) (hpl : (backTo pos (starEach es X.env)).any (·.1) = false := by rfl) : DE Z X (.Call (.Name n p) (e :: es) [] pos) (dCallP (F false) das) :=
  PE.of (pe_V D hr ha hj hg hdb he hpl) fun σ H Q h => by
    obtain ⟨B0, H0, ρ, s, Qd, R, hd, hq⟩ := lift_callP (E := E0) h
    refine ⟨B0, H0, ρ, s, Qd, R, hd, fun rs s1 vs H1 q R1 g1 r1 => ?_⟩
    have this : spD Z0 (F false) (vs ++ []) H1 Q E0 := hq rs s1 vs H1 q R1 g1 r1
    rw [List.append_nil] at this
    exact this
theorem de_callMK {b : Bool} {cj} (D : DfV X.prog X.w X.K X.mg X.base k n key fun b => spD Z0 (F b)) (hx : Passes CX0 X E0) (hr : Room j X.A) (ha : DAs Z X (e :: es) das) (hj : k ≤ j := by decide) (hg : Gl X n := by rfl)
    (hall : (backToKw pos (keywordEach [⟨some key, .Constant (.bool b) cj cpos, kpos⟩] X.env)).all (·.1.isSome) = true := by rfl) (hks : (backToKw pos (keywordEach [⟨some key, .Constant (.bool b) cj cpos, kpos⟩] X.env)).filterMap (·.1) = [key] := by rfl)
    (hdb : (n == ("__debug__" : Str)) = false := by decide) (he : starEach (e :: es) X.env = (false, eval e X.env) :: starEach es X.env := by rfl) (hpl : ((backTo pos (starEach (e :: es) X.env)).any (·.1) || (backToKw pos (keywordEach [⟨some key, .Constant (.bool b) cj cpos, kpos⟩] X.env)).any (·.1.isNone)) = false := by rfl) :
    DE Z X (.Call (.Name n p) (e :: es) [⟨some key, .Constant (.bool b) cj cpos, kpos⟩] pos) (dCallP (F b) das) :=
  PE.of (pe_VK D hr ha hj hg hall hks hdb he hpl) fun σ H Q h => by
    obtain ⟨B0, H0, ρ, s, Qd, R, hd, hq⟩ := lift_callP (E := E0) h
    refine ⟨B0, H0, ρ, s, Qd, R, hd, fun rs s1 vs H1 q R1 g1 r1 => ?_⟩
    have this : spD Z0 (F b) (vs ++ []) H1 Q E0 := hq rs s1 vs H1 q R1 g1 r1
    rw [List.append_nil] at this
    exact this
end
end Lf
namespace Lf
open PySem PySem.Spec PyProof.Rows L2
/-! ### sizes of what repr shows -/
structure Sw (k m : Nat) (d : PyData) : Prop where
  shows : d.showable = true
  deep : d.depth ≤ k
  short : d.shown.length ≤ m
theorem Sw.mono {k m k' m' : Nat} {d : PyData} (h : Sw k m d) (a : k ≤ k') (b : m ≤ m') : Sw k' m' d := ⟨h.shows, Nat.le_trans h.deep a, Nat.le_trans h.short b⟩
theorem Sw.all {k m : Nat} : ∀ {ds : List PyData}, (∀ d ∈ ds, Sw k m d) → PyData.showableAll ds = true ∧ PyData.depthAll ds ≤ k ∧ ((PyData.shownAll ds).map (·.length)).sum ≤ m * ds.length ∧ (PyData.shownAll ds).length = ds.length
  | [], _ => ⟨rfl, Nat.zero_le _, Nat.zero_le _, rfl⟩
  | d :: ds, h => by
    obtain ⟨h1, h2, h3, h4⟩ := Sw.all (ds := ds) fun y hy => h y (List.mem_cons_of_mem _ hy)
    have g := h d List.mem_cons_self
    refine ⟨?_, ?_, ?_, ?_⟩
    · show (PyData.showable d && PyData.showableAll ds) = true
      rw [g.shows, h1]
      rfl
    · show max (PyData.depth d) (PyData.depthAll ds) ≤ k
      exact Nat.max_le.mpr ⟨g.deep, h2⟩
    · show (PyData.shown d).length + ((PyData.shownAll ds).map (·.length)).sum ≤ m * (ds.length + 1)
      have := g.short
      rw [Nat.mul_succ]
      omega
    · show (PyData.shownAll ds).length + 1 = ds.length + 1
      rw [h4]
theorem Sw.tup {k m n : Nat} {ds : List PyData} (h : ∀ d ∈ ds, Sw k m d) (hn : ds.length ≤ n) : Sw (k + 1) ((m + 2) * n + 3) (.tuple ds) := by
  obtain ⟨h1, h2, h3, h4⟩ := Sw.all h
  refine ⟨h1, Nat.succ_le_succ h2, ?_⟩
  show (tupleText (PyData.shownAll ds)).length ≤ _
  have := tupleText_len_le (PyData.shownAll ds)
  rw [h4] at this
  have : (m + 2) * ds.length ≤ (m + 2) * n := Nat.mul_le_mul_left _ hn
  rw [Nat.add_mul] at this
  omega
theorem Sw.lst {k m n : Nat} {ds : List PyData} (h : ∀ d ∈ ds, Sw k m d) (hn : ds.length ≤ n) : Sw (k + 1) ((m + 2) * n + 3) (.list ds) := by
  obtain ⟨h1, h2, h3, h4⟩ := Sw.all h
  refine ⟨h1, Nat.succ_le_succ h2, ?_⟩
  show (listText (PyData.shownAll ds)).length ≤ _
  have := listText_len_le (PyData.shownAll ds)
  rw [h4] at this
  have : (m + 2) * ds.length ≤ (m + 2) * n := Nat.mul_le_mul_left _ hn
  rw [Nat.add_mul] at this
  omega
theorem Sw.int {i : Int} (h : i.natAbs < 10 ^ 12) : Sw 0 13 (.int i) := by
  refine ⟨decide_eq_true ?_, Nat.le_refl _, PyData.shown_int_le h⟩
  have h2 : i.natAbs < 2 ^ 1920 := Nat.lt_of_lt_of_le h (by decide +kernel)
  by_cases z : i.natAbs = 0
  · rw [z]; decide
  · exact (Nat.log2_lt z).mpr h2
theorem Sw.nat {x : Nat} (h : x < 10 ^ 12) : Sw 0 13 (.int (x : Nat)) := Sw.int (by rw [Int.natAbs_natCast]; exact h)
theorem Sw.bool (b : Bool) : Sw 0 5 (.bool b) := by cases b <;> exact ⟨rfl, Nat.le_refl _, by decide +kernel⟩
theorem Sw.none : Sw 0 5 .none := ⟨rfl, Nat.le_refl _, by decide +kernel⟩
theorem Sw.tupN {l : List Nat} {n : Nat} (h : ∀ x ∈ l, x < 10 ^ 12) (hn : l.length ≤ n) : Sw 1 (15 * n + 3) (Lf.tupN l) := Sw.tup (m := 13) (fun d hd => by
  obtain ⟨x, hx, e⟩ := List.mem_map.mp hd
  rw [← e]
  exact Sw.nat (h x hx)) (by rw [nD_len]; exact hn)
theorem Sw.lstN {l : List Nat} {n : Nat} (h : ∀ x ∈ l, x < 10 ^ 12) (hn : l.length ≤ n) : Sw 1 (15 * n + 3) (.list (nD l)) := Sw.lst (m := 13) (fun d hd => by
  obtain ⟨x, hx, e⟩ := List.mem_map.mp hd
  rw [← e]
  exact Sw.nat (h x hx)) (by rw [nD_len]; exact hn)
theorem Sw.fits {k m : Nat} {d : PyData} (h : Sw k m d) (a : k ≤ 100) (b : m ≤ 10000000) : d.showable = true ∧ d.depth ≤ 100 ∧ d.shown.length ≤ sizeLine := ⟨h.shows, Nat.le_trans h.deep a, Nat.le_trans h.short (Nat.le_trans b (by rw [sizeLine_eq]; omega))⟩
theorem Sw.forest {fs : List Nat} (F : Forest fs) : Sw 1 363 (Lf.tupN fs) := Sw.tupN (n := 24) (fun x hx => by
  obtain ⟨i, hi⟩ := List.getElem?_of_mem hx
  have := F.rng i (List.getElem?_eq_some_iff.mp hi).1
  unfold par at this
  rw [List.getD_eq_getElem?_getD, hi] at this
  have := F.few
  have : x < fs.length := by assumption
  omega) F.few
/-- the two sides show alike -/
theorem ne_same (z : Str) : (!decide (z = z)) = false := by rw [decide_eq_true rfl]; rfl
end Lf
namespace Lf
open PySem PySem.Spec PyProof.Rows L2
/-! ### what is not asked exactly: tests with any outcome, comprehensions of which only the items are known, drawn values -/
theorem ite_both {c : Prop} [Decidable c] {A B : Prop} (a : A) (b : B) : if c then A else B := by
  by_cases h : c
  · rw [if_pos h]; exact a
  · rw [if_neg h]; exact b
theorem lcR_prop {Z : Zn} {ρ : List Sl} {R : PyData → Prop} {g : DG Z} {tt : DT Z} {te : DX Z} {s : Z.S} {Q : List PyData → Z.S → Prop} : ∀ {items acc : List PyData}, (∀ d ∈ items, ∀ C : Option PyData → Z.S → Prop, C none s → (∀ x, R x → C (some x) s) → g d ρ fun ρ' => tt s ρ' fun b s1 => if b = true then te s1 ρ' fun r s2 => ∃ x, r.st = some x ∧ C (some x) s2 else C none s1) → acc.length + items.length ≤ 1000000 → (∀ x ∈ acc, R x) →
    (∀ l : List PyData, l.length ≤ acc.length + items.length → (∀ x ∈ l, R x) → Q l s) → lcR g tt te ρ items s acc Q
  | [], acc, _, _, ha, q => q acc (by show _ ≤ _ + 0; omega) ha
  | d :: ds, acc, h, hl, ha, q => by
    rw [List.length_cons] at hl
    refine h d List.mem_cons_self (fun o s1 => match o with
      | some x => acc.length < 1000000 ∧ lcR g tt te ρ ds s1 (acc ++ [x]) Q
      | none => lcR g tt te ρ ds s1 acc Q) ?_ ?_
    · exact lcR_prop (fun d' hd' => h d' (List.mem_cons_of_mem _ hd')) (by omega) ha fun l hl' => q l (by rw [List.length_cons]; omega)
    · intro x hx
      refine ⟨by omega, lcR_prop (fun d' hd' => h d' (List.mem_cons_of_mem _ hd')) (by rw [List.length_append]; show acc.length + 1 + _ ≤ _; omega) (fun y hy => ?_) fun l hl' => q l (by rw [List.length_append] at hl'; rw [List.length_cons]; have : l.length ≤ acc.length + 1 + ds.length := hl'; omega)⟩
      rcases List.mem_append.mp hy with z | z
      · exact ha y z
      · rw [List.mem_singleton.mp z]; exact hx
/-- rows of values that repr shows shortly -/
structure Ts (n : Nat) (ds : List PyData) : Prop where
  len : ds.length ≤ n
  it : ∀ d ∈ ds, Sw 4 400 d
theorem Ts.nil {n : Nat} : Ts n [] := ⟨Nat.zero_le _, fun _ h => absurd h List.not_mem_nil⟩
theorem Ts.one {d : PyData} (h : Sw 4 400 d) : Ts 1 [d] := ⟨Nat.le_refl _, fun x hx => by rw [List.mem_singleton.mp hx]; exact h⟩
theorem Ts.mono {n m : Nat} {ds : List PyData} (h : Ts n ds) (le : n ≤ m) : Ts m ds := ⟨Nat.le_trans h.len le, h.it⟩
theorem Ts.app {n m : Nat} {ds es : List PyData} (h : Ts n ds) (k : Ts m es) : Ts (n + m) (ds ++ es) := ⟨by rw [List.length_append]; have := h.len; have := k.len; omega, fun d hd => (List.mem_append.mp hd).elim (h.it d) (k.it d)⟩
theorem Ts.rev {n : Nat} {ds : List PyData} (h : Ts n ds) : Ts n ds.reverse := ⟨by rw [List.length_reverse]; exact h.len, fun d hd => h.it d (List.mem_reverse.mp hd)⟩
theorem Ts.cut {n : Nat} {ds : List PyData} (h : Ts n ds) (lo hi : Option Int) : Ts n (cutD ds lo hi) := by
  unfold cutD
  refine ⟨?_, fun d hd => h.it d (List.mem_of_mem_drop (List.mem_of_mem_take hd))⟩
  rw [List.length_take, List.length_drop]
  have := h.len
  omega
theorem Ts.nD {n : Nat} {l : List Nat} (h : ∀ x ∈ l, x < 10 ^ 12) (hl : l.length ≤ n) : Ts n (nD l) := ⟨by rw [nD_len]; exact hl, fun d hd => by
  obtain ⟨x, hx, rfl⟩ := List.mem_map.mp hd
  exact (Sw.nat (h x hx)).mono (by decide) (by decide)⟩
theorem Ts.fit {n m : Nat} {ds es : List PyData} (h : Ts n ds) (k : Ts m es) (le : n + m ≤ 1000000 := by decide) : ds.length + es.length ≤ 1000000 := Nat.le_trans (Nat.add_le_add h.len k.len) le
/-- values that a law asks about -/
structure Vd (d : PyData) : Prop where
  sw : Sw 5 100000 d
  len : ∀ ds, d = .tuple ds → ds.length ≤ 200
theorem Ts.tup {n : Nat} {ds : List PyData} (h : Ts n ds) (hn : n ≤ 200) : Vd (.tuple ds) := ⟨(Sw.tup h.it h.len).mono (Nat.le_refl _) (by have : 402 * n ≤ 402 * 200 := Nat.mul_le_mul_left _ hn; omega), fun es e => by cases e; exact Nat.le_trans h.len hn⟩
theorem Ts.lst {n : Nat} {ds : List PyData} (h : Ts n ds) (hn : n ≤ 200) : Vd (.list ds) := ⟨(Sw.lst h.it h.len).mono (Nat.le_refl _) (by have : 402 * n ≤ 402 * 200 := Nat.mul_le_mul_left _ hn; omega), fun es e => by cases e⟩
theorem Vd.all {ds es : List PyData} (h : ∀ d ∈ ds, Vd d) (k : ∀ d ∈ es, Vd d) : ∀ d ∈ ds ++ es, Vd d := fun d hd => (List.mem_append.mp hd).elim (h d) (k d)
theorem Vd.cons {d : PyData} {es : List PyData} (h : Vd d) (k : ∀ d ∈ es, Vd d) : ∀ x ∈ d :: es, Vd x := fun x hx => (List.mem_cons.mp hx).elim (fun z => z ▸ h) (k x)
theorem Vd.nil : ∀ x ∈ ([] : List PyData), Vd x := fun _ h => absurd h List.not_mem_nil
end Lf
namespace Lf
open PySem PySem.Spec PyProof.Rows L2
/-! ### t[::-1] of any tuple -/
section
variable {X : Cx}
def tRevS (K : PySem.W.Frag) (te : TE) : TE := fun σ H Q => te σ H fun x H1 => ∃ (a : Addr) (xs : List V), x = .ref a ∧ SqT K H1 a xs ∧ ∀ p, H1 p = none → Q (.ref p) (upd H1 p (.tup xs.reverse))
theorem pe_revS {e : Expr} {te : TE} {k : Nat} {p1 p2 p3 pos : Pos} (he : PE X e te) : PE X (.Subscript e (.Slice none none (some (.UnaryOp .USub (.Constant (.int 1) k p1) p2)) p3) pos) (tRevS X.K te) := by
  refine ⟨fun pins s σ H Q I h => ?_⟩
  refine Subscript_ (thn (he.run pins s σ H _ I h) ?_)
  rintro v s1 ⟨x, H1, I1, r1, a, xs, rfl, hx, q⟩
  cases (show v = Value.ref a from r1)
  have hst : PE X (.UnaryOp .USub (.Constant (.int 1) k p1) p2) (tUn (rU fun i => .int (-i)) (tC (.int 1))) := pe_un un_neg pe_int
  refine wpAny_Slice (thn (po_none.run pins s1 σ H1 (fun o G => o = none ∧ G = H1) I1 ⟨rfl, rfl⟩) ?_)
  rintro vl s2 ⟨ol, G2, I2, pl, rfl, rfl⟩
  refine thn (po_none.run pins s2 σ G2 (fun o G => o = none ∧ G = G2) I2 ⟨rfl, rfl⟩) ?_
  rintro vu s3 ⟨ou, G3, I3, pu, rfl, rfl⟩
  cases pl
  cases pu
  rw [evalPart_some]
  refine thn (hst.run pins s3 σ G3 (fun y G => y = .int (-1) ∧ G = G3) I3 ⟨1, rfl, rfl, rfl⟩) ?_
  rintro vs s4 ⟨y, H4, I4, ry, rfl, rfl⟩
  obtain ⟨tk, rfl⟩ := ry
  have I5 : Inv X pins σ H4 { s4 with heap := s4.heap.push { cls := .type "slice", data := .fields #[.none, .none, .int (-1) tk] } } := I4.kept (t' := s4.toks) fun b ob z => Heap.get?_push_of_some _ z
  obtain ⟨its, rv, plain, small⟩ := I5.tuple hx
  have same := rv.length
  show wpAny (model X.prog X.w) X.A (subscriptTail e (.Slice none none (some (.UnaryOp .USub (.Constant (.int 1) k p1) p2)) p3) (.ref a) (.ref s4.heap.objs.size)) (EP X pins σ Q) X.xe { s4 with heap := s4.heap.push { cls := .type "slice", data := .fields #[.none, .none, .int (-1) tk] } }
  refine tail_any (ops := [.ref a, .ref s4.heap.objs.size]) plain.typeIs (PyProof.Rows.slot_tuple_getitem.lookup) ?_ (by with_unfolding_all rfl)
  refine getBackA plain (Heap.IsSliceOf.new _ _ _ _) (same ▸ small) ?_
  refine ⟨.ref _, _, I5.laid (t' := s4.toks) (o := .tup xs.reverse) (fun b ob z => Heap.get?_push_of_some _ z) (Nat.le_refl _) ?_, rfl, q _ (I5.hok.fresh (Nat.le_refl _))⟩
  exact ⟨by rw [List.length_reverse]; exact small, its.reverse, rv.reverse, IsTup.new _ _⟩
variable {Z : Zn} {e : Expr} {de : DX Z} {k : Nat} {p1 p2 p3 pos : Pos}
def opRevT : Rv → (Rv → Prop) → Prop := fun x Q => match x.D with
  | some (.tuple l) => Q (.im (.tuple l.reverse))
  | _ => False
theorem de_rev (he : DE Z X e de) : DE Z X (.Subscript e (.Slice none none (some (.UnaryOp .USub (.Constant (.int 1) k p1) p2)) p3) pos) (dUn opRevT de) := by
  refine PE.of (pe_revS he) fun σ H Q ⟨B0, H0, ρ, s, Qd, R, hd, hq⟩ => ?_
  refine ⟨B0, H0, ρ, s, _, R, hd, fun x s1 v H1 qx R1 g1 r1 => ?_⟩
  unfold opRevT at qx
  split at qx
  · rename_i l e1
    obtain ⟨a, xs, rfl, h1, h2⟩ := r1.tup (K := X.K) e1
    refine ⟨a, xs, rfl, h1, fun p hp => hq _ s1 _ _ qx (R1.same (same_new hp)) (g1.trans (Gr.of (same_new hp))) ?_⟩
    exact (newT hp h2.reverse).back R1.ok g1
  · exact qx.elim
end
end Lf
namespace Lf
open PySem PySem.Spec PyProof.Rows L2
/-! ### xs != [] of a list with any items -/
section
variable {Z : Zn} {X : Cx} {a b : Expr} {da db : DX Z} {pos : Pos} {K : PySem.W.Frag}
def opNeE : Op := fun x y Q => match x.D, y.D with
  | some (.list l), some (.list []) => Q (.im (.bool (!l.isEmpty)))
  | _, _ => False
theorem o2_neE : Op2 K (fun x y H Q => ∃ (a b : Addr) (xs : List V), x = .ref a ∧ y = .ref b ∧ SqL K H a xs ∧ H b = some (.lst []) ∧ Q (.bl (!xs.isEmpty)) H) opNeE := by
  intro Z B0 ρ s H0 σ Ha Hb H v u x y Qd Q R rx ry q k
  unfold opNeE at q
  split at q
  · rename_i l e1 e2
    obtain ⟨a, xs, rfl, h1, h2⟩ := rx.lst e1
    obtain ⟨b, ys, rfl, h3, h4⟩ := ry.lst e2
    cases h4
    refine ⟨a, b, xs, rfl, rfl, SqL.of h1, h3, ?_⟩
    have e : xs.isEmpty = l.isEmpty := by cases h2 <;> rfl
    rw [e]
    exact k _ _ _ q (Same.refl H) (Im.bl _)
  · exact q.elim
theorem dt_neE (hu : X.A.units + 65 < cLine) (ha : DE Z X a da) (hb : DE Z X b db) (hm : behindInMarks .NotEq b = false := by rfl) : DTs Z X (.Compare a [.NotEq] [b] pos) (dTst (dBin opNeE da db)) := dt_cmp (op_neEL (by omega)) o2_neE ha hb hm
theorem de_neE (hu : X.A.units + 65 < cLine) (ha : DE Z X a da) (hb : DE Z X b db) (hm : behindInMarks .NotEq b = false := by rfl) : DE Z X (.Compare a [.NotEq] [b] pos) (dBin opNeE da db) := PE.of (pe_cmpR (op_neEL (by omega)) ha hb hm) fun σ H Q h => lift_bin (K := X.K) o2_neE h
end
end Lf
namespace Lf
open PySem PySem.Spec PyProof.Rows L2
/-! ### min(t) of a tuple of ints -/
section
variable {Z : Zn} {X : Cx} {e : Expr} {es : List Expr} {das : DA Z} {pos p : Pos}
theorem foldl_min (n : Int) : ∀ ns : List Int, ns.foldl min n ∈ n :: ns ∧ ∀ y ∈ n :: ns, ns.foldl min n ≤ y := fun ns => by
  induction ns generalizing n with
  | nil => exact ⟨List.mem_cons_self, fun y hy => by rw [List.mem_singleton.mp hy]; exact Int.le_refl _⟩
  | cons m ns ih =>
    rw [List.foldl_cons]
    obtain ⟨h1, h2⟩ := ih (min n m)
    refine ⟨?_, fun y hy => ?_⟩
    · rcases List.mem_cons.mp h1 with h | h
      · rw [h]
        rcases Int.le_total n m with z | z
        · rw [Int.min_eq_left z]; simp
        · rw [Int.min_eq_right z]; simp
      · exact List.mem_cons_of_mem _ (List.mem_cons_of_mem _ h)
    · have h3 := h2 (min n m) List.mem_cons_self
      rcases List.mem_cons.mp hy with rfl | hy
      · exact Int.le_trans h3 (Int.min_le_left _ _)
      · rcases List.mem_cons.mp hy with rfl | hy
        · exact Int.le_trans h3 (Int.min_le_right _ _)
        · exact h2 y (List.mem_cons_of_mem _ hy)
theorem cr_minT (hc : X.calm = true) (hu : X.A.units + 65 < cLine) : CallR X (.builtin "min") (fun vs H Q => ∃ (a : Addr) (ns : List Int), vs = [V.ref a] ∧ SqT X.K H a (ns.map V.int) ∧ 0 < ns.length ∧ ∀ m, m ∈ ns → (∀ y ∈ ns, m ≤ y) → Q (.int m) H) := by
  intro pins s σ H vs us Q I r h
  obtain ⟨a, ns, rfl, hs, hne, q⟩ := h
  obtain ⟨u, rfl, r1⟩ := vals1 r
  cases (show u = Value.ref a from r1)
  obtain ⟨its, rv, ht, _⟩ := I.tuple hs
  cases ns with
  | nil => exact absurd hne (Nat.lt_irrefl 0)
  | cons n ns =>
    obtain ⟨as, ra⟩ := Dp.readsAll I ((n :: ns).map PyData.int) _ its (dpInts (K := X.K) (H := H) (n :: ns)) rv
    refine PySem.W.min_tuple_data (x := .int n) (xs := ns.map .int) (as := as) (I.ok.hd hc) ht ra (alike_ints (n :: ns)) ?_ fun i v h' tk bs hi rd hk => ?_
    · have := deepInts (n :: ns)
      show X.A.units + 1 + PyData.depthAll ((n :: ns).map PyData.int) < cLine
      rw [this]
      omega
    · rw [PySem.W.minD_ints] at rd
      cases rd with
      | int i t =>
        obtain ⟨h1, h2⟩ := foldl_min n ns
        exact ⟨.int _, H, I.kept hk, ⟨_, rfl⟩, q _ h1 h2⟩
def opMinT : Cb := fun rs Q => match rs with
  | [x] => match x.D with
    | some (.tuple l) => ∃ ns : List Int, l = ns.map .int ∧ 0 < ns.length ∧ ∀ m, m ∈ ns → (∀ y ∈ ns, m ≤ y) → Q (.im (.int m))
    | _ => False
  | _ => False
theorem de_minT (hc : X.calm = true) (hu : X.A.units + 65 < cLine) (hg : Gl X "min") (hm : X.mg "min" = none) (ha : DAs Z X (e :: es) das) (he : starEach (e :: es) X.env = (false, eval e X.env) :: starEach es X.env := by rfl) (hpl : (backTo pos (starEach es X.env)).any (·.1) = false := by rfl) : DE Z X (.Call (.Name "min" p) (e :: es) [] pos) (dCB opMinT das) := by
  refine PE.of (pe_callB (cr_minT hc hu) hg hm (by decide +kernel) ha (by decide) (by decide) he hpl) fun σ H Q h => lift_cb ?_ h
  intro Z B0 ρ s H0 σ Ha H vs xs Qd Q R rr q k
  unfold opMinT at q
  split at q
  · obtain ⟨v, rfl, r1⟩ := rr.one
    split at q
    · rename_i l e1
      obtain ⟨ns, rfl, hn, q⟩ := q
      obtain ⟨a, ys, rfl, h1, h2⟩ := r1.tup (K := X.K) e1
      rw [nums_of h2] at h1
      exact ⟨a, ns, rfl, h1, hn, fun m hm up => k _ _ _ (q m hm up) (Same.refl H) (Im.int _)⟩
    · exact q.elim
  · exact q.elim
end
end Lf
namespace Lf
open PySem PySem.Spec PyProof.Rows L2
/-! ## statements and defs that may raise an own error -/
/-- an error's field and what it holds; none for an error without fields -/
abbrev Er := Option (Str × PyData)
def ErrAt (B : Addr → Prop) (H : Hp) : Er → Option Addr → Prop
  | none, none => True
  | some (f, d), some dx => ∃ v, H dx = some (.xd [(f, v)]) ∧ Im B H v d
  | _, _ => False
theorem ErrAt.bad {B B' : Addr → Prop} {H : Hp} {o : Er} {dx : Option Addr} (hB : ∀ a, B' a → B a) (h : ErrAt B H o dx) : ErrAt B' H o dx := by
  cases o with
  | none => cases dx with
    | none => trivial
    | some _ => exact h.elim
  | some p => cases dx with
    | none => exact h.elim
    | some dx =>
      obtain ⟨v, h1, h2⟩ := h
      exact ⟨v, h1, Im.bad hB h2⟩
def cleanO : Er → Bool
  | none => true
  | some (_, d) => noL d
theorem ErrAt.free {B B' : Addr → Prop} {H : Hp} {o : Er} {dx : Option Addr} (hc : cleanO o = true) (h : ErrAt B H o dx) : ErrAt B' H o dx := by
  cases o with
  | none => cases dx with
    | none => trivial
    | some _ => exact h.elim
  | some p => cases dx with
    | none => exact h.elim
    | some dx =>
      obtain ⟨v, h1, h2⟩ := h
      exact ⟨v, h1, Im.free hc h2⟩
def okE (rs : List Rv) (o : Er) : Prop := rs.any isBo = false ∨ cleanO o = true
structure DEx (Z : Zn) where
  e : DEnds Z
  xr : Addr → Er → Z.S → List Sl → Prop
abbrev DSx (Z : Zn) := DEx Z → Z.S → List Sl → Prop
abbrev DXx (Z : Zn) := Z.S → List Sl → (Rv → Z.S → Prop) → (Addr → Er → Z.S → Prop) → Prop
def liftX (Z : Zn) (W : WX) (d : DSx Z) : TS := fun D σ H => ∃ (B0 : Addr → Prop) (H0 : Hp) (ρ : List Sl) (s : Z.S) (De : DEx Z), Rel Z B0 H0 ρ s σ H ∧ d De s ρ ∧
  (∀ s' ρ' σ' H', De.e.nx s' ρ' → Rel Z B0 H0 ρ' s' σ' H' → Stp Z B0 ρ H ρ' H' → D.nx σ' H') ∧
  (∀ s' ρ' σ' H', De.e.bk s' ρ' → Rel Z B0 H0 ρ' s' σ' H' → Stp Z B0 ρ H ρ' H' → D.bk σ' H') ∧
  (∀ s' ρ' σ' H', De.e.ct s' ρ' → Rel Z B0 H0 ρ' s' σ' H' → Stp Z B0 ρ H ρ' H' → D.ct σ' H') ∧
  (∀ r s' v H', De.e.rt r s' → Z.ok s' H' → Gr Z H0 H' → RvR Z B0 [] H0 H' v r → D.rt v H') ∧
  (∀ C o s' ρ' σ' dx H', De.xr C o s' ρ' → Rel Z B0 H0 ρ' s' σ' H' → Stp Z B0 ρ H ρ' H' → ErrAt (Bad Z B0 ρ') H' o dx → W (.ref C) dx σ' H')
def liftEX (Z : Zn) (W : WX) (d : DXx Z) : TE := fun σ H Q => ∃ (B0 : Addr → Prop) (H0 : Hp) (ρ : List Sl) (s : Z.S) (Qd : Rv → Z.S → Prop) (Xd : Addr → Er → Z.S → Prop), Rel Z B0 H0 ρ s σ H ∧ d s ρ Qd Xd ∧
  (∀ r s' v H', Qd r s' → Rel Z B0 H0 ρ s' σ H' → Gr Z H H' → RvR Z B0 ρ H H' v r → Q v H') ∧
  (∀ C o s' dx H', Xd C o s' → Rel Z B0 H0 ρ s' σ H' → Gr Z H H' → ErrAt (Bad Z B0 ρ) H' o dx → W (.ref C) dx σ H')
abbrev DFX (Z : Zn) := Z.S → List Sl → (Rv → Z.S → Prop) → (Addr → Er → Z.S → Prop) → Prop
def spX (Z : Zn) (F : DFX Z) : Sp := fun vs H Q E => ∃ (B0 : Addr → Prop) (s : Z.S) (as : List Sl) (Qd : Rv → Z.S → Prop) (Xd : Addr → Er → Z.S → Prop), Z.ok s H ∧ (∀ a, B0 a → H a ≠ none) ∧ ArgRs (Bad Z B0 []) H vs as ∧ F s as Qd Xd ∧
  (∀ r s' v H', Qd r s' → Z.ok s' H' → Gr Z H H' → RvR Z B0 [] H H' v r → Q v H') ∧ (∀ C o s' dx H', Xd C o s' → Z.ok s' H' → Gr Z H H' → ErrAt (Bad Z B0 []) H' o dx → E (.ref C) dx H')
section
variable {Z : Zn} {X : Cx} {W : WX} {B0 : Addr → Prop} {H0 H H1 H2 : Hp} {ρ ρ1 ρ2 : List Sl} {s s1 s2 : Z.S} {σ : L2.St} {e a b c tg : Expr} {es rest : List Expr} {de da db dc : DX Z} {dt du : DT Z} {das : DA Z} {pos p : Pos} {st : Stmt} {sts as bs : List Stmt} {d : DSt Z} {t u : DSx Z} {q q' : DXx Z}
def emb (d : DSt Z) : DSx Z := fun De s ρ => d De.e s ρ
theorem dx_of (h : DS Z X st d) : PS X st (liftX Z W (emb d)) := PS.of h fun D σ H ⟨B0, H0, ρ, s, De, R, hd, hn, hb, hc, hr, _⟩ => ⟨B0, H0, ρ, s, De.e, R, hd, hn, hb, hc, hr⟩
theorem dxs_of (h : DSs Z X sts d) : PSs X sts (liftX Z W (emb d)) := PSs.of h fun D σ H ⟨B0, H0, ρ, s, De, R, hd, hn, hb, hc, hr, _⟩ => ⟨B0, H0, ρ, s, De.e, R, hd, hn, hb, hc, hr⟩
theorem dxs_nox (h : DSs Z X.nox sts d) : PSs X sts (liftX Z W (emb d)) := PSs.nox (PSs.of h fun D σ H ⟨B0, H0, ρ, s, De, R, hd, hn, hb, hc, hr, _⟩ => ⟨B0, H0, ρ, s, De.e, R, hd, hn, hb, hc, hr⟩)
def xSeq (t u : DSx Z) : DSx Z := fun De s ρ => t { De with e := { De.e with nx := u De } } s ρ
theorem dx_nil : PSs X [] (liftX Z W fun De s ρ => De.e.nx s ρ) := PSs.of pss_nil fun D σ H ⟨B0, H0, ρ, s, De, R, hd, hn, _⟩ => hn s ρ σ H hd R Stp.refl
theorem dx_cons (h1 : PS X st (liftX Z W t)) (h2 : PSs X sts (liftX Z W u)) : PSs X (st :: sts) (liftX Z W (xSeq t u)) := by
  refine PSs.of (pss_cons h1 h2) fun D σ H ⟨B0, H0, ρ, s, De, R, hd, hn, hb, hc, hr, hx⟩ => ?_
  refine ⟨B0, H0, ρ, s, _, R, hd, fun s1 ρ1 σ1 H1 q R1 st => ?_, hb, hc, hr, hx⟩
  exact ⟨B0, H0, ρ1, s1, De, R1, q, fun s2 ρ2 σ2 H2 q R2 st2 => hn s2 ρ2 σ2 H2 q R2 (st.trans R1 st2), fun s2 ρ2 σ2 H2 q R2 st2 => hb s2 ρ2 σ2 H2 q R2 (st.trans R1 st2), fun s2 ρ2 σ2 H2 q R2 st2 => hc s2 ρ2 σ2 H2 q R2 (st.trans R1 st2), hr, fun C o s2 ρ2 σ2 dx H2 q R2 st2 => hx C o s2 ρ2 σ2 dx H2 q R2 (st.trans R1 st2)⟩
theorem dx_one (h1 : PS X st (liftX Z W t)) : PSs X [st] (liftX Z W t) := pss_one h1
def xIf (c : DT Z) (t u : DSx Z) : DSx Z := fun De s ρ => c s ρ fun b s1 => if b = true then t De s1 ρ else u De s1 ρ
theorem dx_if (hc : DTs Z X c dt) (ha : PSs X as (liftX Z W t)) (hb : PSs X bs (liftX Z W u)) : PS X (.If c as bs pos) (liftX Z W (xIf dt t u)) := by
  refine PS.of (ps_if hc ha hb) fun D σ H ⟨B0, H0, ρ, s, De, R, hd, hn, hb, hc, hr, hx⟩ => ?_
  refine ⟨B0, H0, ρ, s, _, R, hd, fun b s1 H1 q R1 g => ?_⟩
  have st := g.stp R
  cases b with
  | true => exact ⟨B0, H0, ρ, s1, De, R1, q, fun s2 ρ2 σ2 H2 q R2 st2 => hn s2 ρ2 σ2 H2 q R2 (st.trans R1 st2), fun s2 ρ2 σ2 H2 q R2 st2 => hb s2 ρ2 σ2 H2 q R2 (st.trans R1 st2), fun s2 ρ2 σ2 H2 q R2 st2 => hc s2 ρ2 σ2 H2 q R2 (st.trans R1 st2), hr, fun C o s2 ρ2 σ2 dx H2 q R2 st2 => hx C o s2 ρ2 σ2 dx H2 q R2 (st.trans R1 st2)⟩
  | false => exact ⟨B0, H0, ρ, s1, De, R1, q, fun s2 ρ2 σ2 H2 q R2 st2 => hn s2 ρ2 σ2 H2 q R2 (st.trans R1 st2), fun s2 ρ2 σ2 H2 q R2 st2 => hb s2 ρ2 σ2 H2 q R2 (st.trans R1 st2), fun s2 ρ2 σ2 H2 q R2 st2 => hc s2 ρ2 σ2 H2 q R2 (st.trans R1 st2), hr, fun C o s2 ρ2 σ2 dx H2 q R2 st2 => hx C o s2 ρ2 σ2 dx H2 q R2 (st.trans R1 st2)⟩
def xFor (wi : DI Z) (g : DG Z) (tb : DSx Z) : DSx Z := fun De s ρ => wi s ρ fun items fz s1 => fz = true ∧ ∃ I : Nat → Z.S → List Sl → Prop, I 0 s1 ρ ∧
  (∀ k d s ρ, items[k]? = some d → I k s ρ → g d ρ fun ρ' => tb { De with e := { De.e with nx := I (k + 1), ct := I (k + 1), bk := De.e.nx } } s ρ') ∧ ∀ s ρ, I items.length s ρ → De.e.nx s ρ
theorem dx_for {iter : Expr} {body : List Stmt} {wi : DI Z} {g : DG Z} (hp : PassesOwn (model X.prog X.w) X.A X.env X.xe) (hc : X.calm = true) (hi : DIs Z X tg iter wi) (hg : DGs Z X tg g) (hb : PSs X body (liftX Z W t)) (hs : ∀ x, foldedSetIterable iter X.env x = pure x := by intro _; rfl) : PS X (.For tg iter body [] pos) (liftX Z W (xFor wi g t)) := by
  refine PS.of (ps_for hp hc hi hg hb hs) fun D σ H ⟨B0, H0, ρ, s, De, R, hd, hn, hbk, hct, hr, hx⟩ => ?_
  refine ⟨B0, H0, ρ, s, _, R, hd, fun items fz s1 J H1 q R1 g1 ok => ?_⟩
  obtain ⟨rfl, I, i0, turn, fin⟩ := q
  have st1 := g1.stp R
  refine ⟨fun i m σ' H' => m = items.length - i ∧ i ≤ items.length ∧ ∃ s' ρ', I i s' ρ' ∧ Rel Z B0 H0 ρ' s' σ' H' ∧ Stp Z B0 ρ H1 ρ' H', ⟨items.length, by simp, Nat.zero_le _, s1, ρ, i0, R1, Stp.refl⟩, ?_⟩
  rintro i m σ2 H2 ⟨rfl, hi, s2, ρ2, i2, R2, st2⟩
  have k2 : ∀ b o, H1 b = some o → ¬ Bad Z B0 ρ b → H2 b = some o ∧ ¬ Bad Z B0 ρ2 b := fun b o e n => ⟨st2.keep b o e n, fun z => by
    rcases z with z | z | z
    · exact n (.inl z)
    · exact n (.inr (.inl z))
    · rcases st2.owns b z with z | z
      · exact n (.inr (.inr z))
      · rw [z] at e; cases e⟩
  obtain ⟨go, yl, stop⟩ := ok H2 (Bad Z B0 ρ2) (fun b o e n => st2.keep b o e n) k2 st2.tups st2.frzs
  by_cases hlt : i < items.length
  · refine .inr ⟨go i hlt, fun σ' H' => ∃ s' ρ', I (i + 1) s' ρ' ∧ Rel Z B0 H0 ρ' s' σ' H' ∧ Stp Z B0 ρ H1 ρ' H', fun σ' H' h => ⟨items.length - (i + 1), by omega, rfl, hlt, h⟩, fun x H' hy => ?_⟩
    obtain ⟨sm, im⟩ := yl i items[i] x H' (List.getElem?_eq_getElem hlt) hy
    have R3 := R2.same sm
    have st3 := st2.trans R2 (Gr.stp (H1 := H') R2 (Gr.of sm))
    refine ⟨B0, H0, ρ2, s2, items[i], _, R3, im, turn i _ s2 ρ2 (List.getElem?_eq_getElem hlt) i2, fun ρ3 σ3 q3 R4 ho => ?_⟩
    have st4 : Stp Z B0 ρ H1 ρ3 H' := ⟨st3.keep, st3.tups, st3.frzs, fun a ha => st3.owns a (ho a ha)⟩
    exact ⟨B0, H0, ρ3, s2, _, R4, q3, fun s5 ρ5 σ5 H5 q5 R5 st5 => ⟨s5, ρ5, q5, R5, st4.trans R4 st5⟩, fun s5 ρ5 σ5 H5 q5 R5 st5 => hn s5 ρ5 σ5 H5 q5 R5 (st1.trans R1 (st4.trans R4 st5)), fun s5 ρ5 σ5 H5 q5 R5 st5 => ⟨s5, ρ5, q5, R5, st4.trans R4 st5⟩, hr, fun C o s5 ρ5 σ5 dx H5 q5 R5 st5 => hx C o s5 ρ5 σ5 dx H5 q5 R5 (st1.trans R1 (st4.trans R4 st5))⟩
  · have e : i = items.length := by omega
    subst e
    exact .inl ⟨stop, hn s2 ρ2 σ2 H2 (fin s2 ρ2 i2) R2 (st1.trans R1 st2)⟩
/-! ### raise -/
def xRaise (C : Addr) (f : Str) (da : DA Z) : DSx Z := fun De s ρ => da s ρ fun rs s1 => ∃ r d, rs = [r] ∧ r.st = some d ∧ De.xr C (some (f, d)) s1 ρ
theorem dx_raise {nm f : Str} {C : Addr} {j : Nat} {pos' : Pos} (tk : Takes X W) (hc : X.calm = true) (R : ErrF X.prog X.w X.K X.mg X.base nm f C) (hr : Room j X.A) (ha : DAs Z X (e :: es) das) (hj : 2 ≤ j := by decide) (hg : Gl X nm := by rfl)
    (hdb : (nm == ("__debug__" : Str)) = false := by decide) (he : starEach (e :: es) X.env = (false, eval e X.env) :: starEach es X.env := by rfl) (hpl : (backTo pos (starEach es X.env)).any (·.1) = false := by rfl) :
    PS X (.Raise (some (.Call (.Name nm p) (e :: es) [] pos)) none pos') (liftX Z W (xRaise C f das)) := by
  refine PS.of (ps_raise hc tk (pmk_err R hr ha hj hg hdb he hpl)) fun D σ H ⟨B0, H0, ρ, s, De, R, hd, hn, hb, hc, hr, hx⟩ => ?_
  refine ⟨B0, H0, ρ, s, _, R, hd, fun rs s1 vs H1 q R1 g1 r1 => ?_⟩
  obtain ⟨r, d, rfl, hs, q⟩ := q
  obtain ⟨v, rfl, r2⟩ := r1.one
  have im : Im (Bad Z B0 ρ) H1 v d := RvR.st R r2 hs
  refine ⟨by show 1 ≤ 1000; decide, fun a na => ⟨a, v, rfl, upd_same, fun dx nd ne => ⟨rfl, made_out (f := f) (v := v) (Q := fun cls d H' => W cls d σ H') (Same.refl H1) (fun d' H' sm n1 h1 => ?_) a na dx nd ne⟩⟩⟩
  exact hx C _ s1 ρ σ (some d') H' q (R1.same sm) ((g1.stp R).trans R1 ((Gr.of sm).stp R1)) ⟨v, h1, im.same sm⟩
/-! ### calls that may raise -/
def xCallP (F : DFX Z0) (da : DA Z) : DXx Z := fun s ρ Q Xd => da s ρ fun rs s1 => F () (rs.map argOf) (fun r _ => okR rs r ∧ Q r s1) (fun C o _ => okE rs o ∧ Xd C o s1)
theorem lift_callX {F : DFX Z0} {σ : L2.St} {H : Hp} {Q : VK} (h : liftEX Z W (xCallP F das) σ H Q) : tCallS (spX Z0 F) (WE W) (liftA Z das) σ H Q := by
  obtain ⟨B0, H0, ρ, s, Qd, Xd, R, hd, hq, hx⟩ := h
  refine ⟨B0, H0, ρ, s, _, R, hd, fun rs s1 vs H1 qx R1 g1 r1 => ?_⟩
  have hzn : ∀ p, H1 p = none → ¬ Z.at_ p := fun p hp z => Z.trk R1.ok z hp
  have same : ∀ {H2 : Hp}, Gr Z0 H1 H2 → Same H1 H2 := fun g b o e => g b o e id
  cases hb : rs.any isBo with
  | false =>
    have eB : ∀ a, Bad Z0 (fun a => Bad Z B0 ρ a) [] a ↔ Bad Z B0 ρ a := fun a => ⟨fun z => z.elim (fun z => z.elim) fun z => z.elim id (fun z => absurd z List.not_mem_nil), fun z => .inr (.inl z)⟩
    refine ⟨fun a => Bad Z B0 ρ a, (), _, _, _, trivial, fun a ha => R1.bad ha, args_st R (fun a z => (eB a).mp z) r1 hb, qx, fun r s2 v H2 q ok2 g2 rr => ?_, fun C o s2 dx H2 q ok2 g2 er => ?_⟩
    · have rr2 : RvR Z B0 ρ H1 H2 v r := res_ok (fun _ _ => .inr trivial) (fun a z => (eB a).mpr z) hzn rr
      exact hq r s1 v H2 q.2 (R1.same (same g2)) (g1.trans (Gr.of (same g2))) (rr2.back R1.ok g1)
    · exact hx C o s1 dx H2 q.2 (R1.same (same g2)) (g1.trans (Gr.of (same g2))) (er.bad fun a z => (eB a).mpr z)
  | true =>
    refine ⟨fun a => Z.at_ a ∨ B0 a, (), _, _, _, trivial, fun a ha => ha.elim (fun z => Z.trk R1.ok z) (R1.btr a), args_rd R (fun a z => z.elim (fun z => z.elim) fun z => z.elim id fun z => by cases z) r1, qx, fun r s2 v H2 q ok2 g2 rr => ?_, fun C o s2 dx H2 q ok2 g2 er => ?_⟩
    · have hc : cleanR r = true := q.1.elim (fun z => by rw [hb] at z; cases z) id
      have rr2 : RvR Z B0 ρ H1 H2 v r := res_clean hzn hc rr
      exact hq r s1 v H2 q.2 (R1.same (same g2)) (g1.trans (Gr.of (same g2))) (rr2.back R1.ok g1)
    · have hc : cleanO o = true := q.1.elim (fun z => by rw [hb] at z; cases z) id
      exact hx C o s1 dx H2 q.2 (R1.same (same g2)) (g1.trans (Gr.of (same g2))) (er.free hc)
theorem dxe_call {F : DFX Z0} {k j : Nat} {ps : List Str} {n : Str} (tk : Takes X W) (D : Df X.prog X.w X.K X.mg X.base (L2.CX X.prog X.w) k n ps (spX Z0 F)) (hr : Room j X.A) (ha : DAs Z X (e :: es) das) (hj : k ≤ j := by decide) (hg : Gl X n := by rfl)
    (hdb : (n == ("__debug__" : Str)) = false := by decide) (he : starEach (e :: es) X.env = (false, eval e X.env) :: starEach es X.env := by rfl) (hpl : (backTo pos (starEach es X.env)).any (·.1) = false := by rfl) : PE X (.Call (.Name n p) (e :: es) [] pos) (liftEX Z W (xCallP F das)) :=
  PE.of (pe_dS (E := WE W) D hr (fun σ => passAt tk σ) ha hj hg hdb he hpl) fun σ H Q h => lift_callX h
/-- a call of a local name that holds a def which lets nothing out -/
def dCallL (i : Nat) (f : Addr) (F : DF Z0) (da : DA Z) : DX Z := fun s ρ Q => ρ[i]? = some (.raw (.ref f)) ∧ dCallP F da s ρ Q
theorem de_callL {F : DF Z0} {k j i : Nat} {f : Addr} {fd : FuncData} {ps : List Str} {n : Str} (G : FnOk X.prog X.w X.K X.mg X.base CX0 k f fd ps (spD Z0 F)) (hr : Room j X.A) (hN : X.N[i]? = some n) (hv : Vis X.env.scope n) (hk : PySem.W.keepIn X.K (.ref f) = true) (hb : Binds X.K fd ps []) (ha : DAs Z X (e :: es) das) (hj : k ≤ j := by decide)
    (hdb : (n == ("__debug__" : Str)) = false := by decide) (hcd : (n == ("__classdict__" : Str)) = false := by decide) (he : starEach (e :: es) X.env = (false, eval e X.env) :: starEach es X.env := by rfl) (hpl : (backTo pos (starEach es X.env)).any (·.1) = false := by rfl) : DE Z X (.Call (.Name n p) (e :: es) [] pos) (dCallL i f F das) := by
  refine PE.of (pe_callL (i := i) G (hr.mono hj) hN hv hk hb .nil pass0 ha hdb hcd he hpl) fun σ H Q ⟨B0, H0, ρ, s, Qd, R, hd, hq⟩ => ?_
  obtain ⟨o, h1, h2⟩ := R.sl i _ hd.1
  cases (show o = some (.ref f) from h2)
  exact ⟨h1, lift_callP ⟨B0, H0, ρ, s, Qd, R, hd.2, hq⟩⟩
def xEmb (de : DX Z) : DXx Z := fun s ρ Q _ => de s ρ Q
theorem dxe_of (h : DE Z X e de) : PE X e (liftEX Z W (xEmb de)) := PE.of h fun σ H Q ⟨B0, H0, ρ, s, Qd, _, R, hd, hq, _⟩ => ⟨B0, H0, ρ, s, Qd, R, hd, hq⟩
def xIfE (dt : DT Z) (q q' : DXx Z) : DXx Z := fun s ρ Q Xd => dt s ρ fun b s1 => if b = true then q s1 ρ Q Xd else q' s1 ρ Q Xd
theorem dxe_if (hc : DTs Z X c dt) (ha : PE X a (liftEX Z W q)) (hb : PE X b (liftEX Z W q')) : PE X (.IfExp c a b pos) (liftEX Z W (xIfE dt q q')) := by
  refine PE.of (pe_ifExp hc ha hb) fun σ H Q ⟨B0, H0, ρ, s, Qd, Xd, R, hd, hq, hx⟩ => ?_
  refine ⟨B0, H0, ρ, s, _, R, hd, fun c s1 H1 qx R1 g1 => ?_⟩
  cases c with
  | true => exact ⟨B0, H0, ρ, s1, Qd, Xd, R1, qx, fun r s2 v H2 q R2 g2 r2 => hq r s2 v H2 q R2 (g1.trans g2) (r2.back R1.ok g1), fun C o s2 dx H2 q R2 g2 er => hx C o s2 dx H2 q R2 (g1.trans g2) er⟩
  | false => exact ⟨B0, H0, ρ, s1, Qd, Xd, R1, qx, fun r s2 v H2 q R2 g2 r2 => hq r s2 v H2 q R2 (g1.trans g2) (r2.back R1.ok g1), fun C o s2 dx H2 q R2 g2 er => hx C o s2 dx H2 q R2 (g1.trans g2) er⟩
def xExpr (q : DXx Z) : DSx Z := fun De s ρ => q s ρ (fun _ s1 => De.e.nx s1 ρ) fun C o s1 => De.xr C o s1 ρ
theorem dx_expr (he : PE X e (liftEX Z W q)) (hs : swapsWith e none pos.line X.env = pure false := by rfl) : PS X (.Expr e pos) (liftX Z W (xExpr q)) := by
  refine PS.of (ps_expr he hs) fun D σ H ⟨B0, H0, ρ, s, De, R, hd, hn, hb, hc, hr, hx⟩ => ?_
  exact ⟨B0, H0, ρ, s, _, _, R, hd, fun r s1 v H1 q R1 g r1 => hn s1 ρ σ H1 q R1 (g.stp R), fun C o s1 dx H1 q R1 g er => hx C o s1 ρ σ dx H1 q R1 (g.stp R) er⟩
def xSet (i : Nat) (q : DXx Z) : DSx Z := fun De s ρ => q s ρ (fun r s1 => stR r i ρ fun ρ' => De.e.nx s1 ρ') fun C o s1 => De.xr C o s1 ρ
theorem dx_set {i : Nat} {n : Str} {pos' : Pos} (hN : X.N.Nodup) (hi : X.N[i]? = some n) (hx : Loc X.env.scope n) (he : PE X e (liftEX Z W q)) (hs : swapsWith e (some (.Name n pos')) pos.line X.env = pure false := by rfl) (hf : X.fn n = true ∨ X.env.scope.names.lookup n = some .local := by first | exact .inl rfl | exact .inr rfl | assumption) :
    PS X (.Assign [.Name n pos'] e pos) (liftX Z W (xSet i q)) := by
  refine PS.of (ps_set hN hi hx he hs hf) fun D σ H ⟨B0, H0, ρ, s, De, R, hd, hn, hb, hc, hr, hx⟩ => ?_
  refine ⟨B0, H0, ρ, s, _, _, R, hd, fun r s1 v H1 qx R1 g1 r1 => ?_, fun C o s1 dx H1 q R1 g er => hx C o s1 ρ σ dx H1 q R1 (g.stp R) er⟩
  obtain ⟨ρ', q, R', st⟩ := stR_ok R R1 g1 r1 qx
  exact hn s1 ρ' _ H1 q R' st
def xRet (q : DXx Z) : DSx Z := fun De s ρ => q s ρ (fun r s1 => De.e.rt r.ret s1) fun C o s1 => De.xr C o s1 ρ
theorem dx_ret (he : PE X e (liftEX Z W q)) : PS X (.Return (some e) pos) (liftX Z W (xRet q)) := by
  refine PS.of (ps_ret he) fun D σ H ⟨B0, H0, ρ, s, De, R, hd, hn, hb, hc, hr, hx⟩ => ?_
  exact ⟨B0, H0, ρ, s, _, _, R, hd, fun r s1 v H1 q R1 g r1 => hr _ s1 v H1 q R1.ok (fun b o e n => R1.frm b o e n) (ret_ok R R1 r1), fun C o s1 dx H1 q R1 g er => hx C o s1 ρ σ dx H1 q R1 (g.stp R) er⟩
end
/-! ### defs -/
def endsX {Z : Zn} (Qd : Rv → Z.S → Prop) (Xd : Addr → Er → Z.S → Prop) : DEx Z := ⟨ends Qd, fun C o s' _ => Xd C o s'⟩
section
variable {P : Program} {w : World} {K : PySem.W.Frag} {mg : Str → Option Value} {base : Heap} {Z : Zn}
theorem body_okX {N : List Str} {d : DSx Z} {F : DFX Z} {vs : List V} {Q : VK} {E : XK} {H : Hp} (hl : vs.length ≤ N.length) (hd : ∀ s as Qd Xd, F s as Qd Xd → d (endsX Qd Xd) s (as ++ List.replicate (N.length - as.length) .no)) (h : spX Z F vs H Q E) : liftX Z (fun cls dx _ H' => E cls dx H') d { nx := fun _ H' => Q .non H', rt := Q } (L2.start N vs) H := by
  obtain ⟨B0, s, as, Qd, Xd, ok, hB, ha, hf, hq, hx⟩ := h
  refine ⟨B0, H, _, s, endsX Qd Xd, rel_start ok hB ha hl, hd s as Qd Xd hf, fun s' ρ' σ' H' q R' st => ?_, fun _ _ _ _ q => q.elim, fun _ _ _ _ q => q.elim, fun r s' v H' q ok' g' rr => hq r s' v H' q ok' g' rr, fun C o s' ρ' σ' dx H' q R' st er => hx C o s' dx H' q R'.ok R'.frm (er.bad fun a z => ?_)⟩
  · exact hq _ s' .non H' q R'.ok R'.frm Im.non
  · rcases z with z | z | z
    · exact .inl z
    · exact .inr (.inl z)
    · cases z
theorem def_okX {nm : Str} {st : Stmt} {N ps : List Str} {k : Nat} {F : DFX Z} {d : DSx Z} (M : Mk K mg nm st ps) (Sc : FnScope N ps (defScope st)) (hl : ps.length ≤ N.length) (len : ∀ s as Qd Xd, F s as Qd Xd → as.length = ps.length)
    (body : ∀ (f : Addr) (cdv : Value) (A : Around) (outer : List Env) (s : Shared) (H : Hp) (E : XK), Room k (A.deeper (envOfC nm (defScope st) s.heap.objs.size f cdv)) → PSs (cxOf (L2.CX P w) P w K mg base N nm (defScope st) f cdv A outer s H E) (defBody st) (liftX Z (fun cls dx _ H' => E cls dx H') d))
    (hd : ∀ s as Qd Xd, F s as Qd Xd → d (endsX Qd Xd) s (as ++ List.replicate (N.length - as.length) .no)) : Df P w K mg base (L2.CX P w) (k + 1) nm ps (spX Z F) := by
  obtain ⟨f, fd, Fn, b, g⟩ := M
  have hlen : ∀ vs H Q E, spX Z F vs H Q E → vs.length = ps.length := fun vs H Q E ⟨B0, s, as, Qd, Xd, _, _, ha, hf, _⟩ => by rw [ha.length, len s as Qd Xd hf]
  refine Df.of Fn b g (Fn.okX Sc hlen fun cdv A outer s H vs Q E hr h => ⟨_, body f cdv A outer s H E hr, body_okX ?_ hd h⟩)
  rw [hlen vs H Q E h]
  exact hl
end
end Lf
namespace Lf
open PySem PySem.Spec PyProof.Rows L2
/-! ### own errors without fields: raised, and asked for their class -/
structure Err0 (K : PySem.W.Frag) (mg : Str → Option Value) (nm : Str) (C : Addr) : Prop where
  q : PySem.W.excIn K C [.type "ValueError", .type "Exception", .type "BaseException", .type "object"] "ValueError.__new__" = true
  g : mg nm = some (.ref C)
  kp : PySem.W.keepIn K (.ref C) = true
  b1 : PySem.W.subIn K (.ref C) (.type "BaseException") = some true
  t1 : PySem.W.typeIn K (.ref C) = some (.type "type")
section
variable {X : Cx} {Z : Zn} {W : WX} {nm : Str} {C : Addr} {p pos : Pos}
theorem pmk_err0 (R : Err0 X.K X.mg nm C) (hg : Gl X nm := by rfl) (hdb : (nm == ("__debug__" : Str)) = false := by decide) : PMk X (.Call (.Name nm p) [] [] pos) (fun _ H Q => Q (.ref C) none H) := by
  intro pins s σ H Q I h
  refine wpAny_Call_Name_kw (ld_glob I hg R.g ?_ hdb)
  refine PySem.W.callWith_K0 I.kIn R.kp ?_
  obtain ⟨bm, N, nm, qn, bs, hdct, sn, sub, ab, col, dd, k0, k1, k2, k3, k5, mN, hC, hN, hni, T⟩ := exc_obj I.kIn R.q
  refine wpAny_call_exc_subT PySem.F.excBase_ValueError T hC hN hni (fun h' e hm => ?_) (Nat.zero_le _)
  exact mk_of I hm (raises_own R.b1 R.t1) h (I.hok.gone hm.new)
def xRaise0 (C : Addr) : DSx Z := fun De s ρ => De.xr C none s ρ
theorem dx_raise0 {j : Nat} {pos' : Pos} (tk : Takes X W) (hc : X.calm = true) (R : Err0 X.K X.mg nm C) (hr : Room j X.A) (hg : Gl X nm := by rfl) (hdb : (nm == ("__debug__" : Str)) = false := by decide) :
    PS X (.Raise (some (.Call (.Name nm p) [] [] pos)) none pos') (liftX Z W (xRaise0 C)) := by
  refine PS.of (ps_raise hc tk (pmk_err0 R hg hdb)) fun D σ H ⟨B0, H0, ρ, s, De, R, hd, hn, hb, hc, hr, hx⟩ => ?_
  exact hx C none s ρ σ none H hd R Stp.refl trivial
theorem inst_caught0 {a D : Addr} {oe : Obj} {pn pins : List (Addr × Obj)} {σ : L2.St} {H : Hp} {s : Shared} (I : Inv (X.suite a ((a, oe) :: pn)) pins σ H s) (hz : Zc (.ref D) none oe) (hf : ∃ vs, oe.data = .fields vs) : PySem.W.InstAt s.heap a oe D none := by
  obtain ⟨hget, _⟩ := I.pin (a, oe) (List.mem_append.mpr (.inl List.mem_cons_self))
  obtain ⟨vs, hv⟩ := hf
  obtain ⟨oc, od, oda, osl⟩ := oe
  obtain ⟨h1, h2⟩ := hz
  dsimp only at h1 h2 hv
  subst h1 h2 hv
  exact ⟨hget, rfl, rfl, trivial⟩
def rIs0 (K : PySem.W.Frag) (D a : Addr) (cls : Value) (d : Option Addr) : List V → Hp → VK → Prop := fun xs H Q => ∃ (c : V) (cv : Value) (b : Bool), xs = [.ref a, c] ∧ cls = .ref D ∧ d = none ∧ ClsV c cv ∧ PySem.W.kitOne K (.ref D) cv = some b ∧ Q (.bl b) H
theorem call_is0 {a D : Addr} {cls : Value} {d : Option Addr} {oe : Obj} {pn : List (Addr × Obj)} (T : ExK X.K D) (hz : Zc cls d oe) (hf : ∃ vs, oe.data = .fields vs) : CallR (X.suite a ((a, oe) :: pn)) (.builtin "isinstance") (rIs0 X.K D a cls d) := by
  intro pins s σ H xs us Q I r h
  obtain ⟨c, cv, b, rfl, rfl, rfl, hc, ek, q⟩ := h
  obtain ⟨u1, u2, rfl, r1, r2⟩ := vals2 r
  cases (show u1 = Value.ref a from r1)
  have e2 := hc.eq r2
  subst e2
  exact PySem.W.kia_one (PySem.W.handS_kitx_exc T.ga T.gg T.sb T.hd T.ca T.cg T.ct T.cm) I.kIn (inst_caught0 I hz hf) ek (fun z => nomatch z) fun tk => ⟨.bl b, H, I.kept (t' := tk) fun _ _ z => z, rfl, q⟩
def rIs0T (K : PySem.W.Frag) (D a : Addr) (cls : Value) (d : Option Addr) : List V → Hp → VK → Prop := fun xs H Q => ∃ (t : Addr) (cs : List V) (b : Bool), xs = [.ref a, .ref t] ∧ cls = .ref D ∧ d = none ∧ H t = some (.tup cs) ∧ (∀ its, Vals cs its → PySem.W.kitAny K (.ref D) its = some b) ∧ Q (.bl b) H
theorem call_is0T {a D : Addr} {cls : Value} {d : Option Addr} {oe : Obj} {pn : List (Addr × Obj)} (T : ExK X.K D) (hz : Zc cls d oe) (hf : ∃ vs, oe.data = .fields vs) : CallR (X.suite a ((a, oe) :: pn)) (.builtin "isinstance") (rIs0T X.K D a cls d) := by
  intro pins s σ H xs us Q I r h
  obtain ⟨t, cs, b, rfl, rfl, rfl, ht, ek, q⟩ := h
  obtain ⟨u1, u2, rfl, r1, r2⟩ := vals2 r
  cases (show u1 = Value.ref a from r1)
  cases (show u2 = Value.ref t from r2)
  obtain ⟨its, rv, ⟨⟨oc, odd, oda, osl⟩, ho, hc, n, hd'⟩, _⟩ := I.tuple (SqT.of ht)
  dsimp only at hc hd'
  subst hc hd'
  exact PySem.W.kia_tup (PySem.W.handS_kitx_exc T.ga T.gg T.sb T.hd T.ca T.cg T.ct T.cm) I.kIn (inst_caught0 I hz hf) ho (ek its rv) (fun z => nomatch z) fun tk => ⟨.bl b, H, I.kept (t' := tk) fun _ _ z => z, rfl, q⟩
end
/-- an error without fields, caught, asked for three other classes -/
structure Cau0 (K : PySem.W.Frag) (mg : Str → Option Value) (nm n1 n2 n3 : Str) (C L A1 A2 A3 : Addr) : Prop where
  ex : ExK K C
  gC : mg nm = some (.ref C)
  gL : mg "LinkError" = some (.ref L)
  g1 : mg n1 = some (.ref A1)
  g2 : mg n2 = some (.ref A2)
  g3 : mg n3 = some (.ref A3)
  te : PySem.W.exmOne K (.ref C) (.ref L) = some true
  kV : PySem.W.kitOne K (.ref C) (.type "ValueError") = some true
  kC : PySem.W.kitOne K (.ref C) (.ref C) = some true
  k1 : PySem.W.kitOne K (.ref C) (.ref A1) = some false
  k2 : PySem.W.kitOne K (.ref C) (.ref A2) = some false
  k3 : PySem.W.kitOne K (.ref C) (.ref A3) = some false
theorem Cau0.any3 {K : PySem.W.Frag} {mg : Str → Option Value} {nm n1 n2 n3 : Str} {C L A1 A2 A3 : Addr} (T : Cau0 K mg nm n1 n2 n3 C L A1 A2 A3) : ∀ its, Vals [V.ref A1, V.ref A2, V.ref A3] its → PySem.W.kitAny K (.ref C) its = some false := fun its r => by
  rw [ClsV.all (.cons (.own _) (.cons (.own _) (.cons (.own _) .nil))) r]
  simp only [PySem.W.kitAny, T.k1, T.k2, T.k3]
theorem cau0_ok {K : PySem.W.Frag} {mg : Str → Option Value} {nm n1 n2 n3 : Str} {C L A1 A2 A3 : Addr} (h : cauB K C L A1 A2 A3 = true) (gC : mg nm = some (.ref C)) (gL : mg "LinkError" = some (.ref L)) (g1 : mg n1 = some (.ref A1)) (g2 : mg n2 = some (.ref A2)) (g3 : mg n3 = some (.ref A3)) : Cau0 K mg nm n1 n2 n3 C L A1 A2 A3 := by
  obtain ⟨h1, h⟩ := Bool.and_eq_true_iff.mp h
  obtain ⟨h2, h⟩ := Bool.and_eq_true_iff.mp h
  obtain ⟨h3, h⟩ := Bool.and_eq_true_iff.mp h
  obtain ⟨h4, h⟩ := Bool.and_eq_true_iff.mp h
  obtain ⟨h5, h⟩ := Bool.and_eq_true_iff.mp h
  obtain ⟨h6, h7⟩ := Bool.and_eq_true_iff.mp h
  exact ⟨exB_ok h1, gC, gL, g1, g2, g3, of_decide_eq_true h2, of_decide_eq_true h3, of_decide_eq_true h4, of_decide_eq_true h5, of_decide_eq_true h6, of_decide_eq_true h7⟩
end Lf
namespace Lf
open PySem PySem.Spec PyProof.Rows L2
/-! ### def f(*rest) -/
def DfR (P : Program) (w : World) (K : PySem.W.Frag) (mg : Str → Option Value) (base : Heap) (CX : CXT) (k : Nat) (x : Str) (sp : Sp) : Prop := ∃ f : Addr, mg x = some (.ref f) ∧ PySem.W.keepIn K (.ref f) = true ∧ FnR P w K mg base CX k f sp
def fRst (F : DF Z0) : DF Z0 := fun s as Q => ∃ rest : List PyData, as = rest.map Sl.im ∧ rest.length ≤ 1000 ∧ F s [.im (.tuple rest)] Q
def fRstX (F : DFX Z0) : DFX Z0 := fun s as Q Xd => ∃ rest : List PyData, as = rest.map Sl.im ∧ rest.length ≤ 1000 ∧ F s [.im (.tuple rest)] Q Xd
section
variable {P : Program} {w : World} {K : PySem.W.Frag} {mg : Str → Option Value} {base : Heap}
theorem rst_arg {B : Addr → Prop} {H : Hp} {p : Addr} {vs : List V} {rest : List PyData} (hp : H p = none) (ha : ArgRs B H vs (rest.map Sl.im)) : ArgRs B (upd H p (.tup vs)) [V.ref p] [.im (.tuple rest)] :=
  .cons (x := .im (.tuple rest)) (Im.tup upd_same ((args_im ha).same (same_new hp))) .nil
theorem dfr_ok {nm pv : Str} {st : Stmt} {N : List Str} {k : Nat} {F : DF Z0} {d : DSt Z0} {f : Addr} {fd : FuncData} (Fn : Fun K nm nm st f fd) (g : mg nm = some (.ref f)) (Sc : FnScope N [pv] (defScope st)) (hl : 1 ≤ N.length)
    (hB : ∀ (kV doc pm : Value) (an : Option Addr) (cdv ct : Value) (rest : List Value), bindArgs (PySem.W.fnOf nm nm (defArgs st) (defBody st) (defScope st) .none kV doc pm an cdv ct) ⟨rest, []⟩ = (newTuple rest >>= fun t => pure [(pv, t)]))
    (body : ∀ (f : Addr) (cdv : Value) (A : Around) (outer : List Env) (s : Shared) (H : Hp) (E : XK), Room k (A.deeper (envOfC nm (defScope st) s.heap.objs.size f cdv)) → DSs Z0 (cxOf CX0 P w K mg base N nm (defScope st) f cdv A outer s H E).nox (defBody st) d)
    (hd : ∀ rest s Qd, F s [.im (.tuple rest)] Qd → d (ends Qd) s ([.im (.tuple rest)] ++ List.replicate (N.length - 1) .no)) : DfR P w K mg base CX0 (k + 1) nm (spD Z0 (fRst F)) := by
  obtain ⟨oc, od, kV, doc, pm, an, cdv, ct, osl, rfl, lk, hcd⟩ := Fn.ex
  refine ⟨f, g, Fn.kp, (StX.fn_star (ps := []) (sp := spD Z0 fun s as Q => ∃ rest, as = [.im (.tuple rest)] ∧ F s as Q) lk hcd Sc StX.cxUp_none (fun us rest hu => ?_) fun A outer s H vs Q E hr h => ⟨_, (body f cdv A outer s H E hr).nox, body_ok (F := fun s as Q => ∃ rest, as = [.im (.tuple rest)] ∧ F s as Q) ?_ (fun s as Qd ⟨rest, e, hf⟩ => ?_) h⟩).imp fun vs H Q E h => ?_⟩
  · cases us with
    | nil => exact hB kV doc pm an cdv ct rest
    | cons _ _ => cases hu
  · obtain ⟨B0, z, as, Qd, _, _, ha, ⟨rest, rfl, _⟩, _⟩ := h
    rw [ha.length]
    exact hl
  · subst e
    exact hd rest s Qd hf
  · obtain ⟨B0, z, as, Qd, ok, hB0, ha, ⟨rest, rfl, hz, hf⟩, hq⟩ := h
    have lv : vs.length ≤ sizeLine := by rw [ha.length, List.length_map]; exact smB (by omega)
    refine ⟨[], vs, rfl, rfl, lv, fun p hp => ⟨B0, z, _, Qd, trivial, fun a ha' e => ?_, rst_arg hp ha, ⟨rest, rfl, hf⟩, fun r s' v H' q ok' gr rr => ?_⟩⟩
    · have sm := same_new (o := .tup vs) hp
      cases e1 : H a with
      | none => exact hB0 a ha' e1
      | some o => rw [sm a o e1] at e; cases e
    · have sm := same_new (o := .tup vs) hp
      exact hq r s' v H' q trivial (Gr.trans (Gr.of sm) gr) (rr.back (Z := Z0) (s1 := ()) trivial (Gr.of sm))
theorem dfr_okX {nm pv : Str} {st : Stmt} {N : List Str} {k : Nat} {F : DFX Z0} {d : DSx Z0} {f : Addr} {fd : FuncData} (Fn : Fun K nm nm st f fd) (g : mg nm = some (.ref f)) (Sc : FnScope N [pv] (defScope st)) (hl : 1 ≤ N.length)
    (hB : ∀ (kV doc pm : Value) (an : Option Addr) (cdv ct : Value) (rest : List Value), bindArgs (PySem.W.fnOf nm nm (defArgs st) (defBody st) (defScope st) .none kV doc pm an cdv ct) ⟨rest, []⟩ = (newTuple rest >>= fun t => pure [(pv, t)]))
    (body : ∀ (f : Addr) (cdv : Value) (A : Around) (outer : List Env) (s : Shared) (H : Hp) (E : XK), Room k (A.deeper (envOfC nm (defScope st) s.heap.objs.size f cdv)) → PSs (cxOf (L2.CX P w) P w K mg base N nm (defScope st) f cdv A outer s H E) (defBody st) (liftX Z0 (fun cls dx _ H' => E cls dx H') d))
    (hd : ∀ rest s Qd Xd, F s [.im (.tuple rest)] Qd Xd → d (endsX Qd Xd) s ([.im (.tuple rest)] ++ List.replicate (N.length - 1) .no)) : DfR P w K mg base (L2.CX P w) (k + 1) nm (spX Z0 (fRstX F)) := by
  obtain ⟨oc, od, kV, doc, pm, an, cdv, ct, osl, rfl, lk, hcd⟩ := Fn.ex
  refine ⟨f, g, Fn.kp, (StX.fn_star (ps := []) (sp := spX Z0 fun s as Q Xd => ∃ rest, as = [.im (.tuple rest)] ∧ F s as Q Xd) lk hcd Sc StX.cxUp (fun us rest hu => ?_) fun A outer s H vs Q E hr h => ⟨_, body f cdv A outer s H E hr, body_okX (F := fun s as Q Xd => ∃ rest, as = [.im (.tuple rest)] ∧ F s as Q Xd) ?_ (fun s as Qd Xd ⟨rest, e, hf⟩ => ?_) h⟩).imp fun vs H Q E h => ?_⟩
  · cases us with
    | nil => exact hB kV doc pm an cdv ct rest
    | cons _ _ => cases hu
  · obtain ⟨B0, z, as, Qd, Xd, _, _, ha, ⟨rest, rfl, _⟩, _⟩ := h
    rw [ha.length]
    exact hl
  · subst e
    exact hd rest s Qd Xd hf
  · obtain ⟨B0, z, as, Qd, Xd, ok, hB0, ha, ⟨rest, rfl, hz, hf⟩, hq, hx⟩ := h
    have lv : vs.length ≤ sizeLine := by rw [ha.length, List.length_map]; exact smB (by omega)
    refine ⟨[], vs, rfl, rfl, lv, fun p hp => ?_⟩
    have sm := same_new (o := .tup vs) hp
    refine ⟨B0, z, _, Qd, Xd, trivial, fun a ha' e => ?_, rst_arg hp ha, ⟨rest, rfl, hf⟩, fun r s' v H' q ok' gr rr => hq r s' v H' q trivial (Gr.trans (Gr.of sm) gr) (rr.back (Z := Z0) (s1 := ()) trivial (Gr.of sm)), fun C o s' dx H' q ok' gr er => hx C o s' dx H' q trivial (Gr.trans (Gr.of sm) gr) er⟩
    cases e1 : H a with
    | none => exact hB0 a ha' e1
    | some o => rw [sm a o e1] at e; cases e
end
section
variable {Z : Zn} {X : Cx} {e : Expr} {es : List Expr} {das : DA Z} {pos p : Pos} {k j : Nat} {n : Str}
theorem pe_R {t : TA} {sp : Sp} (D : DfR X.prog X.w X.K X.mg X.base CX0 k n sp) (hr : Room j X.A) (ha : PA X (e :: es) t) (hj : k ≤ j) (hg : Gl X n)
    (hdb : (n == ("__debug__" : Str)) = false) (he : starEach (e :: es) X.env = (false, eval e X.env) :: starEach es X.env) (hpl : (backTo pos (starEach es X.env)).any (·.1) = false) : PE X (.Call (.Name n p) (e :: es) [] pos) (fun σ H Q => t σ H fun vs H1 => sp vs H1 Q E0) := by
  obtain ⟨f, g, kp, F⟩ := D
  refine ⟨fun pins s σ H Q I h => ?_⟩
  refine wpAny_Call_Name_kw (ld_glob I hg g ?_ hdb)
  refine PySem.W.callWith_K (h₀ := X.base) I.ok.mod.kin kp (thn (ha.run pos pins s σ H _ I h) fun us s1 ⟨vs, H1, I1, r, q⟩ => ⟨I1.kIn, ?_⟩) he hpl
  exact wpAny_call (run_fnR F (hr.mono hj) pass0 I1 r q)
theorem de_callR {F : DF Z0} (D : DfR X.prog X.w X.K X.mg X.base CX0 k n (spD Z0 F)) (hx : Passes CX0 X E0) (hr : Room j X.A) (ha : DAs Z X (e :: es) das) (hj : k ≤ j := by decide) (hg : Gl X n := by rfl)
    (hdb : (n == ("__debug__" : Str)) = false := by decide) (he : starEach (e :: es) X.env = (false, eval e X.env) :: starEach es X.env := by rfl) (hpl : (backTo pos (starEach es X.env)).any (·.1) = false := by rfl) : DE Z X (.Call (.Name n p) (e :: es) [] pos) (dCallP F das) :=
  PE.of (pe_R D hr ha hj hg hdb he hpl) fun σ H Q h => by
    obtain ⟨B0, H0, ρ, s, Qd, R, hd, hq⟩ := lift_callP (E := E0) h
    refine ⟨B0, H0, ρ, s, Qd, R, hd, fun rs s1 vs H1 q R1 g1 r1 => ?_⟩
    have this : spD Z0 F (vs ++ []) H1 Q E0 := hq rs s1 vs H1 q R1 g1 r1
    rw [List.append_nil] at this
    exact this
end
end Lf
namespace Lf
open PySem PySem.Spec PyProof.Rows L2
/-! ### built forests: heights against weights, no heavy child -/
theorem Blt.row {fs : List Nat} (h : Blt fs) : ∀ v, v < fs.length → ∀ j u, (way fs v)[j]? = some u → 2 ^ j ≤ wS fs u := by
  induction h with
  | @start n h1 h2 =>
    intro v hv j u e
    rw [List.length_range] at hv
    have F := Forest.range h1 h2
    rw [way_rng h1 h2 hv] at e
    cases j with
    | succ j => cases e
    | zero =>
      cases e
      have h3 : (if v ∈ way (List.range n) v then 1 else 0) ≤ wS (List.range n) v := sum_mem (f := fun x => if v ∈ way (List.range n) x then 1 else 0) (by rw [List.length_range]; exact List.mem_range.mpr hv)
      rw [if_pos (by rw [way_rng h1 h2 hv]; exact List.mem_cons_self)] at h3
      exact h3
  | @join fs a b hB ha pa hb pb ne le ih =>
    have F := hB.forest
    rw [ldC_wS F, ldC_wS F] at le
    have eb := wS_b F ha pa hb pb ne
    intro v hv j u e
    rw [List.length_set] at hv
    rw [way_join F ha pa hb pb ne hv] at e
    have up : ∀ u, wS fs u ≤ wS (fs.set a b) u := fun u => by
      by_cases y : u = b
      · rw [y, eb]; omega
      · rw [wS_o F ha pa hb pb ne y]; exact Nat.le_refl _
    rcases Nat.lt_or_ge j (way fs v).length with z | z
    · rw [List.getElem?_append_left z] at e
      exact Nat.le_trans (ih v hv j u e) (up u)
    · rw [List.getElem?_append_right z] at e
      by_cases m : a ∈ way fs v
      · rw [if_pos m] at e
        obtain ⟨i, hi⟩ := List.getElem?_of_mem m
        have il := ih v hv i a hi
        rcases (way_pth F hv).next hi with ⟨_, e1⟩ | ⟨y, _⟩
        · have j0 : j - (way fs v).length = 0 := by
            rcases Nat.eq_zero_or_pos (j - (way fs v).length) with y | y
            · exact y
            · rw [List.getElem?_eq_none (by show 1 ≤ _; omega)] at e
              cases e
          rw [j0] at e
          cases e
          have ej : j = i + 1 := by omega
          rw [ej, eb, Nat.pow_succ]
          omega
        · exact absurd pa y
      · rw [if_neg m] at e
        cases e
theorem Blt.thick {fs : List Nat} (h : Blt fs) {u : Nat} (hu : u < fs.length) : 2 ^ hgt fs u ≤ ldC fs u := by
  have F := h.forest
  rw [ldC_wS F]
  rcases hiN_at (fs := fs) (k := fs.length) (u := u) with z | ⟨v, hv, z⟩
  · have e : (way fs u)[0]? = some u := by
      by_cases y : par fs u = u
      · rw [way_root F hu y]; rfl
      · rw [way_step F hu y]; rfl
    have := h.row u hu 0 u e
    unfold hgt his
    rw [z]
    exact this
  · exact h.row v hv _ u z
open Classical in
theorem ldC_wt {fs : List Nat} (F : Forest fs) (u : Nat) : ldC fs u = wt fs u := by
  rw [ldC_wS F]
  unfold wS wt cnt
  rw [len_sum]
  refine sum_congr fun v hv => ?_
  have hm := (way_pth F (List.mem_range.mp hv)).bel u
  by_cases m : u ∈ way fs v
  · rw [if_pos m]
    exact (if_pos (@decide_eq_true _ _ (hm.mp m))).symm
  · rw [if_neg m]
    exact (if_neg (fun z => m (hm.mpr (@of_decide_eq_true _ _ z)))).symm
theorem Blt.light {fs : List Nat} (h : Blt fs) : ∀ c, ¬ Heavy fs c := by
  induction h with
  | @start n h1 h2 => exact range_light n
  | @join fs a b hB ha pa hb pb ne le ih =>
    have F := hB.forest
    rw [ldC_wt F, ldC_wt F] at le
    exact join_light F ha pa hb pb ne le ih
theorem Blt.built {fs : List Nat} (h : Blt fs) : isB fs = true := by
  have F := h.forest
  unfold isB
  rw [List.all_eq_true]
  intro c hc
  have hc := List.mem_range.mp hc
  cases e : hvC fs c with
  | false => rfl
  | true =>
    exfalso
    unfold hvC at e
    obtain ⟨e1, e2⟩ := Bool.and_eq_true_iff.mp e
    refine h.light c ⟨hc, of_decide_eq_true e1, ?_⟩
    have e2 := of_decide_eq_true e2
    rw [ldC_wt F] at e2
    refine Nat.lt_of_le_of_lt (Nat.add_le_add_left ?_ 1) e2
    unfold ligL
    rw [filter_sum]
    have ek : kids fs (par fs c) = othL fs c := List.filter_congr fun k _ => by
      by_cases z : par fs k = par fs c
      · rw [z]
      · rw [decide_eq_false z, Bool.false_and, Bool.false_and]
    rw [ek]
    refine Nat.le_of_eq (sum_congr fun k _ => ?_)
    rw [ldC_wt F, ldC_wt F]
    by_cases z : wt fs k < wt fs c
    · rw [if_pos z, if_pos (decide_eq_true z)]
    · rw [if_neg z, if_neg (by rw [decide_eq_false z]; exact Bool.false_ne_true)]
/-- the weights of the lower vertices together: the total depth -/
theorem low_sum {fs : List Nat} (F : Forest fs) : (((List.range fs.length).filter fun v => decide (par fs v ≠ v)).map (ldC fs)).sum = (dpts fs).sum := by
  rw [filter_sum]
  unfold dpts
  have e : ((List.range fs.length).map fun x => if decide (par fs x ≠ x) = true then ldC fs x else 0) = (List.range fs.length).map fun x => ((List.range fs.length).map fun v => if par fs x ≠ x ∧ x ∈ way fs v then 1 else 0).sum := by
    refine List.map_congr_left fun x _ => ?_
    by_cases z : par fs x = x
    · rw [if_neg (by rw [decide_eq_false (fun y => y z)]; exact Bool.false_ne_true)]
      exact (sum_zero fun v _ => if_neg fun y => y.1 z).symm
    · rw [if_pos (decide_eq_true z), ldC_wS F]
      refine sum_congr fun v _ => ?_
      by_cases m : x ∈ way fs v
      · rw [if_pos m, if_pos ⟨z, m⟩]
      · rw [if_neg m, if_neg fun y => m y.2]
  rw [e, sum_swap]
  refine sum_congr fun v hv => ?_
  have hv := List.mem_range.mp hv
  obtain ⟨r, mr, pr, hr⟩ := root_in F hv
  have h1 : ((List.range fs.length).map fun x => if par fs x ≠ x ∧ x ∈ way fs v then 1 else 0).sum + 1 = (way fs v).length := by
    have h2 : ((List.range fs.length).map fun x => if x ∈ way fs v then 1 else 0).sum = (way fs v).length := by
      have h3 := len_sum (fun x => decide (x ∈ way fs v)) (List.range fs.length)
      have h4 : ((List.range fs.length).filter fun x => decide (x ∈ way fs v)).length = (way fs v).length := same_len (List.Pairwise.filter _ List.nodup_range) (way_nodup F hv) fun x => by
        rw [List.mem_filter, List.mem_range]
        exact ⟨fun y => of_decide_eq_true y.2, fun y => ⟨way_lt F hv x y, decide_eq_true y⟩⟩
      rw [h4] at h3
      rw [h3]
      refine sum_congr fun x _ => ?_
      by_cases m : x ∈ way fs v
      · rw [if_pos m, if_pos (decide_eq_true m)]
      · rw [if_neg m, if_neg (by rw [decide_eq_false m]; exact Bool.false_ne_true)]
    have h5 := sum_ind (a := r) (c := 1) List.nodup_range (List.mem_range.mpr hr)
    have h6 := sum_add (fun x => if par fs x ≠ x ∧ x ∈ way fs v then 1 else 0) (fun x => if x = r then 1 else 0) (List.range fs.length)
    rw [h5] at h6
    rw [← h6, ← h2]
    refine sum_congr fun x hx => ?_
    by_cases m : x ∈ way fs v
    · by_cases p : par fs x = x
      · have : x = r := root_one F hv p pr m mr
        rw [if_neg (fun y => y.1 p), if_pos this, if_pos m]
      · rw [if_pos ⟨p, m⟩, if_neg (fun y => p (by rw [y]; exact pr)), if_pos m]
    · rw [if_neg (fun y => m y.2), if_neg (fun y => m (by rw [y]; exact mr)), if_neg m]
  unfold dpt
  omega
/-- the height of a root: the greatest depth in its tree -/
theorem root_hgt {fs : List Nat} (F : Forest fs) {r : Nat} (hr : r < fs.length) (pr : par fs r = r) : (∀ v, v < fs.length → r ∈ way fs v → dpt fs v ≤ hgt fs r) ∧ ∃ v, v < fs.length ∧ r ∈ way fs v ∧ dpt fs v = hgt fs r := by
  have last : ∀ v, v < fs.length → ∀ j, (way fs v)[j]? = some r → dpt fs v = j := fun v hv j e => by
    rcases (way_pth F hv).next e with ⟨_, e1⟩ | ⟨z, _⟩
    · unfold dpt; omega
    · exact absurd pr z
  refine ⟨fun v hv m => ?_, ?_⟩
  · obtain ⟨j, e⟩ := List.getElem?_of_mem m
    rw [last v hv j e]
    exact hiN_ge F (Nat.le_refl _) hv e
  · rcases hiN_at (fs := fs) (k := fs.length) (u := r) with z | ⟨v, hv, z⟩
    · refine ⟨r, hr, by rw [way_root F hr pr]; exact List.mem_cons_self, ?_⟩
      rw [last r hr 0 (by rw [way_root F hr pr]; rfl)]
      exact z.symm
    · exact ⟨v, hv, List.mem_of_getElem? z, last v hv _ z⟩
end Lf
namespace Lf
open PySem PySem.Spec PyProof.Rows L2
/-! ### a renamed forest: ways and weights -/
structure Ren (ps od fs : List Nat) : Prop where
  F : Forest ps
  pm : od.Perm (List.range ps.length)
  len : fs.length = ps.length
  at_ : ∀ k, k < ps.length → par fs (od.getD k 0) = od.getD (par ps k) 0
theorem Ren.G {ps od fs : List Nat} (R : Ren ps od fs) : Forest fs := ren_forest R.F R.pm R.len R.at_
theorem Ren.ol {ps od fs : List Nat} (R : Ren ps od fs) : od.length = ps.length := by rw [R.pm.length_eq, List.length_range]
theorem Ren.low {ps od fs : List Nat} (R : Ren ps od fs) {k : Nat} (hk : k < ps.length) : od.getD k 0 < fs.length := by
  have := R.ol
  rw [R.len, List.getD_eq_getElem?_getD, List.getElem?_eq_getElem (by omega)]
  exact List.mem_range.mp (R.pm.mem_iff.mp (List.getElem_mem (by omega)))
theorem Ren.inj {ps od fs : List Nat} (R : Ren ps od fs) {j k : Nat} (hj : j < ps.length) (hk : k < ps.length) (e : od.getD j 0 = od.getD k 0) : j = k := by
  have ol := R.ol
  have nd : od.Nodup := R.pm.nodup_iff.mpr List.nodup_range
  rw [List.getD_eq_getElem?_getD, List.getD_eq_getElem?_getD, List.getElem?_eq_getElem (by omega), List.getElem?_eq_getElem (by omega)] at e
  have e : od[j]'(by omega) = od[k]'(by omega) := e
  have h1 := nd.idxOf_getElem j (by omega)
  have h2 := nd.idxOf_getElem k (by omega)
  rw [e] at h1
  omega
theorem Ren.pth {ps od fs : List Nat} (R : Ren ps od fs) {v : Nat} {l : List Nat} (p : Pth ps v l) : v < ps.length → Pth fs (od.getD v 0) (l.map fun x => od.getD x 0) := by
  induction p with
  | @root v h =>
    intro hv
    exact .root (by rw [R.at_ v hv, h])
  | @step v l h p ih =>
    intro hv
    have hp := R.F.rng v hv
    refine .step (fun z => h (R.inj hp hv (by rw [← R.at_ v hv]; exact z))) ?_
    rw [R.at_ v hv]
    exact ih hp
theorem Ren.ways {ps od fs : List Nat} (R : Ren ps od fs) {v : Nat} (hv : v < ps.length) : way fs (od.getD v 0) = (way ps v).map fun x => od.getD x 0 := (way_pth R.G (R.low hv)).inj (R.pth (way_pth R.F hv) hv)
theorem Ren.ld {ps od fs : List Nat} (R : Ren ps od fs) {u : Nat} (hu : u < ps.length) : ldC fs (od.getD u 0) = ldC ps u := by
  rw [ldC_wS R.G, ldC_wS R.F]
  unfold wS
  have e : od = (List.range ps.length).map fun k => od.getD k 0 := by
    refine List.ext_getElem? fun i => ?_
    rw [List.getElem?_map]
    have ol := R.ol
    rcases Nat.lt_or_ge i ps.length with z | z
    · rw [List.getElem?_range z]
      show _ = some (od.getD i 0)
      rw [List.getD_eq_getElem?_getD, List.getElem?_eq_getElem (show i < od.length by omega)]
      rfl
    · rw [List.getElem?_eq_none (by omega), List.getElem?_eq_none (by rw [List.length_range]; exact z)]
      rfl
  have h1 : ((List.range fs.length).map fun v => if od.getD u 0 ∈ way fs v then 1 else 0).Perm (od.map fun v => if od.getD u 0 ∈ way fs v then 1 else 0) := by
    rw [R.len]
    exact R.pm.symm.map _
  have hs : ∀ {l m : List Nat}, l.Perm m → l.sum = m.sum := fun h => by
    induction h with
    | nil => rfl
    | cons x _ ih => rw [List.sum_cons, List.sum_cons, ih]
    | swap x y l => rw [List.sum_cons, List.sum_cons, List.sum_cons, List.sum_cons]; omega
    | trans _ _ a b => exact a.trans b
  rw [hs h1]
  conv => lhs; arg 1; arg 2; rw [e]
  rw [List.map_map]
  refine sum_congr fun v hv => ?_
  have hv := List.mem_range.mp hv
  show (if od.getD u 0 ∈ way fs (od.getD v 0) then 1 else 0) = _
  rw [R.ways hv]
  have iff : (od.getD u 0 ∈ (way ps v).map fun x => od.getD x 0) ↔ u ∈ way ps v := ⟨fun z => by
    obtain ⟨x, hx, e⟩ := List.mem_map.mp z
    have := R.inj (way_lt R.F hv x hx) hu e
    rw [← this]
    exact hx, fun z => List.mem_map.mpr ⟨u, z, rfl⟩⟩
  by_cases m : u ∈ way ps v
  · rw [if_pos (iff.mpr m), if_pos m]
  · rw [if_neg (fun z => m (iff.mp z)), if_neg m]
end Lf
namespace Lf
/-! ### no heavy child, as counted -/
theorem hvC_heavy {fs : List Nat} (F : Forest fs) {c : Nat} (hc : c < fs.length) (e : hvC fs c = true) : Heavy fs c := by
  unfold hvC at e
  obtain ⟨e1, e2⟩ := Bool.and_eq_true_iff.mp e
  refine ⟨hc, of_decide_eq_true e1, ?_⟩
  have e2 := of_decide_eq_true e2
  rw [ldC_wt F] at e2
  refine Nat.lt_of_le_of_lt (Nat.add_le_add_left ?_ 1) e2
  unfold ligL
  rw [filter_sum]
  have ek : kids fs (par fs c) = othL fs c := List.filter_congr fun k _ => by
    by_cases z : par fs k = par fs c
    · rw [z]
    · rw [decide_eq_false z, Bool.false_and, Bool.false_and]
  rw [ek]
  refine Nat.le_of_eq (sum_congr fun k _ => ?_)
  rw [ldC_wt F, ldC_wt F]
  by_cases z : wt fs k < wt fs c
  · rw [if_pos z, if_pos (decide_eq_true z)]
  · rw [if_neg z, if_neg (by rw [decide_eq_false z]; exact Bool.false_ne_true)]
theorem light_hvC {fs : List Nat} (F : Forest fs) (nh : ∀ c, ¬ Heavy fs c) : (List.range fs.length).filter (hvC fs) = [] :=
  List.filter_eq_nil_iff.mpr fun c hc e => nh c (hvC_heavy F (List.mem_range.mp hc) e)
end Lf
namespace Lf
open PySem PySem.Spec PyProof.Rows L2
/-! ### a forest with more vertices behind it -/
structure Ext (fs hs : List Nat) : Prop where
  F : Forest fs
  G : Forest hs
  le : fs.length ≤ hs.length
  at_ : ∀ v, v < fs.length → par hs v = par fs v
theorem Ext.pth {fs hs : List Nat} (E : Ext fs hs) {v : Nat} {l : List Nat} (p : Pth fs v l) : v < fs.length → Pth hs v l := by
  induction p with
  | @root v h => intro hv; exact .root (by rw [E.at_ v hv]; exact h)
  | @step v l h p ih => intro hv; exact .step (by rw [E.at_ v hv]; exact h) (by rw [E.at_ v hv]; exact ih (E.F.rng v hv))
theorem Ext.ways {fs hs : List Nat} (E : Ext fs hs) {v : Nat} (hv : v < fs.length) : way hs v = way fs v := (way_pth E.G (Nat.lt_of_lt_of_le hv E.le)).inj (E.pth (way_pth E.F hv) hv)
/-- side by side -/
def side (fs gs : List Nat) : List Nat := fs ++ gs.map (fs.length + ·)
theorem side_len (fs gs : List Nat) : (side fs gs).length = fs.length + gs.length := by unfold side; rw [List.length_append, List.length_map]
theorem par_s1 {fs gs : List Nat} {v : Nat} (hv : v < fs.length) : par (side fs gs) v = par fs v := by
  unfold par side
  rw [List.getD_eq_getElem?_getD, List.getElem?_append_left hv, ← List.getD_eq_getElem?_getD]
theorem par_s2 {fs gs : List Nat} {v : Nat} (hv : v < gs.length) : par (side fs gs) (fs.length + v) = fs.length + par gs v := by
  unfold par side
  rw [List.getD_eq_getElem?_getD, List.getElem?_append_right (Nat.le_add_right _ _), Nat.add_sub_cancel_left, List.getElem?_map, List.getElem?_eq_getElem hv, List.getD_eq_getElem?_getD, List.getElem?_eq_getElem hv]
  rfl
theorem Rch.s1 {fs gs : List Nat} (F : Forest fs) {k v : Nat} (r : Rch fs k v) : v < fs.length → Rch (side fs gs) k v := by
  induction r with
  | root h => intro hv; exact .root (by rw [par_s1 hv]; exact h)
  | @step k v h r ih => intro hv; exact .step (by rw [par_s1 hv]; exact h) (by rw [par_s1 hv]; exact ih (F.rng v hv))
theorem Rch.s2 {fs gs : List Nat} (F : Forest gs) {k v : Nat} (r : Rch gs k v) : v < gs.length → Rch (side fs gs) k (fs.length + v) := by
  induction r with
  | root h => intro hv; exact .root (by rw [par_s2 hv, h])
  | @step k v h r ih => intro hv; exact .step (by rw [par_s2 hv]; exact fun z => h (by omega)) (by rw [par_s2 hv]; exact ih (F.rng v hv))
theorem side_forest {fs gs : List Nat} (F : Forest fs) (G : Forest gs) (h : fs.length + gs.length ≤ 24) : Forest (side fs gs) := by
  refine ⟨by rw [side_len]; have := F.pos; omega, by rw [side_len]; exact h, fun v hv => ?_, fun v hv => ?_⟩
  · rw [side_len] at hv ⊢
    rcases Nat.lt_or_ge v fs.length with z | z
    · rw [par_s1 z]; have := F.rng v z; omega
    · obtain ⟨w, rfl⟩ : ∃ w, v = fs.length + w := ⟨v - fs.length, by omega⟩
      rw [par_s2 (by omega)]; have := G.rng w (by omega); omega
  · rw [side_len] at hv
    rcases Nat.lt_or_ge v fs.length with z | z
    · obtain ⟨k, r⟩ := F.rch v z
      exact ⟨k, r.s1 F z⟩
    · obtain ⟨w, rfl⟩ : ∃ w, v = fs.length + w := ⟨v - fs.length, by omega⟩
      obtain ⟨k, r⟩ := G.rch w (by omega)
      exact ⟨k, r.s2 G (by omega)⟩
section
variable {fs gs : List Nat} (F : Forest fs) (G : Forest gs) (h : fs.length + gs.length ≤ 24)
include F G h
theorem way_s1 {v : Nat} (hv : v < fs.length) : way (side fs gs) v = way fs v := Ext.ways ⟨F, side_forest F G h, by rw [side_len]; omega, fun v hv => par_s1 hv⟩ hv
theorem pth_s2 {v : Nat} {l : List Nat} (p : Pth gs v l) : v < gs.length → Pth (side fs gs) (fs.length + v) (l.map (fs.length + ·)) := by
  induction p with
  | root e => intro hv; exact .root (by rw [par_s2 hv, e])
  | @step v l e p ih => intro hv; exact .step (by rw [par_s2 hv]; exact fun z => e (by omega)) (by rw [par_s2 hv]; exact ih (G.rng v hv))
theorem way_s2 {v : Nat} (hv : v < gs.length) : way (side fs gs) (fs.length + v) = (way gs v).map (fs.length + ·) := (way_pth (side_forest F G h) (by rw [side_len]; omega)).inj (pth_s2 F G h (way_pth G hv) hv)
theorem wS_s1 {u : Nat} (hu : u < fs.length) : wS (side fs gs) u = wS fs u := by
  unfold wS
  rw [side_len, List.range_add, List.map_append, List.sum_append, List.map_map]
  rw [sum_congr (f := fun v => if u ∈ way (side fs gs) v then 1 else 0) (g := fun v => if u ∈ way fs v then 1 else 0) fun v hv => by rw [way_s1 F G h (List.mem_range.mp hv)]]
  rw [sum_zero (f := (fun v => if u ∈ way (side fs gs) v then 1 else 0) ∘ fun x => fs.length + x) fun v hv => ?_]
  · rfl
  · show (if u ∈ way (side fs gs) (fs.length + v) then 1 else 0) = 0
    rw [way_s2 F G h (List.mem_range.mp hv), if_neg]
    intro z
    obtain ⟨x, _, e⟩ := List.mem_map.mp z
    omega
theorem wS_s2 {u : Nat} (hu : u < gs.length) : wS (side fs gs) (fs.length + u) = wS gs u := by
  unfold wS
  rw [side_len, List.range_add, List.map_append, List.sum_append, List.map_map]
  rw [sum_zero (f := fun v => if fs.length + u ∈ way (side fs gs) v then 1 else 0) fun v hv => ?_, Nat.zero_add]
  · refine sum_congr fun v hv => ?_
    show (if fs.length + u ∈ way (side fs gs) (fs.length + v) then 1 else 0) = _
    rw [way_s2 F G h (List.mem_range.mp hv)]
    have iff : (fs.length + u ∈ (way gs v).map (fs.length + ·)) ↔ u ∈ way gs v := ⟨fun z => by
      obtain ⟨x, hx, e⟩ := List.mem_map.mp z
      have : x = u := by omega
      rw [← this]; exact hx, fun z => List.mem_map.mpr ⟨u, z, rfl⟩⟩
    by_cases m : u ∈ way gs v
    · rw [if_pos (iff.mpr m), if_pos m]
    · rw [if_neg (fun z => m (iff.mp z)), if_neg m]
  · have hv := List.mem_range.mp hv
    rw [way_s1 F G h hv, if_neg]
    intro z
    have := way_lt F hv _ z
    omega
theorem hvC_s1 {c : Nat} (hc : c < fs.length) : hvC (side fs gs) c = hvC fs c := by
  have S := side_forest F G h
  have pc := F.rng c hc
  have e1 : othL (side fs gs) c = othL fs c := by
    unfold othL
    rw [side_len, List.range_add, List.filter_append, par_s1 hc]
    have z1 : (List.range fs.length).filter (fun k => decide (par (side fs gs) k = par fs c) && decide (k ≠ par fs c)) = (List.range fs.length).filter fun k => decide (par fs k = par fs c) && decide (k ≠ par fs c) := List.filter_congr fun k hk => by rw [par_s1 (List.mem_range.mp hk)]
    have z2 : ((List.range gs.length).map (fs.length + ·)).filter (fun k => decide (par (side fs gs) k = par fs c) && decide (k ≠ par fs c)) = [] := List.filter_eq_nil_iff.mpr fun k hk => by
      obtain ⟨x, hx, rfl⟩ := List.mem_map.mp hk
      rw [par_s2 (List.mem_range.mp hx), decide_eq_false (by omega), Bool.false_and]
      decide
    rw [z1, z2, List.append_nil]
  have e2 : ∀ k, k < fs.length → ldC (side fs gs) k = ldC fs k := fun k hk => by rw [ldC_wS S, ldC_wS F, wS_s1 F G h hk]
  have e3 : ligL (side fs gs) c = ligL fs c := by
    unfold ligL
    rw [e1, List.filter_congr (q := fun k => decide (ldC fs k < ldC fs c)) fun k hk => by rw [e2 k (List.mem_range.mp (List.mem_filter.mp hk).1), e2 c hc]]
    exact List.map_congr_left fun k hk => e2 k (List.mem_range.mp (List.mem_filter.mp (List.mem_filter.mp hk).1).1)
  unfold hvC
  rw [par_s1 hc, e3, e2 c hc]
theorem hvC_s2 {c : Nat} (hc : c < gs.length) : hvC (side fs gs) (fs.length + c) = hvC gs c := by
  have S := side_forest F G h
  have pc := G.rng c hc
  have e1 : othL (side fs gs) (fs.length + c) = (othL gs c).map (fs.length + ·) := by
    unfold othL
    rw [side_len, List.range_add, List.filter_append, par_s2 hc]
    have z1 : (List.range fs.length).filter (fun k => decide (par (side fs gs) k = fs.length + par gs c) && decide (k ≠ fs.length + par gs c)) = [] := List.filter_eq_nil_iff.mpr fun k hk => by
      have hk := List.mem_range.mp hk
      have := F.rng k hk
      rw [par_s1 hk, decide_eq_false (by omega), Bool.false_and]
      decide
    rw [z1, List.nil_append, List.filter_map]
    congr 1
    refine List.filter_congr fun k hk => ?_
    show (decide (par (side fs gs) (fs.length + k) = fs.length + par gs c) && decide (fs.length + k ≠ fs.length + par gs c)) = _
    rw [par_s2 (List.mem_range.mp hk)]
    congr 1
    · exact decide_eq_decide.mpr ⟨fun z => by omega, fun z => by omega⟩
    · exact decide_eq_decide.mpr ⟨fun z y => z (by omega), fun z y => z (by omega)⟩
  have e2 : ∀ k, k < gs.length → ldC (side fs gs) (fs.length + k) = ldC gs k := fun k hk => by rw [ldC_wS S, ldC_wS G, wS_s2 F G h hk]
  have e3 : ligL (side fs gs) (fs.length + c) = ligL gs c := by
    unfold ligL
    rw [e1, List.filter_map, List.map_map, List.filter_congr (q := fun k => decide (ldC gs k < ldC gs c)) fun k hk => ?_]
    · exact List.map_congr_left fun k hk => e2 k (List.mem_range.mp (List.mem_filter.mp (List.mem_filter.mp hk).1).1)
    · show decide (ldC (side fs gs) (fs.length + k) < ldC (side fs gs) (fs.length + c)) = _
      rw [e2 k (List.mem_range.mp (List.mem_filter.mp hk).1), e2 c hc]
  unfold hvC
  rw [par_s2 hc, e3, e2 c hc]
  congr 1
  exact decide_eq_decide.mpr ⟨fun z y => z (by omega), fun z y => z (by omega)⟩
theorem hvy_side : (List.range (side fs gs).length).filter (hvC (side fs gs)) = (List.range fs.length).filter (hvC fs) ++ ((List.range gs.length).filter (hvC gs)).map (fs.length + ·) := by
  rw [side_len, List.range_add, List.filter_append, List.filter_map, List.filter_congr fun k hk => hvC_s1 F G h (List.mem_range.mp hk)]
  congr 2
  exact List.filter_congr fun k hk => hvC_s2 F G h (List.mem_range.mp hk)
end
theorem side_side (a b c : List Nat) : side (side a b) c = side a (side b c) := by
  unfold side
  rw [List.map_append, List.append_assoc, List.length_append, List.length_map, List.map_map]
  congr 2
  exact List.map_congr_left fun x _ => by show a.length + b.length + x = a.length + (b.length + x); omega
/-! ### more leaves below p -/
def lvs (fs : List Nat) (p k : Nat) : List Nat := fs ++ List.replicate k p
theorem lvs_len (fs : List Nat) (p k : Nat) : (lvs fs p k).length = fs.length + k := by unfold lvs; rw [List.length_append, List.length_replicate]
theorem par_l1 {fs : List Nat} {p k v : Nat} (hv : v < fs.length) : par (lvs fs p k) v = par fs v := by
  unfold par lvs
  rw [List.getD_eq_getElem?_getD, List.getElem?_append_left hv, ← List.getD_eq_getElem?_getD]
theorem par_l2 {fs : List Nat} {p k i : Nat} (hi : i < k) : par (lvs fs p k) (fs.length + i) = p := by
  unfold par lvs
  rw [List.getD_eq_getElem?_getD, List.getElem?_append_right (Nat.le_add_right _ _), Nat.add_sub_cancel_left, List.getElem?_replicate, if_pos hi]
  rfl
theorem Rch.l1 {fs : List Nat} {p m : Nat} (F : Forest fs) {k v : Nat} (r : Rch fs k v) : v < fs.length → Rch (lvs fs p m) k v := by
  induction r with
  | root h => intro hv; exact .root (by rw [par_l1 hv]; exact h)
  | @step k v h r ih => intro hv; exact .step (by rw [par_l1 hv]; exact h) (by rw [par_l1 hv]; exact ih (F.rng v hv))
theorem lvs_forest {fs : List Nat} {p k : Nat} (F : Forest fs) (hp : p < fs.length) (h : fs.length + k ≤ 24) : Forest (lvs fs p k) := by
  refine ⟨by rw [lvs_len]; have := F.pos; omega, by rw [lvs_len]; exact h, fun v hv => ?_, fun v hv => ?_⟩
  · rw [lvs_len] at hv ⊢
    rcases Nat.lt_or_ge v fs.length with z | z
    · rw [par_l1 z]; have := F.rng v z; omega
    · obtain ⟨w, rfl⟩ : ∃ w, v = fs.length + w := ⟨v - fs.length, by omega⟩
      rw [par_l2 (by omega)]; omega
  · rw [lvs_len] at hv
    rcases Nat.lt_or_ge v fs.length with z | z
    · obtain ⟨j, r⟩ := F.rch v z
      exact ⟨j, r.l1 F z⟩
    · obtain ⟨w, rfl⟩ : ∃ w, v = fs.length + w := ⟨v - fs.length, by omega⟩
      obtain ⟨j, r⟩ := F.rch p hp
      exact ⟨j + 1, .step (by rw [par_l2 (by omega)]; omega) (by rw [par_l2 (by omega)]; exact r.l1 F hp)⟩
section
variable {fs : List Nat} {p k : Nat} (F : Forest fs) (hp : p < fs.length) (h : fs.length + k ≤ 24)
include F hp h
theorem way_l1 {v : Nat} (hv : v < fs.length) : way (lvs fs p k) v = way fs v := Ext.ways ⟨F, lvs_forest F hp h, by rw [lvs_len]; omega, fun v hv => par_l1 hv⟩ hv
theorem way_l2 {i : Nat} (hi : i < k) : way (lvs fs p k) (fs.length + i) = (fs.length + i) :: way fs p := by
  refine (way_pth (lvs_forest F hp h) (by rw [lvs_len]; omega)).inj (.step (by rw [par_l2 hi]; omega) ?_)
  rw [par_l2 hi, ← way_l1 F hp h hp]
  exact way_pth (lvs_forest F hp h) (by rw [lvs_len]; omega)
theorem wS_l1 {u : Nat} (hu : u < fs.length) (out : u ∉ way fs p) : wS (lvs fs p k) u = wS fs u := by
  unfold wS
  rw [lvs_len, List.range_add, List.map_append, List.sum_append, List.map_map]
  rw [sum_congr (f := fun v => if u ∈ way (lvs fs p k) v then 1 else 0) (g := fun v => if u ∈ way fs v then 1 else 0) fun v hv => by rw [way_l1 F hp h (List.mem_range.mp hv)]]
  have z : (((List.range k).map ((fun v => if u ∈ way (lvs fs p k) v then 1 else 0) ∘ fun x => fs.length + x))).sum = 0 := sum_zero fun v hv => by
    show (if u ∈ way (lvs fs p k) (fs.length + v) then 1 else 0) = 0
    rw [way_l2 F hp h (List.mem_range.mp hv), if_neg]
    intro z
    rcases List.mem_cons.mp z with e | e
    · omega
    · exact out e
  rw [z, Nat.add_zero]
theorem wS_l2 {i : Nat} (hi : i < k) : wS (lvs fs p k) (fs.length + i) = 1 := by
  unfold wS
  rw [lvs_len, List.range_add, List.map_append, List.sum_append, List.map_map]
  have z1 : ((List.range fs.length).map fun v => if fs.length + i ∈ way (lvs fs p k) v then 1 else 0).sum = 0 := sum_zero fun v hv => by
    have hv := List.mem_range.mp hv
    rw [way_l1 F hp h hv, if_neg]
    intro z
    have := way_lt F hv _ z
    omega
  have z2 : (((List.range k).map ((fun v => if fs.length + i ∈ way (lvs fs p k) v then 1 else 0) ∘ fun x => fs.length + x))).sum = 1 := by
    rw [sum_congr (g := fun x => if x = i then 1 else 0) fun v hv => ?_]
    · exact sum_ind List.nodup_range (List.mem_range.mpr hi)
    · show (if fs.length + i ∈ way (lvs fs p k) (fs.length + v) then 1 else 0) = _
      rw [way_l2 F hp h (List.mem_range.mp hv)]
      by_cases e : v = i
      · rw [if_pos e, if_pos (by rw [e]; exact List.mem_cons_self)]
      · rw [if_neg e, if_neg]
        intro z
        rcases List.mem_cons.mp z with y | y
        · omega
        · have := way_lt F hp _ y
          omega
  rw [z1, z2]
theorem hvC_l {c : Nat} (hc : c < fs.length) (pc : par fs c = p) (lo : p ≠ c) (one : 1 < ldC fs c) : hvC (lvs fs p k) c = decide (1 + ((ligL fs c).sum + k) < ldC fs c) := by
  have S := lvs_forest F hp h
  have out : ∀ u, u < fs.length → par fs u = p → u ≠ p → u ∉ way fs p := fun u hu pu ne z => by
    have b := ((way_pth F hp).bel u).mp z
    rw [← pu] at b
    exact Bel.no (F.rch u hu) (by rw [pu]; exact fun y => ne y.symm) b
  have e1 : othL (lvs fs p k) c = othL fs c ++ (List.range k).map (fs.length + ·) := by
    unfold othL
    rw [lvs_len, List.range_add, List.filter_append, par_l1 hc, pc]
    have z1 : (List.range fs.length).filter (fun v => decide (par (lvs fs p k) v = p) && decide (v ≠ p)) = (List.range fs.length).filter fun v => decide (par fs v = p) && decide (v ≠ p) := List.filter_congr fun v hv => by rw [par_l1 (List.mem_range.mp hv)]
    have z2 : ((List.range k).map (fs.length + ·)).filter (fun v => decide (par (lvs fs p k) v = p) && decide (v ≠ p)) = (List.range k).map (fs.length + ·) := List.filter_eq_self.mpr fun v hv => by
      obtain ⟨x, hx, rfl⟩ := List.mem_map.mp hv
      rw [par_l2 (List.mem_range.mp hx), decide_eq_true rfl, decide_eq_true (by omega)]
      rfl
    rw [z1, z2]
  have e2 : ∀ u, u < fs.length → par fs u = p → u ≠ p → ldC (lvs fs p k) u = ldC fs u := fun u hu pu ne => by rw [ldC_wS S, ldC_wS F, wS_l1 F hp h hu (out u hu pu ne)]
  have ec := e2 c hc pc fun z => lo z.symm
  have mo : ∀ u ∈ othL fs c, u < fs.length ∧ par fs u = p ∧ u ≠ p := fun u hu => by
    obtain ⟨m1, m2⟩ := List.mem_filter.mp hu
    obtain ⟨m2, m3⟩ := Bool.and_eq_true_iff.mp m2
    exact ⟨List.mem_range.mp m1, (of_decide_eq_true m2).trans pc, by rw [← pc]; exact of_decide_eq_true m3⟩
  have e3 : (ligL (lvs fs p k) c).sum = (ligL fs c).sum + k := by
    unfold ligL
    rw [e1, List.filter_append, List.map_append, List.sum_append, ec]
    have z1 : (othL fs c).filter (fun u => decide (ldC (lvs fs p k) u < ldC fs c)) = (othL fs c).filter fun u => decide (ldC fs u < ldC fs c) := List.filter_congr fun u hu => by
      obtain ⟨a, b, d⟩ := mo u hu
      rw [e2 u a b d]
    have z2 : ((List.range k).map (fs.length + ·)).filter (fun u => decide (ldC (lvs fs p k) u < ldC fs c)) = (List.range k).map (fs.length + ·) := List.filter_eq_self.mpr fun v hv => by
      obtain ⟨x, hx, rfl⟩ := List.mem_map.mp hv
      rw [ldC_wS S, wS_l2 F hp h (List.mem_range.mp hx), decide_eq_true one]
    rw [z1, z2, List.map_map]
    congr 1
    · congr 1
      refine List.map_congr_left fun u hu => ?_
      obtain ⟨a, b, d⟩ := mo u (List.mem_filter.mp hu).1
      exact e2 u a b d
    · have : ((List.range k).map (ldC (lvs fs p k) ∘ fun x => fs.length + x)) = (List.range k).map fun _ => 1 := List.map_congr_left fun x hx => by
        show ldC (lvs fs p k) (fs.length + x) = 1
        rw [ldC_wS S, wS_l2 F hp h (List.mem_range.mp hx)]
      rw [this, List.map_const', List.length_range, List.sum_replicate_nat, Nat.mul_one]
  unfold hvC
  rw [par_l1 hc, pc, decide_eq_true lo, Bool.true_and, e3, ec]
end
/-! ### renamed -/
theorem Ren.hv {ps od fs : List Nat} (R : Ren ps od fs) {c : Nat} (hc : c < ps.length) : hvC fs (od.getD c 0) = hvC ps c := by
  have pl := R.F.rng c hc
  have hs : ∀ {l m : List Nat}, l.Perm m → l.sum = m.sum := fun h => by
    induction h with
    | nil => rfl
    | cons x _ ih => rw [List.sum_cons, List.sum_cons, ih]
    | swap x y l => rw [List.sum_cons, List.sum_cons, List.sum_cons, List.sum_cons]; omega
    | trans _ _ a b => exact a.trans b
  have ep : (List.range fs.length).Perm ((List.range ps.length).map fun k => od.getD k 0) := by
    have e : od = (List.range ps.length).map fun k => od.getD k 0 := by
      refine List.ext_getElem? fun i => ?_
      rw [List.getElem?_map]
      have ol := R.ol
      rcases Nat.lt_or_ge i ps.length with z | z
      · rw [List.getElem?_range z]
        show _ = some (od.getD i 0)
        rw [List.getD_eq_getElem?_getD, List.getElem?_eq_getElem (show i < od.length by omega)]
        rfl
      · rw [List.getElem?_eq_none (by omega), List.getElem?_eq_none (by rw [List.length_range]; exact z)]
        rfl
    rw [← e, R.len]
    exact R.pm.symm
  have e1 : (othL fs (od.getD c 0)).Perm ((othL ps c).map fun k => od.getD k 0) := by
    unfold othL
    refine (ep.filter _).trans ?_
    rw [List.filter_map]
    refine List.Perm.map _ (List.Perm.of_eq (List.filter_congr fun k hk => ?_))
    have hk := List.mem_range.mp hk
    show (decide (par fs (od.getD k 0) = par fs (od.getD c 0)) && decide (od.getD k 0 ≠ par fs (od.getD c 0))) = _
    rw [R.at_ k hk, R.at_ c hc]
    congr 1
    · exact decide_eq_decide.mpr ⟨fun z => R.inj (R.F.rng k hk) pl z, fun z => by rw [z]⟩
    · exact decide_eq_decide.mpr ⟨fun z y => z (by rw [y]), fun z y => z (R.inj hk pl y)⟩
  have e3 : (ligL fs (od.getD c 0)).sum = (ligL ps c).sum := by
    unfold ligL
    refine (hs ((e1.filter _).map _)).trans ?_
    rw [List.filter_map, List.map_map]
    have z1 : (othL ps c).filter ((fun k => decide (ldC fs k < ldC fs (od.getD c 0))) ∘ fun k => od.getD k 0) = (othL ps c).filter fun k => decide (ldC ps k < ldC ps c) := List.filter_congr fun k hk => by
      show decide (ldC fs (od.getD k 0) < ldC fs (od.getD c 0)) = _
      rw [R.ld (List.mem_range.mp (List.mem_filter.mp hk).1), R.ld hc]
    rw [z1]
    congr 1
    exact List.map_congr_left fun k hk => R.ld (List.mem_range.mp (List.mem_filter.mp (List.mem_filter.mp hk).1).1)
  unfold hvC
  rw [e3, R.ld hc, R.at_ c hc]
  congr 1
  exact decide_eq_decide.mpr ⟨fun z y => z (by rw [y]), fun z y => z (R.inj pl hc y)⟩
theorem Ren.hvy {ps od fs : List Nat} (R : Ren ps od fs) : ((List.range fs.length).filter (hvC fs)).Perm (((List.range ps.length).filter (hvC ps)).map fun k => od.getD k 0) := by
  have ol := R.ol
  refine (List.perm_ext_iff_of_nodup (List.Pairwise.filter _ List.nodup_range) ?_).mpr fun v => ?_
  · exact List.pairwise_map.mpr (List.Pairwise.imp_of_mem (fun {a b} ha hb ne e => ne (R.inj (List.mem_range.mp (List.mem_filter.mp ha).1) (List.mem_range.mp (List.mem_filter.mp hb).1) e)) (List.Pairwise.filter _ List.nodup_range))
  · rw [List.mem_filter, List.mem_map, List.mem_range]
    constructor
    · rintro ⟨h1, h2⟩
      have : v ∈ od := R.pm.mem_iff.mpr (List.mem_range.mpr (by rw [← R.len]; exact h1))
      obtain ⟨k, hk, e⟩ := List.getElem_of_mem this
      have e : od.getD k 0 = v := by rw [List.getD_eq_getElem?_getD, List.getElem?_eq_getElem hk]; exact e
      refine ⟨k, List.mem_filter.mpr ⟨List.mem_range.mpr (by omega), ?_⟩, e⟩
      rw [← R.hv (by omega), e]
      exact h2
    · rintro ⟨k, hk, rfl⟩
      obtain ⟨h1, h2⟩ := List.mem_filter.mp hk
      have h1 := List.mem_range.mp h1
      exact ⟨R.low h1, by rw [R.hv h1]; exact h2⟩
theorem heavy_hvC {fs : List Nat} (F : Forest fs) {c : Nat} (hv : Heavy fs c) : hvC fs c = true := by
  obtain ⟨hc, lo, h⟩ := hv
  unfold hvC
  rw [decide_eq_true lo, Bool.true_and, decide_eq_true_iff, ldC_wt F]
  refine Nat.lt_of_le_of_lt (Nat.add_le_add_left ?_ 1) h
  unfold ligL
  rw [filter_sum]
  have ek : kids fs (par fs c) = othL fs c := List.filter_congr fun k _ => by
    by_cases z : par fs k = par fs c
    · rw [z]
    · rw [decide_eq_false z, Bool.false_and, Bool.false_and]
  rw [ek]
  refine Nat.le_of_eq (sum_congr fun k _ => ?_)
  rw [ldC_wt F, ldC_wt F]
  by_cases z : wt fs k < wt fs c
  · rw [if_pos z, if_pos (decide_eq_true z)]
  · rw [if_neg z, if_neg (by rw [decide_eq_false z]; exact Bool.false_ne_true)]
end Lf
namespace Lf
open PySem PySem.Spec PyProof.Rows L2
theorem im_nv {B : Addr → Prop} {H : Hp} : ∀ l : List Nat, ImAll B H (nv l) (nD l)
  | [] => .nil
  | x :: l => .cons (.int _) (im_nv l)
theorem nv_im {B : Addr → Prop} {H : Hp} : ∀ {xs : List V} {l : List Nat}, ImAll B H xs (nD l) → xs = nv l
  | [], [], _ => rfl
  | [], _ :: _, h => by cases h
  | _ :: _, [], h => by cases h
  | x :: xs, z :: l, h => by
    have h : ImAll B H (x :: xs) (.int (z : Nat) :: nD l) := h
    cases h with
    | cons h1 h2 =>
      cases h1
      rw [nv_im h2]
      rfl
/-! ### a drawing state [numbers, state]: the zone of two lists -/
def wOk (w l : Addr) (H : Hp) : Prop := w ≠ l ∧ ∃ (xs : List Int) (st : Int), H w = some (.lst [.ref l, .int st]) ∧ H l = some (.lst (xs.map V.int)) ∧ xs.length ≤ 63 ∧ 0 ≤ st ∧ st < 18446744073709551616
def wz (w l : Addr) : Zn where
  S := Unit
  at_ := fun a => a = w ∨ a = l
  ok := fun _ H => wOk w l H
  trk := fun {_ H a} ⟨_, xs, st, h1, h2, _⟩ h => by
    rcases h with rfl | rfl
    · rw [h1]; exact fun z => nomatch z
    · rw [h2]; exact fun z => nomatch z
  nt := fun {_ H a zs} ⟨_, xs, st, h1, h2, _⟩ h => by
    rcases h with rfl | rfl
    · rw [h1]; exact fun z => nomatch z
    · rw [h2]; exact fun z => nomatch z
  nf := fun {_ H a o u} ⟨_, xs, st, h1, h2, _⟩ h => by
    rcases h with rfl | rfl
    · rw [h1]; exact fun z => nomatch z
    · rw [h2]; exact fun z => nomatch z
  st := fun {_ H H'} ⟨n, xs, st, h1, h2, h3⟩ k _ _ => ⟨n, xs, st, k _ _ (.inl rfl) h1, k _ _ (.inr rfl) h2, h3⟩
def spSrc (K : PySem.W.Frag) : Sp := fun vs H Q _ => ∃ (a : Addr) (ns : List Int), vs = [.ref a] ∧ SqL K H a (ns.map V.int) ∧ ns.length ≤ 63 ∧
  ∀ H' w l, Same H H' → wOk w l H' → H w = none → H l = none → Q (.ref w) H'
/-- a number below many is drawn -/
def fDraw (w l : Addr) : DF (wz w l) := fun s as Q => ∃ many : Nat, as = [.raw (.ref w), .im (.int (many : Nat))] ∧ 1 ≤ many ∧ many < 1073741824 ∧ ∀ r : Nat, r < many → Q (.im (.int (r : Nat))) s
def spLaw (K : PySem.W.Frag) : Sp := fun vs H Q _ => ∃ (a : Addr) (ns : List Int), vs = [.ref a] ∧ SqL K H a (ns.map V.int) ∧ ns.length ≤ 63 ∧ ∀ H', Q (.bl true) H'
theorem PSs.ex {X : Cx} {sts : List Stmt} {t : Addr → Addr → TS} (h : ∀ w l, PSs X sts (t w l)) : PSs X sts (fun D σ H => ∃ w l, t w l D σ H) := ⟨fun pins s σ H D I ⟨w, l, q⟩ => (h w l).run pins s σ H D I q⟩
theorem zone_in {H : Hp} {Q : VK} {b wa la : Addr} {m : Nat} {t : (w l : Addr) → DSt (wz w l)} (ok : wOk wa la H) (q : ∀ G, Q (.bl true) G) (hd : t wa la (ends fun r _ => r = .im (.bool true)) () ([.raw (.ref b), .raw (.ref wa)] ++ List.replicate m .no)) :
    ∃ w l, liftS (wz w l) (t w l) { nx := fun _ H' => Q .non H', rt := Q } ([some (.ref b), some (.ref wa)] ++ List.replicate m none) H := by
  refine ⟨wa, la, fun _ => False, H, [.raw (.ref b), .raw (.ref wa)] ++ List.replicate m .no, (), ends fun r _ => r = .im (.bool true), ?_, hd, (fun s' ρ' σ' H' z _ _ => by cases (show (Rv.im .none) = .im (.bool true) from z)), (fun _ _ _ _ z _ _ => (show False from z).elim), (fun _ _ _ _ z _ _ => (show False from z).elim), fun r s' v H' z _ _ rr => ?_⟩
  · have eo : own ([.raw (.ref b), .raw (.ref wa)] ++ List.replicate m .no) = [] := ArgRs.own (B := fun _ => False) (H := H) (.cons (v := .ref b) (x := .raw (.ref b)) rfl (.cons (v := .ref wa) (x := .raw (.ref wa)) rfl .nil))
    refine ⟨ok, by simp, fun i x e => ?_, by rw [eo]; exact List.nodup_nil, (fun a ha => by rw [eo] at ha; exact absurd ha List.not_mem_nil), fun a z => z.elim, fun b o e _ => e⟩
    match i with
    | 0 => cases e; exact ⟨_, rfl, rfl⟩
    | 1 => cases e; exact ⟨_, rfl, rfl⟩
    | i + 2 =>
      have e2 : (List.replicate m Sl.no)[i]? = some x := e
      have hi : i < m := by
        have := (List.getElem?_eq_some_iff.mp e2).1
        rw [List.length_replicate] at this
        exact this
      have hx : x = .no := by
        rw [List.getElem?_replicate, if_pos hi] at e2
        exact (Option.some.inj e2).symm
      subst hx
      refine ⟨none, ?_, trivial⟩
      show (List.replicate m (none : Option V))[i]? = some none
      rw [List.getElem?_replicate, if_pos hi]
  · cases (show r = .im (.bool true) from z)
    cases (show Im _ H' v _ from rr)
    exact q H'
end Lf
namespace Lf
open PySem PySem.Spec PyProof.Rows L2
/-! ### builds.py, forests.py over data: is_join, after_join, renamed, beside -/
def fIsJ : DF Z0 := fun s as Q => ∃ (fs : List Nat) (a b : Nat), as = [.im (tupN fs), .im (.int (a : Nat)), .im (.int (b : Nat))] ∧ Forest fs ∧ a < fs.length ∧ b < fs.length ∧ par fs a = a ∧ par fs b = b ∧ a ≠ b ∧ wt fs a ≤ wt fs b ∧ Q (.im (.bool true)) s
def fAft : DF Z0 := fun s as Q => ∃ (fs : List Nat) (a b : Nat), as = [.im (tupN fs), .im (.int (a : Nat)), .im (.int (b : Nat))] ∧ Forest fs ∧ a < fs.length ∧ b < fs.length ∧ par fs a = a ∧ par fs b = b ∧ a ≠ b ∧ wt fs a ≤ wt fs b ∧ Q (.im (tupN (fs.set a b))) s
def fRen : DF Z0 := fun s as Q => ∃ fs od : List Nat, as = [.im (tupN fs), .im (tupN od)] ∧ Forest fs ∧ od.Perm (List.range fs.length) ∧ ∀ hs, Ren fs od hs → Q (.im (tupN hs)) s
def fPsJ : DF Z0 := fun s as Q => ∃ fs : List Nat, as = [.im (tupN fs)] ∧ Forest fs ∧ Q (.im (.tuple ((joinsL fs (tops fs)).map tupN))) s
def sides (Ls : List (List Nat)) : List Nat := Ls.foldl side []
def sumL (Ls : List (List Nat)) : Nat := (Ls.map List.length).sum
theorem fold_len (Ls : List (List Nat)) : ∀ A : List Nat, (Ls.foldl side A).length = A.length + sumL Ls := by
  unfold sumL
  induction Ls with
  | nil => intro A; rfl
  | cons L Ls ih => intro A; rw [List.foldl_cons, ih, side_len, List.map_cons, List.sum_cons]; omega
theorem sides_len (Ls : List (List Nat)) : (sides Ls).length = sumL Ls := by
  unfold sides
  rw [fold_len]
  exact Nat.zero_add _
theorem sumL_take (Ls : List (List Nat)) (i : Nat) : sumL (Ls.take i) ≤ sumL Ls := by
  unfold sumL
  conv => rhs; rw [← List.take_append_drop i Ls, List.map_append, List.sum_append]
  exact Nat.le_add_right _ _
def fBes : DF Z0 := fun s as Q => ∃ Ls : List (List Nat), as = [.im (.tuple (Ls.map tupN))] ∧ Ls.length ≤ 1000 ∧ Ls ≠ [] ∧ sumL Ls ≤ 24 ∧ Q (.im (tupN (sides Ls))) s
def fBesX (CB CT : Addr) : DFX Z0 := fun s as Q Xd => ∃ Ls : List (List Nat), as = [.im (.tuple (Ls.map tupN))] ∧ Ls.length ≤ 1000 ∧ sumL Ls ≤ 1000 ∧ (Ls = [] → Xd CB none s) ∧ (Ls ≠ [] → 24 < sumL Ls → Xd CT (some ("limit", .int 24)) s) ∧ (Ls ≠ [] → sumL Ls ≤ 24 → Q (.im (tupN (sides Ls))) s)
section
variable {P : Program} {w : World} {K : PySem.W.Frag} {mg : Str → Option Value} {base : Heap}
abbrev s_is_join : Stmt := topS (19)
abbrev N_is_join : List Str := ["forest", "child", "parent", "loads"]
abbrev p_is_join : List Str := ["forest", "child", "parent"]
theorem sc_is_join : FnScope N_is_join p_is_join (defScope s_is_join) := ⟨rfl, rfl, rfl, by decide +kernel, rfl, by decide +kernel, by decide +kernel⟩
theorem ok_is_joinD (M : Mk K mg "is_join" s_is_join p_is_join) (d_are_two_roots : Df P w K mg base CX0 4 "are_two_roots" p_are_two_roots (spD Z0 fTwoR)) (d_weights : Df P w K mg base CX0 5 "weights" p_weights (spD Z0 fWeights)) : Df P w K mg base CX0 6 "is_join" p_is_join (spD Z0 fIsJ) := by
  have nd := sc_is_join.nd
  refine def_ok (k := 5) M sc_is_join (by decide) ?_ (fun f cdv A outer s H E hr => have hu := hu65 hr; (ds_cons (ds_if (dt_not (dt_val (de_callP d_are_two_roots pass0 hr (da_cons (dv 0) (da_cons (dv 1) (da_cons (dv 2) da_nil)))))) (ds_one (ds_ret de_bl)) ds_nil)
      (ds_cons (ds_set (i := 3) nd rfl (.inl rfl) (de_callP d_weights pass0 hr (da_cons (dv 0) da_nil)))
      (ds_one (ds_ret (de_le (de_ix (dv 3) (dv 1)) (de_ix (dv 3) (dv 2)))))))) ?_
  · rintro s as Qd ⟨fs, a, b, rfl, _⟩; rfl
  · rintro s as Qd ⟨fs, a, b, rfl, hF, ha, hb, pa, pb, ne, le, q⟩
    have wl : (wtL fs).length = fs.length := wN_len _
    refine ⟨fs, _, _, rfl, hF, .inl rfl, ?_⟩
    have e : twoR fs (.int (a : Nat)) (.int (b : Nat)) = true := by
      unfold twoR
      rw [isRtD_nat, isRtD_nat, decide_eq_true ha, decide_eq_true hb, decide_eq_true pa, decide_eq_true pb]
      show (!decide (((a : Nat) : Int) = ((b : Nat) : Int))) = true
      rw [decide_eq_false (by omega)]
      rfl
    rw [e]
    show if (!true) = true then _ else _
    rw [if_neg (by decide)]
    refine ⟨fs, rfl, hF, .inl rfl, _, nD_at (by rw [wl]; exact ha), _, nD_at (by rw [wl]; exact hb), ?_⟩
    show Qd (.im (.bool (decide (((ldC fs a : Nat) : Int) ≤ ((ldC fs b : Nat) : Int))))) s
    rw [ldC_wt hF, ldC_wt hF, decide_eq_true (by omega)]
    exact q
abbrev s_after_join : Stmt := topS (22)
abbrev N_after_join : List Str := ["forest", "child", "parent"]
abbrev p_after_join : List Str := ["forest", "child", "parent"]
theorem sc_after_join : FnScope N_after_join p_after_join (defScope s_after_join) := ⟨rfl, rfl, rfl, by decide +kernel, rfl, by decide +kernel, by decide +kernel⟩
theorem ok_after_joinD (M : Mk K mg "after_join" s_after_join p_after_join) (d_is_join : Df P w K mg base CX0 6 "is_join" p_is_join (spD Z0 fIsJ)) (d_with_parent : Df P w K mg base CX0 1 "with_parent" p_with_parent (spD Z0 fWithP)) : Df P w K mg base CX0 7 "after_join" p_after_join (spD Z0 fAft) := by
  have nd := sc_after_join.nd
  refine def_ok (k := 6) M sc_after_join (by decide) ?_ (fun f cdv A outer s H E hr => have hu := hu65 hr; (ds_cons (ds_if (dt_not (dt_val (de_callP d_is_join pass0 hr (da_cons (dv 0) (da_cons (dv 1) (da_cons (dv 2) da_nil)))))) (ds_one ds_never) ds_nil)
      (ds_one (ds_ret (de_callP d_with_parent pass0 hr (da_cons (dv 0) (da_cons (dv 1) (da_cons (dv 2) da_nil)))))))) ?_
  · rintro s as Qd ⟨fs, a, b, rfl, _⟩; rfl
  · rintro s as Qd ⟨fs, a, b, rfl, hF, ha, hb, pa, pb, ne, le, q⟩
    refine ⟨fs, a, b, rfl, hF, ha, hb, pa, pb, ne, le, .inl rfl, ?_⟩
    show if (!true) = true then _ else _
    rw [if_neg (by decide)]
    exact ⟨fs, a, b, rfl, ha, hF.few, .inl rfl, q⟩
abbrev s_renamed : Stmt := topS (15)
abbrev N_renamed : List Str := ["forest", "names", "parents", "vertex", "parent"]
abbrev p_renamed : List Str := ["forest", "names"]
theorem sc_renamed : FnScope N_renamed p_renamed (defScope s_renamed) := ⟨rfl, rfl, rfl, by decide +kernel, rfl, by decide +kernel, by decide +kernel⟩
theorem ok_renamedD (M : Mk K mg "renamed" s_renamed p_renamed) (m_enumerate : mg "enumerate" = none) (m_len : mg "len" = none) (m_tuple : mg "tuple" = none) : Df P w K mg base CX0 1 "renamed" p_renamed (spD Z0 fRen) := by
  have nd := sc_renamed.nd
  refine def_ok (k := 0) M sc_renamed (by decide) ?_ (fun f cdv A outer s H E hr => have hu := hu65 hr; (ds_cons (ds_set (i := 2) nd rfl (.inl rfl) (de_mul (de_lst (da_cons de_int da_nil)) (de_len (by rfl) m_len (da_cons (dv 0) da_nil))))
      (ds_cons (ds_for PassesOwn.never rfl (di_enumQ (by rfl) m_enumerate (da_cons (dv 0) da_nil)) (dg_tup rfl nd (.cons (i := 3) rfl (.inl rfl) (.inl rfl) rfl (.cons (i := 4) rfl (.inl rfl) (.inl rfl) rfl .nil)))
      (ds_one (ds_setIx (i := 2) rfl (by first | exact Or.inl rfl | exact Or.inr (Or.inl rfl) | exact Or.inr (Or.inr rfl)) (de_ix (dv 1) (dv 3)) (de_ix (dv 1) (dv 4)))))
      (ds_one (ds_ret (de_tuple (by rfl) m_tuple (da_cons (dv 2) da_nil))))))) ?_
  · rintro s as Qd ⟨fs, od, rfl, _⟩; rfl
  · rintro s as Qd ⟨fs, od, rfl, hF, pm, q⟩
    have few := hF.few
    have lo : od.length = fs.length := by rw [pm.length_eq, List.length_range]
    have nd' : od.Nodup := pm.nodup_iff.mpr List.nodup_range
    have atO : ∀ k, k < fs.length → od.getD k 0 < fs.length := fun k hk => by
      rw [List.getD_eq_getElem?_getD, List.getElem?_eq_getElem (by omega)]
      exact List.mem_range.mp (pm.mem_iff.mp (List.getElem_mem (by omega)))
    have inj : ∀ j k, j < fs.length → k < fs.length → od.getD j 0 = od.getD k 0 → j = k := fun j k hj hk e => by
      rw [List.getD_eq_getElem?_getD, List.getD_eq_getElem?_getD, List.getElem?_eq_getElem (by omega), List.getElem?_eq_getElem (by omega)] at e
      have e : od[j]'(by omega) = od[k]'(by omega) := e
      have h1 := nd'.idxOf_getElem j (by omega)
      have h2 := nd'.idxOf_getElem k (by omega)
      rw [e] at h1
      omega
    refine ⟨_, rfl, by show 1 ≤ 1000000; decide, by rw [nD_len]; omega, by rw [nD_len]; omega, by rw [nD_len, Int.toNat_natCast]; show 1 * _ ≤ _; omega, fun a => ?_⟩
    rw [nD_len, Int.toNat_natCast, flat_rep]
    refine ⟨rfl, fun k s ρ => ∃ (L : List Nat) (x3 x4 : Sl), ρ = [.im (tupN fs), .im (tupN od), .ow a (nD L), x3, x4] ∧ L.length = fs.length ∧ ∀ j, j < k → L.getD (od.getD j 0) 0 = od.getD (par fs j) 0, ⟨List.replicate fs.length 0, .no, .no, by rw [nD_rep]; rfl, List.length_replicate, fun j hj => by omega⟩, ?_, ?_⟩
    · rintro k d s ρ hd ⟨L, x3, x4, rfl, lL, h⟩
      obtain ⟨z, hz, rfl⟩ := enumD_get hd
      obtain ⟨p, hp, rfl⟩ := nD_some hz
      have hk : k < fs.length := (List.getElem?_eq_some_iff.mp hp).1
      have ep : p = par fs k := by unfold par; rw [List.getD_eq_getElem?_getD, hp]; rfl
      subst ep
      have pk := hF.rng k hk
      have ok := atO k hk
      refine ⟨_, nD_at (by omega), _, nD_at (by omega), _, _, nD_ix (by omega), rfl, L.set (od.getD k 0) (od.getD (par fs k) 0), .im (.int (k : Nat)), .im (.int (par fs k : Nat)), by rw [nD_set]; rfl, by rw [List.length_set]; exact lL, fun j hj => ?_⟩
      rw [List.getD_eq_getElem?_getD, List.getElem?_set]
      by_cases e : k = j
      · subst e
        rw [if_pos rfl, if_pos (by omega)]
        rfl
      · rw [if_neg fun z => e (inj k j hk (by omega) z), ← List.getD_eq_getElem?_getD]
        exact h j (by omega)
    · rintro s ρ ⟨L, x3, x4, rfl, lL, h⟩
      rw [enumD_len, nD_len] at h
      exact q L ⟨hF, pm, lL, h⟩
abbrev s_beside : Stmt := topS (25)
abbrev N_beside : List Str := ["forests", "forest", "parents", "start", "parent"]
abbrev p_beside : List Str := ["forests"]
theorem sc_beside : FnScope N_beside p_beside (defScope s_beside) := ⟨rfl, rfl, rfl, by decide +kernel, rfl, by decide +kernel, by decide +kernel⟩
theorem ok_beside {t : Tok} {f : Addr} {fd : FuncData} (Fn : Fun K "beside" "beside" s_beside f fd) (g : mg "beside" = some (.ref f)) (g_MAX_VERTICES : mg "MAX_VERTICES" = some (.int 24 t)) (m_len : mg "len" = none) (m_sum : mg "sum" = none) (m_tuple : mg "tuple" = none) : DfR P w K mg base CX0 1 "beside" (spD Z0 (fRst fBes)) := by
  have nd := sc_beside.nd
  refine dfr_ok (k := 0) (pv := "forests") Fn g sc_beside (by decide) (fun _ _ _ _ _ _ rest => ?_) (fun f cdv A outer s H E hr => have hu := hu65 hr; (ds_cons (ds_if (dt_not (dt_tru (dv 0))) (ds_one ds_never) ds_nil)
      (ds_cons (ds_if (dt_gt (de_sum rfl (by rfl) m_sum (da_cons (de_lc (ow := [("forest", 1)]) (gok_name (i := 1) (by decide)) rfl nd (di_seq (dv 0)) (blkOk_by (own := [("forest", 1)]) (N := N_beside) (sc := defScope s_beside) (by decide +kernel)) (fun _ _ _ _ _ => pg_name (i := 1) nd rfl (Or.inl rfl)) (fun _ _ _ _ _ => dp_nil) (fun _ _ _ _ _ => (de_len (by rfl) m_len (da_cons (dv 1) da_nil)))) da_nil)) (de_gi (by rfl) g_MAX_VERTICES)) (ds_one ds_never) ds_nil)
      (ds_cons (ds_set (i := 2) nd rfl (.inl rfl) (de_lst da_nil))
      (ds_cons (ds_frz 0 (ds_for PassesOwn.never rfl (di_seq (dv 0)) (dg_name (i := 1) nd rfl (.inl rfl))
      (ds_cons (ds_set (i := 3) nd rfl (.inr rfl) (de_len (by rfl) m_len (da_cons (dv 2) da_nil)))
      (ds_one (ds_iaddL (i := 2) nd rfl (.inl rfl) (de_lc (ow := [("parent", 4)]) (gok_name (i := 4) (by decide)) rfl nd (di_seq (dv 1)) (blkOk_by (own := [("parent", 4)]) (N := N_beside) (sc := defScope s_beside) (by decide +kernel)) (fun _ _ _ _ _ => pg_name (i := 4) nd rfl (Or.inl rfl)) (fun _ _ _ _ _ => dp_nil) (fun _ _ _ _ _ => (de_add (dv 3) (dv 4)))))))))
      (ds_one (ds_ret (de_tuple (by rfl) m_tuple (da_cons (dv 2) da_nil))))))))) ?_
  · cases rest with
    | nil => rfl
    | cons r rs => rfl
  · rintro rest s Qd ⟨Ls, e, lL, ne, hs, q⟩
    obtain rfl : rest = Ls.map tupN := by simpa using e
    have lp : 0 < Ls.length := List.length_pos_iff.mpr ne
    refine ⟨trivial, ?_⟩
    have eE : (!(!(Ls.map tupN).isEmpty)) = false := by
      cases Ls with
      | nil => exact absurd rfl ne
      | cons _ _ => rfl
    show if (!(!(Ls.map tupN).isEmpty)) = true then _ else _
    rw [eE, if_neg (by decide)]
    refine ⟨rfl, ?_⟩
    refine lcR_map (l := Ls) (h := tupN) (f := fun L => some (.int ((nD L).length : Nat))) (fun L hL C hC => ⟨_, rfl, hC⟩) (by show 0 + _ ≤ _; omega) ?_
    rw [List.nil_append, fm_some]
    refine ⟨Ls.map fun L => ((L.length : Nat) : Int), by rw [List.map_map]; exact List.map_congr_left fun L _ => by rw [nD_len]; rfl, ?_⟩
    have eS : (Ls.map fun L => ((L.length : Nat) : Int)).sum = ((sumL Ls : Nat) : Int) := by
      unfold sumL
      rw [← sumN, List.map_map]
      rfl
    rw [eS]
    show if decide ((24 : Int) < ((sumL Ls : Nat) : Int)) = true then _ else _
    rw [if_neg (by rw [decide_eq_false (by omega)]; decide)]
    refine ⟨_, rfl, by show 0 ≤ 1000000; decide, fun a => ?_⟩
    refine ⟨rfl, fun i s ρ => ∃ x1 x3 : Sl, ρ = [.im (.tuple (Ls.map tupN)), x1, .ow a (nD (sides (Ls.take i))), x3, .no], ⟨_, _, rfl⟩, ?_, ?_⟩
    · rintro i d s ρ hd ⟨x1, x3, rfl⟩
      have hd : (Ls.map tupN)[i]? = some d := hd
      rw [List.getElem?_map] at hd
      obtain ⟨B, hB, rfl⟩ := Option.map_eq_some_iff.mp hd
      have lB : B.length ≤ 24 := Nat.le_trans (sum_mem (f := List.length) (List.mem_of_getElem? hB)) hs
      have lS : (sides (Ls.take i)).length ≤ 24 := by rw [sides_len]; exact Nat.le_trans (sumL_take Ls i) hs
      have eS : sides (Ls.take (i + 1)) = side (sides (Ls.take i)) B := by unfold sides; rw [take_snoc hB, List.foldl_append]; rfl
      obtain ⟨S, e1⟩ : ∃ S, sides (Ls.take i) = S := ⟨_, rfl⟩
      rw [e1] at lS eS ⊢
      refine ⟨rfl, ?_⟩
      refine lcR_nD (l := B) (f := fun v => some (.int (((nD S).length : Nat) + ((v : Nat) : Int)))) (fun v hv C hC => ⟨_, rfl, hC⟩) (by omega) ?_
      rw [fm_some]
      refine ⟨by rw [nD_len, List.length_map]; omega, .im (tupN B), .im (.int ((nD S).length : Nat)), ?_⟩
      have eN : nD (side S B) = nD S ++ B.map fun v => PyData.int (((nD S).length : Nat) + ((v : Nat) : Int)) := by
        unfold side
        rw [nD_app]
        congr 1
        unfold nD
        rw [List.map_map]
        refine List.map_congr_left fun v _ => ?_
        show PyData.int ((S.length + v : Nat) : Int) = _
        rw [List.length_map]
        congr 1
      rw [eS, eN]
      rfl
    · rintro s ρ ⟨x1, x3, rfl⟩
      rw [List.length_map, List.take_length]
      exact q
theorem ok_besideX {t : Tok} {CB CT : Addr} {f : Addr} {fd : FuncData} (Fn : Fun K "beside" "beside" s_beside f fd) (g : mg "beside" = some (.ref f)) (g_MAX_VERTICES : mg "MAX_VERTICES" = some (.int 24 t)) (R_BadCount : Err0 K mg "BadCount" CB) (R_TooMany : ErrF P w K mg base "TooMany" "limit" CT) (m_len : mg "len" = none) (m_sum : mg "sum" = none) (m_tuple : mg "tuple" = none) : DfR P w K mg base (L2.CX P w) 3 "beside" (spX Z0 (fRstX (fBesX CB CT))) := by
  have nd := sc_beside.nd
  refine dfr_okX (k := 2) (pv := "forests") Fn g sc_beside (by decide) (fun _ _ _ _ _ _ rest => ?_) (fun f cdv A outer s H E hr => have hu := hu65 hr; (dx_cons (dx_if (dt_not (dt_tru (dv 0))) (dx_one (dx_raise0 (takes_of rfl rfl rfl rfl) rfl R_BadCount hr)) dx_nil)
      (dx_cons (dx_if (dt_gt (de_sum rfl (by rfl) m_sum (da_cons (de_lc (ow := [("forest", 1)]) (gok_name (i := 1) (by decide)) rfl nd (di_seq (dv 0)) (blkOk_by (own := [("forest", 1)]) (N := N_beside) (sc := defScope s_beside) (by decide +kernel)) (fun _ _ _ _ _ => pg_name (i := 1) nd rfl (Or.inl rfl)) (fun _ _ _ _ _ => dp_nil) (fun _ _ _ _ _ => (de_len (by rfl) m_len (da_cons (dv 1) da_nil)))) da_nil)) (de_gi (by rfl) g_MAX_VERTICES)) (dx_one (dx_raise (takes_of rfl rfl rfl rfl) rfl R_TooMany hr (da_cons (de_gi (by rfl) g_MAX_VERTICES) da_nil))) dx_nil)
      (dxs_of (ds_cons (ds_set (i := 2) nd rfl (.inl rfl) (de_lst da_nil))
      (ds_cons (ds_frz 0 (ds_for (passes_of rfl) rfl (di_seq (dv 0)) (dg_name (i := 1) nd rfl (.inl rfl))
      (ds_cons (ds_set (i := 3) nd rfl (.inr rfl) (de_len (by rfl) m_len (da_cons (dv 2) da_nil)))
      (ds_one (ds_iaddL (i := 2) nd rfl (.inl rfl) (de_lc (ow := [("parent", 4)]) (gok_name (i := 4) (by decide)) rfl nd (di_seq (dv 1)) (blkOk_by (own := [("parent", 4)]) (N := N_beside) (sc := defScope s_beside) (by decide +kernel)) (fun _ _ _ _ _ => pg_name (i := 4) nd rfl (Or.inl rfl)) (fun _ _ _ _ _ => dp_nil) (fun _ _ _ _ _ => (de_add (dv 3) (dv 4)))))))))
      (ds_one (ds_ret (de_tuple (by rfl) m_tuple (da_cons (dv 2) da_nil)))))))))) ?_
  · cases rest with
    | nil => rfl
    | cons r rs => rfl
  · rintro rest s Qd Xd ⟨Ls, e, lL, lS9, q0, q1, q2⟩
    obtain rfl : rest = Ls.map tupN := by simpa using e
    refine ⟨trivial, ?_⟩
    by_cases ne : Ls = []
    · subst ne
      exact q0 rfl
    have eE : (!(!(Ls.map tupN).isEmpty)) = false := by
      cases Ls with
      | nil => exact absurd rfl ne
      | cons _ _ => rfl
    show if (!(!(Ls.map tupN).isEmpty)) = true then _ else _
    rw [eE, if_neg (by decide)]
    refine ⟨rfl, ?_⟩
    refine lcR_map (l := Ls) (h := tupN) (f := fun L => some (.int ((nD L).length : Nat))) (fun L hL C hC => ⟨_, rfl, hC⟩) (by show 0 + _ ≤ _; omega) ?_
    rw [List.nil_append, fm_some]
    refine ⟨Ls.map fun L => ((L.length : Nat) : Int), by rw [List.map_map]; exact List.map_congr_left fun L _ => by rw [nD_len]; rfl, ?_⟩
    have eS : (Ls.map fun L => ((L.length : Nat) : Int)).sum = ((sumL Ls : Nat) : Int) := by
      unfold sumL
      rw [← sumN, List.map_map]
      rfl
    rw [eS]
    show if decide ((24 : Int) < ((sumL Ls : Nat) : Int)) = true then _ else _
    by_cases big : 24 < sumL Ls
    · rw [if_pos (decide_eq_true (by omega))]
      exact ⟨_, _, rfl, rfl, q1 ne big⟩
    have hs : sumL Ls ≤ 24 := by omega
    have q := q2 ne hs
    rw [if_neg (by rw [decide_eq_false (by omega)]; decide)]
    refine ⟨_, rfl, by show 0 ≤ 1000000; decide, fun a => ?_⟩
    refine ⟨rfl, fun i s ρ => ∃ x1 x3 : Sl, ρ = [.im (.tuple (Ls.map tupN)), x1, .ow a (nD (sides (Ls.take i))), x3, .no], ⟨_, _, rfl⟩, ?_, ?_⟩
    · rintro i d s ρ hd ⟨x1, x3, rfl⟩
      have hd : (Ls.map tupN)[i]? = some d := hd
      rw [List.getElem?_map] at hd
      obtain ⟨B, hB, rfl⟩ := Option.map_eq_some_iff.mp hd
      have lB : B.length ≤ 24 := Nat.le_trans (sum_mem (f := List.length) (List.mem_of_getElem? hB)) hs
      have lS : (sides (Ls.take i)).length ≤ 24 := by rw [sides_len]; exact Nat.le_trans (sumL_take Ls i) hs
      have eS : sides (Ls.take (i + 1)) = side (sides (Ls.take i)) B := by unfold sides; rw [take_snoc hB, List.foldl_append]; rfl
      obtain ⟨S, e1⟩ : ∃ S, sides (Ls.take i) = S := ⟨_, rfl⟩
      rw [e1] at lS eS ⊢
      refine ⟨rfl, ?_⟩
      refine lcR_nD (l := B) (f := fun v => some (.int (((nD S).length : Nat) + ((v : Nat) : Int)))) (fun v hv C hC => ⟨_, rfl, hC⟩) (by omega) ?_
      rw [fm_some]
      refine ⟨by rw [nD_len, List.length_map]; omega, .im (tupN B), .im (.int ((nD S).length : Nat)), ?_⟩
      have eN : nD (side S B) = nD S ++ B.map fun v => PyData.int (((nD S).length : Nat) + ((v : Nat) : Int)) := by
        unfold side
        rw [nD_app]
        congr 1
        unfold nD
        rw [List.map_map]
        refine List.map_congr_left fun v _ => ?_
        show PyData.int ((S.length + v : Nat) : Int) = _
        rw [List.length_map]
        congr 1
      rw [eS, eN]
      rfl
    · rintro s ρ ⟨x1, x3, rfl⟩
      rw [List.length_map, List.take_length]
      exact q
theorem rows_im {B : Addr → Prop} {H : Hp} : ∀ {us : List V} {rs : List (List Nat)}, Rows H us rs → ImAll B H us (rs.map tupN)
  | _, _, .nil => .nil
  | _, _, .cons h q => .cons (Im.tup h (im_nv _)) (rows_im q)
theorem Df.possD (D : Df P w K mg base CX0 6 "possible_joins" ["forest"] (spPoss K)) : Df P w K mg base CX0 6 "possible_joins" ["forest"] (spD Z0 fPsJ) := D.imp fun vs H Q E h => by
  obtain ⟨B0, s0, as, Qd, ok, hB, ha, ⟨fs, rfl, hF, q⟩, hq⟩ := h
  cases ha with
  | cons h1 h2 =>
    cases h2
    have fin : ∀ p, SqT K H p (nv fs) → spPoss K [.ref p] H Q E := fun p hp => ⟨p, fs, rfl, hp, hF, fun q' us H' sm hq' ru => hq (.im (.tuple ((joinsL fs (tops fs)).map tupN))) s0 _ H' q trivial (Gr.of sm) (Im.tup hq' (rows_im ru))⟩
    cases (show Im _ H _ (.tuple (nD fs)) from h1) with
    | tup e q => cases nv_im q; exact fin _ (SqT.of e)
    | ftp e q => cases nv_im q; exact fin _ (.inl (.inr ⟨_, e⟩))
end
end Lf
namespace Lf
open PySem PySem.Spec PyProof.Rows L2
/-! ### two except clauses, the second with a name; calls of def f(*rest) that may raise -/
/-- the ends of a suite whose name in slot i goes -/
def endN (i : Nat) (D : Ends) : Ends := { nx := fun σ' H' => D.nx (σ'.set i none) H', rt := D.rt, bk := fun σ' H' => D.bk (σ'.set i none) H', ct := fun σ' H' => D.ct (σ'.set i none) H' }
/-- what the two clauses want of an error of the body: one of them takes it -/
def wTwo (K : PySem.W.Frag) (c1 c2 : Value) (i : Nat) (t1 t2 : Addr → Value → Option Addr → TS) (D : Ends) : WX := fun cls d σ H =>
  (PySem.W.exmOne K cls c1 = some true ∧ ∀ a, H a = none → t1 a cls d D σ H) ∨
  (PySem.W.exmOne K cls c1 = some false ∧ PySem.W.exmOne K cls c2 = some true ∧ ∀ a, H a = none → t2 a cls d (endN i D) (σ.set i (some (.ref a))) H)
section
variable {X : Cx} {x1 x2 n : Str} {c1 c2 : Value} {i : Nat} {body r1 r2 : List Stmt} {b1 b2 : Stmt} {np1 np2 pos1 pos2 pos : Pos} {tb : WX → TS} {t1 t2 : Addr → Value → Option Addr → TS}
/-- one clause: its name is asked -/
theorem asks {x : Str} {c : Value} {np pos' : Pos} {nm : Option Str} {bd : List Stmt} {rest : List ExceptHandler} {b : Bool} {a : Addr} {oe : Obj} {pins : List (Addr × Obj)} {σ : L2.St} {H : Hp} {s : Shared} {cls : Value} {Q : Flow → Shared → Prop} (hc : Names X x c) (S : Inv (X.suite a ((a, oe) :: (X.pn ++ pins))) [] σ H s) (kin : X.K.In s.heap) (ho : s.heap.get? a = some oe) (hcl : oe.cls = cls) (hb : PySem.W.exmOne X.K cls c = some b)
    (yes : b = true → codeAny (model X.prog X.w) (X.A.mark (some (.ref a))) (.handlers (.ref a) [.ExceptHandler none nm bd pos'] X.env) (fun r s₂ => match r with
          | .ok f => (match nm with
            | none => Q f s₂
            | some n => wpAny (model X.prog X.w) X.A (do bindName X.env n .none; unbindBehindTheSuite X.env n pos') (fun _ s₃ => Q f s₃) X.xe s₂)
          | .error x => cameBackBy (model X.prog X.w) X.A X.env X.xe x s₂) s)
    (no : b = false → wpAny (model X.prog X.w) X.A (handleBy (.ref a) X.env rest) Q X.xe s) :
    wpAny (model X.prog X.w) X.A (handleBy (.ref a) X.env (.ExceptHandler (some (.Name x np)) nm bd pos' :: rest)) Q X.xe s := by
  refine wpAny_handleBy_cons (codeAny_handlers_test ?_) (by intro q; cases q)
  have LT : PySem.W.Looks (model X.prog X.w) s.heap (typeOf (.ref a)) cls := fun A Q E s k q => wpAny_typeOf_ref (k _ _ ho) (by rw [hcl]; exact q)
  have LM := PySem.W.exm_one (M := model X.prog X.w) kin LT hb
  have test : ∀ {Q : Value → Shared → Prop} {E : Value → Shared → Prop}, Q c s → wpAny (model X.prog X.w) (X.A.mark (some (.ref a))) (eval (.Name x np) X.env) Q E s := fun {Q E} q => by
    obtain ⟨hg, hdbg, hm | ⟨hm, hv, hnn⟩⟩ := hc
    · exact ld_glob (X := X.suite a ((a, oe) :: (X.pn ++ pins))) S hg hm q hdbg
    · exact ld_blt (X := X.suite a ((a, oe) :: (X.pn ++ pins))) S hg hm hv q hnn hdbg
  refine test (LM.here ?_)
  cases b with
  | true => exact yes rfl
  | false => exact no rfl
theorem ps_try_two (hs : X.stack = X.env :: X.outer) (hf : X.env.frame = some X.env.locals) (hN : X.N.Nodup) (hi : X.N[i]? = some n) (hln : X.env.kindOf n = some .local) (hc1 : Names X x1 c1) (hc2 : Names X x2 c2)
    (hb : ∀ (W : WX) (pn : List (Addr × Obj)) (xe : Value → Shared → Prop), Takes (X.tr pn xe) W → PassesOwn (model X.prog X.w) X.A X.env xe → PSs (X.tr pn xe) body (tb W))
    (h1 : ∀ (a : Addr) (oe : Obj) (cls : Value) (d : Option Addr) (pn : List (Addr × Obj)), Zc cls d oe → (∃ vs, oe.data = .fields vs) → PSs (X.suite a ((a, oe) :: pn)) (b1 :: r1) (t1 a cls d))
    (h2 : ∀ (a : Addr) (oe : Obj) (cls : Value) (d : Option Addr) (pn : List (Addr × Obj)), Zc cls d oe → (∃ vs, oe.data = .fields vs) → PSs (X.suite a ((a, oe) :: pn)) (b2 :: r2) (t2 a cls d)) :
    PS X (.Try body [.ExceptHandler (some (.Name x1 np1)) none (b1 :: r1) pos1, .ExceptHandler (some (.Name x2 np2)) (some n) (b2 :: r2) pos2] [] [] pos) (fun D σ H => tb (wTwo X.K c1 c2 i t1 t2 D) D σ H) := by
  refine ⟨fun pins s σ H D I h => ?_⟩
  have ok := I.ok
  have hfr : X.A.frames = some (X.env :: X.outer) := by rw [ok.frames, hs]
  refine wpAny_Try_except ?_
  refine wpAny_mono ((hb (wTwo X.K c1 c2 i t1 t2 D) (X.pn ++ pins) (fun e s₁ => wpAny (model X.prog X.w) X.A (noteFrame e X.env) (fun _ s₂ => wpAny (model X.prog X.w) X.A (setFlight e none) (fun _ s₃ =>
    wpAny (model X.prog X.w) X.A (handleBy e X.env _) (SP X pins D) X.xe s₃) X.xe s₂) X.xe s₁) (fun u s' xx => ?_) PassesOwn.looking).run [] s σ H D (I.toTry _) h) (fun f s1 hsp => ?_) (fun e s1 he => he)
  · obtain ⟨a, B, sI, pins', σ', H', cls, d, rfl, J', nb, up, sky, na, os, ag, w⟩ := xx
    have J : Inv X pins σ' H' sI := J'.ofTry ok
    have sky' : Sky B (X.env :: X.outer) a (Zc cls d) X.env.locals s'.heap := by rw [← hs]; exact sky
    show wpAny (model X.prog X.w) X.A (noteFrame (.ref a) X.env) _ _ _
    refine Sky.land Zc.steady hfr hf sky' fun h3 fl3 up3 => ?_
    have J3 : Inv X pins σ' H' { s' with heap := h3 } := J.landed nb fl3.1 (up.trans up3) os ag
    obtain ⟨oe3, vs3, he3, hz3, hd3⟩ := fl3.there
    have nfr : a ∉ frs (X.env :: X.outer) := fun hm => by
      obtain ⟨_, o', e', hnf⟩ := fl3.2.2.1.mem hm
      rw [he3] at e'; cases e'
      exact hnf _ hd3
    have nL : a ≠ X.env.locals := fun z => nfr (List.mem_filterMap.mpr ⟨X.env, List.mem_cons_self, by rw [hf, z]⟩)
    have nF : a ∉ X.fs := fun hm => by
      obtain ⟨e, he, q⟩ := List.mem_filterMap.mp hm
      exact nfr (List.mem_filterMap.mpr ⟨e, List.mem_cons_of_mem _ he, q⟩)
    have S3 := J3.suite he3 hd3 na nL nF
    rcases w with ⟨w1, w2⟩ | ⟨w1, w2, w3⟩
    · refine asks hc1 S3 J3.kIn he3 hz3.1 w1 (fun _ => ?_) fun z => nomatch z
      refine codeAny_handlers_suite ?_
      refine HandSPX.lands_againZ fl3 fun h4 fl4 up4 => ?_
      have J4 : Inv X pins σ' H' { s' with heap := h4 } := J.landed nb fl4.1 ((up.trans up3).trans up4) os ag
      obtain ⟨oe4, vs4, he4, hz4, hd4⟩ := fl4.there
      have S4 := J4.suite he4 hd4 na nL nF
      refine wpAny_mono ((h1 a oe4 cls d (X.pn ++ pins) hz4 ⟨_, hd4⟩).run [] _ _ H' _ S4 (w2 a na)) (fun f s6 hsp => ?_) (fun _ _ z => False.elim z)
      cases f with
      | ret u =>
        obtain ⟨v6, σ6, H6, S6, r6, q6⟩ := hsp
        exact ⟨_, _, _, S6.unsuite ok, r6, q6⟩
      | _ =>
        obtain ⟨σ6, H6, S6, q6⟩ := hsp
        exact ⟨_, _, S6.unsuite ok, q6⟩
    · refine asks hc1 S3 J3.kIn he3 hz3.1 w1 (fun z => nomatch z) fun _ => ?_
      refine asks hc2 S3 J3.kIn he3 hz3.1 w2 (fun _ => ?_) fun z => nomatch z
      refine codeAny_handlers_suite_as ?_
      refine HandSPX.lands_againZ fl3 fun h4 fl4 up4 => ?_
      have J4 : Inv X pins σ' H' { s' with heap := h4 } := J.landed nb fl4.1 ((up.trans up3).trans up4) os ag
      obtain ⟨oe4, vs4, he4, hz4, hd4⟩ := fl4.there
      have S4 := J4.suite he4 hd4 na nL nF
      refine store_ok (X := X.suite a ((a, oe4) :: (X.pn ++ pins))) (v := .ref a) S4 hN hi (.inl hln) rfl (fun s5 S5 => ?_) (.inr hln)
      refine wpAny_mono ((h2 a oe4 cls d (X.pn ++ pins) hz4 ⟨_, hd4⟩).run [] s5 _ H' _ S5 (w3 a na)) (fun f s6 hsp => ?_) (fun _ _ z => False.elim z)
      cases f with
      | ret u =>
        obtain ⟨v6, σ6, H6, S6, r6, q6⟩ := hsp
        exact gone_ok (S6.unsuite ok) hN hi hln fun s7 J7 => ⟨_, _, _, J7, r6, q6⟩
      | _ =>
        obtain ⟨σ6, H6, S6, q6⟩ := hsp
        exact gone_ok (S6.unsuite ok) hN hi hln fun s7 J7 => ⟨_, _, J7, q6⟩
  · cases f with
    | next =>
      obtain ⟨σ', H', J', q⟩ := hsp
      exact wpAny_execs_nil ⟨σ', H', J'.ofTry ok, q⟩
    | ret u =>
      obtain ⟨v, σ', H', J', r, q⟩ := hsp
      exact ⟨v, σ', H', J'.ofTry ok, r, q⟩
    | _ =>
      obtain ⟨σ', H', J', q⟩ := hsp
      exact ⟨σ', H', J'.ofTry ok, q⟩
end
end Lf
namespace Lf
open PySem PySem.Spec PyProof.Rows L2
/-! ### the well's laws over the data layer -/
def fForW (w l : Addr) : DF (wz w l) := fun s as Q => ∃ most : Nat, as = [.raw (.ref w), .im (.int (most : Nat))] ∧ 1 ≤ most ∧ most ≤ 24 ∧ ∀ fs : List Nat, Forest fs → fs.length ≤ most → Q (.im (tupN fs)) s
def fMixW (w l : Addr) : DF (wz w l) := fun s as Q => ∃ ns : List Nat, as = [.raw (.ref w), .im (.list (nD ns))] ∧ ns.length ≤ 1000 ∧ ∀ ms : List Nat, ms.Perm ns → Q (.fr (nD ms)) s
section
variable {P : Program} {w : World} {K : PySem.W.Frag} {mg : Str → Option Value} {base : Heap} {k : Nat} {x : Str} {ps : List Str}
theorem Df.pullW (D : Df P w K mg base CX0 k x ps spPull) (wa l : Addr) : Df P w K mg base CX0 k x ps (spD (wz wa l) (fDraw wa l)) := D.imp fun vs H Q E h => by
  obtain ⟨B0, s0, as, Qd, ok, hB, ha, ⟨many, rfl, m0, m1, qd⟩, hq⟩ := h
  cases ha with
  | cons h1 h2 =>
    cases h2 with
    | cons h3 h4 =>
      cases h4
      cases (show _ = V.ref wa from h1)
      cases (show Im _ H _ _ from h3)
      refine ⟨wa, l, _, rfl, ok, by omega, by omega, fun r H' r0 r1 ok' kp => ?_⟩
      have := qd r.toNat (by omega)
      rw [Int.toNat_of_nonneg r0] at this
      exact hq _ s0 (.int r) H' this ok' (fun b o e n => kp b o (fun z => n (.inl z)) (fun z => n (.inr z)) e) (Im.int r)
theorem Df.forW (D : Df P w K mg base CX0 k x ps spGrown) (wa l : Addr) : Df P w K mg base CX0 k x ps (spD (wz wa l) (fForW wa l)) := D.imp fun vs H Q E h => by
  obtain ⟨B0, s0, as, Qd, ok, hB, ha, ⟨most, rfl, m0, m1, qd⟩, hq⟩ := h
  cases ha with
  | cons h1 h2 =>
    cases h2 with
    | cons h3 h4 =>
      cases h4
      cases (show _ = V.ref wa from h1)
      cases (show Im _ H _ _ from h3)
      refine ⟨wa, l, _, rfl, ok, by omega, by omega, fun fs q H' hF hl ok' kp nq hq' => ?_⟩
      exact hq _ s0 (.ref q) H' (qd fs hF (by omega)) ok' (fun b o e n => kp b o (fun z => n (.inl z)) (fun z => n (.inr z)) e) (Im.tup hq' (im_nv fs))
theorem Df.mixW (D : Df P w K mg base CX0 k x ps spMixed) (wa l : Addr) : Df P w K mg base CX0 k x ps (spD (wz wa l) (fMixW wa l)) := D.imp fun vs H Q E h => by
  obtain ⟨B0, s0, as, Qd, ok, hB, ha, ⟨ns, rfl, m0, qd⟩, hq⟩ := h
  cases ha with
  | cons h1 h2 =>
    cases h2 with
    | cons h3 h4 =>
      cases h4
      cases (show _ = V.ref wa from h1)
      cases (show Im _ H _ _ from h3) with
      | lst e n q =>
        cases nv_im q
        refine ⟨wa, l, _, ns, rfl, ok, e, m0, fun ms q H' pm ok' kp nq hq' => ?_⟩
        exact hq _ s0 (.ref q) H' (qd ms pm) ok' (fun b o e n => kp b o (fun z => n (.inl z)) (fun z => n (.inr z)) e) ⟨q, _, rfl, nq, fun z => (wz wa l).trk (s := s0) ok z nq, hq', im_nv ms⟩
end
end Lf
namespace Lf
open PySem PySem.Spec PyProof.Rows L2
/-! ### a, b = xs, xs a local list -/
section
variable {Z : Zn} {X : Cx} {pos : Pos} {k : Nat}
def dAsgL (i : Nat) (is : List Nat) : DSt Z := fun De s ρ => match ρ[i]? with
  | some (.ow _ l) => gNs is l ρ fun ρ' => De.nx s ρ'
  | _ => False
theorem ds_asgL {es : List Expr} {is : List Nat} {i : Nat} {n : Str} {np tp : Pos} (hNi : X.N[i]? = some n) (hv : Vis X.env.scope n) (hc : X.calm = true) (hN : X.N.Nodup) (h : Nms X es is) (hd : (n == ("__debug__" : Str)) = false := by decide) (hcd : (n == ("__classdict__" : Str)) = false := by decide) (hn : (assignEach es X.env).length = is.length := by rfl) (hst : (assignEach es X.env).findIdx? (·.1) = none := by rfl)
    (hs : swapsWithSole [.Tuple es k tp] (.Name n np) pos.line X.env = pure false := by rfl) (hw : swappedStores [.Tuple es k tp] (.Name n np) X.env = pure none := by rfl) (h1 : (assignEach [.Tuple es k tp] X.env).map (·.2) = [assign (.Tuple es k tp) X.env] := by rfl) : DS Z X (.Assign [.Tuple es k tp] (.Name n np) pos) (dAsgL i is) := by
  refine PS.of (ps_asg (pe_var hNi hv hd hcd) (pg_lst (n := is.length) hc (h.pgs hN) hn hst) hs hw h1) fun D σ H ⟨B0, H0, ρ, s, De, R, hd, hn, _⟩ => ?_
  unfold dAsgL at hd
  split at hd
  · rename_i q l e1
    obtain ⟨o, h2, rfl, xs, h3, h4⟩ := R.sl i _ e1
    refine ⟨.ref q, h2, q, xs, rfl, SqL.of h3, by rw [h4.length]; exact gNs_len hd, nms_ok R h4 hd fun ρ' σ' q' R' ho => ?_⟩
    exact hn s ρ' σ' H q' R' ⟨fun _ _ e _ => e, fun _ _ e => e, fun _ _ _ e => e, fun a ha => .inl (ho a ha)⟩
  · exact hd.elim
end
end Lf
namespace Lf
open PySem PySem.Spec PyProof.Rows L2
/-! ### a, b, c = x, y, z -/
section
variable {Z : Zn} {X : Cx} {B0 B1 : Addr → Prop} {H0 H H1 H2 : Hp} {ρ ρ' : List Sl} {s s1 s2 : Z.S} {σ σ' : L2.St} {v : V} {r : Rv} {da db dc : DX Z} {pos : Pos}
def slOf : Rv → Addr → Sl
  | .im d, _ => .im d
  | .fr l, p => .ow p l
  | .rw v, _ => .raw v
  | .bo _, _ => .no
theorem stR_at {i : Nat} {Q : List Sl → Prop} (q : stR r i ρ Q) (p : Addr) : Q (ρ.set i (slOf r p)) := by
  cases r with
  | im d => exact q
  | fr l => exact q p
  | rw u => exact q
  | bo l => exact q.elim
theorem pend {k : Nat} (R : Rel Z B1 H0 ρ s σ H) (R' : Rel Z B0 H0 ρ' s σ' H) (hB : ∀ a, Bad Z B0 ρ' a → Bad Z B1 ρ a) (R2 : Rel Z B1 H0 ρ s2 σ H2) (g : Gr Z H H2) (rr : RvR Z B1 ρ H H2 v r) (hb : ∀ l, r ≠ .bo l) :
    ∃ (B2 : Addr → Prop) (p : Addr), Rel Z B2 H0 ρ s2 σ H2 ∧ Rel Z B0 H0 (ρ'.set k (slOf r p)) s2 (σ'.set k (some v)) H2 ∧ (∀ a, Bad Z B0 (ρ'.set k (slOf r p)) a → Bad Z B2 ρ a) ∧ Stp Z B0 ρ' H (ρ'.set k (slOf r p)) H2 := by
  have rr' := rv_set hB hb rr
  have R3 := R'.grow R2.ok g
  have st := g.stp R'
  cases r with
  | im d => exact ⟨B1, 0, R2, R3.put rfl ⟨v, rfl, rr'⟩, fun a z => hB a (bad_set rfl z), st.keep, st.tups, st.frzs, fun a ha => (mem_own_set ha).elim .inl fun y => by cases y⟩
  | rw u => exact ⟨B1, 0, R2, R3.put rfl (by cases (show v = u from rr'); rfl), fun a z => hB a (bad_set rfl z), st.keep, st.tups, st.frzs, fun a ha => (mem_own_set ha).elim .inl fun y => by cases y⟩
  | bo l => exact absurd rfl (hb l)
  | fr l =>
    obtain ⟨p, xs, rfl, h1, h2, h3, h4⟩ := rr'
    refine ⟨fun a => B1 a ∨ a = p, p, R.more R2.ok g h1 (by rw [h3]; exact fun z => nomatch z), R'.putO R2.ok g h1 h3 h4, fun a z => ?_, st.keep, st.tups, st.frzs, fun a ha => (mem_own_set ha).elim .inl fun y => by cases y; exact .inr h1⟩
    have up : ∀ b, Bad Z B1 ρ b → Bad Z (fun a => B1 a ∨ a = p) ρ b := fun b z => z.imp id fun z => z.imp .inl id
    rcases z with z | z | z
    · exact .inl z
    · exact up a (hB a (.inr (.inl z)))
    · rcases mem_own_set z with z | z
      · exact up a (hB a (.inr (.inr z)))
      · cases z; exact .inr (.inl (.inr rfl))
def dPar3 (i j k : Nat) (da db dc : DX Z) : DSt Z := fun De s ρ => da s ρ fun x s1 => db s1 ρ fun y s2 => dc s2 ρ fun z s3 => stR x i ρ fun ρ1 => stR y j ρ1 fun ρ2 => stR z k ρ2 fun ρ3 => De.nx s3 ρ3
theorem isBo_no (r : Rv) : (∀ l, r ≠ .bo l) ∨ ∃ l, r = .bo l := by
  cases r with
  | bo l => exact .inr ⟨l, rfl⟩
  | _ => exact .inl fun l e => nomatch e
theorem par3_ok {i j k : Nat} {D : Ends} {σ : L2.St} {H : Hp} (h : liftS Z (dPar3 i j k da db dc) D σ H) : liftE Z da σ H fun v H1 => liftE Z db σ H1 fun w H2 => liftE Z dc σ H2 fun u H3 => D.nx (((σ.set i (some v)).set j (some w)).set k (some u)) H3 := by
  obtain ⟨B0, H0, ρ, s, De, R, hd, hn, _⟩ := h
  refine ⟨B0, H0, ρ, s, _, R, hd, fun x s1 v H1 qx R1 g1 r1 => ?_⟩
  rcases isBo_no x with hx | ⟨l, rfl⟩
  · obtain ⟨B2, p, Ra, Rb, hB, st1⟩ := pend (k := i) R R (fun a z => z) R1 g1 r1 hx
    refine ⟨B2, H0, ρ, s1, _, Ra, qx, fun y s2 w H2 qy R2 g2 r2 => ?_⟩
    rcases isBo_no y with hy | ⟨l, rfl⟩
    · obtain ⟨B3, p3, Rc, Rd, hB3, st2⟩ := pend (k := j) Ra Rb hB R2 g2 r2 hy
      refine ⟨B3, H0, ρ, s2, _, Rc, qy, fun z s3 u H3 qz R3 g3 r3 => ?_⟩
      have q1 := stR_at qz p
      have q2 := stR_at q1 p3
      rcases isBo_no z with hz | ⟨l, rfl⟩
      · obtain ⟨B4, p4, Re, Rf, hB4, st3⟩ := pend (k := k) Rc Rd hB3 R3 g3 r3 hz
        exact hn s3 _ _ H3 (stR_at q2 p4) Rf ((st1.trans Rb st2).trans Rd st3)
      · exact q2.elim
    · exact ⟨B2, H0, ρ, s2, _, R2, qy, fun z s3 u H3 qz R3 g3 r3 => (stR_at qz p : False).elim⟩
  · exact ⟨B0, H0, ρ, s1, _, R1, qx, fun y s2 w H2 qy R2 g2 r2 => ⟨B0, H0, ρ, s2, _, R2, qy, fun z s3 u H3 qz R3 g3 r3 => (show False from qz).elim⟩⟩
theorem ds_par3 {i j k : Nat} {n1 n2 n3 : Str} {px py pz pt : Pos} {kt k2 pt2} {a b c : Expr} (hc : X.calm = true) (hN : X.N.Nodup) (hi : X.N[i]? = some n1) (hj : X.N[j]? = some n2) (hk : X.N[k]? = some n3) (hx : Loc X.env.scope n1) (hy : Loc X.env.scope n2) (hz : Loc X.env.scope n3) (ha : DE Z X a da) (hb : DE Z X b db) (hcc : DE Z X c dc)
    (hs : swapsWithSole [.Tuple [.Name n1 px, .Name n2 py, .Name n3 pz] kt pt] (.Tuple [a, b, c] k2 pt2) pos.line X.env = pure false := by rfl) (hw : swappedStores [.Tuple [.Name n1 px, .Name n2 py, .Name n3 pz] kt pt] (.Tuple [a, b, c] k2 pt2) X.env = pure none := by rfl) (h1 : (assignEach [.Tuple [.Name n1 px, .Name n2 py, .Name n3 pz] kt pt] X.env).map (·.2) = [assign (.Tuple [.Name n1 px, .Name n2 py, .Name n3 pz] kt pt) X.env] := by rfl)
    (s1 : starEach [a, b, c] X.env = (false, eval a X.env) :: starEach [b, c] X.env := by rfl) (s2 : starEach [b, c] X.env = (false, eval b X.env) :: starEach [c] X.env := by rfl) (s3 : starEach [c] X.env = (false, eval c X.env) :: starEach [] X.env := by rfl)
    (fx : X.fn n1 = true ∨ X.env.scope.names.lookup n1 = some .local := by first | exact .inl rfl | exact .inr rfl) (fy : X.fn n2 = true ∨ X.env.scope.names.lookup n2 = some .local := by first | exact .inl rfl | exact .inr rfl) (fz : X.fn n3 = true ∨ X.env.scope.names.lookup n3 = some .local := by first | exact .inl rfl | exact .inr rfl)
    (g1 : (assignEach [.Name n1 px, .Name n2 py, .Name n3 pz] X.env).map (·.2) = assign (.Name n1 px) X.env :: (assignEach [.Name n2 py, .Name n3 pz] X.env).map (·.2) := by rfl) (g2 : (assignEach [.Name n2 py, .Name n3 pz] X.env).map (·.2) = assign (.Name n2 py) X.env :: (assignEach [.Name n3 pz] X.env).map (·.2) := by rfl) (g3 : (assignEach [.Name n3 pz] X.env).map (·.2) = assign (.Name n3 pz) X.env :: (assignEach [] X.env).map (·.2) := by rfl)
    (gl : (assignEach [.Name n1 px, .Name n2 py, .Name n3 pz] X.env).length = 3 := by rfl) (gf : (assignEach [.Name n1 px, .Name n2 py, .Name n3 pz] X.env).findIdx? (·.1) = none := by rfl) :
    DS Z X (.Assign [.Tuple [.Name n1 px, .Name n2 py, .Name n3 pz] kt pt] (.Tuple [a, b, c] k2 pt2) pos) (dPar3 i j k da db dc) := by
  refine PS.of (ps_asg (pe_tup (pa_cons ha (pa_cons hb (pa_cons hcc pa_nil s3) s2) s1)) (pg_tup hc (pgs_cons (pg_name hN hi hx fx) (pgs_cons (pg_name hN hj hy fy) (pgs_cons (pg_name hN hk hz fz) pgs_nil g3) g2) g1) gl gf) hs hw h1) fun D σ H h => ?_
  have h' : liftS Z (dPar3 i j k da db dc) { D with nx := fun σ' H' => ∀ p xs, H' p = none → D.nx σ' (upd H' p (.tup xs)) } σ H := by
    obtain ⟨B0, H0, ρ, s, De, R, hd, hn, hr⟩ := h
    refine ⟨B0, H0, ρ, s, De, R, hd, fun s' ρ' σ' H' q R' st p xs hp => ?_, hr⟩
    have sm := same_new (o := .tup xs) hp
    exact hn s' ρ' σ' _ q (R'.same sm) (st.trans R' ((Gr.of sm).stp R'))
  obtain ⟨B0, H0, ρ, s, Qd, R, hd, hq⟩ := par3_ok h'
  refine ⟨B0, H0, ρ, s, Qd, R, hd, fun r s' v H' q R' g rr => ?_⟩
  obtain ⟨B1, H1, ρ1, s1, Q1, R1, hd1, hq1⟩ := hq r s' v H' q R' g rr
  refine ⟨B1, H1, ρ1, s1, Q1, R1, hd1, fun r2 s2 w H2 q2 R2 g2 rr2 => ?_⟩
  obtain ⟨B2, H3, ρ2, s3, Q2, R3, hd2, hq2⟩ := hq1 r2 s2 w H2 q2 R2 g2 rr2
  refine ⟨B2, H3, ρ2, s3, Q2, R3, hd2, fun r3 s4 u H4 q3 R4 g4 rr3 => ⟨by show 3 ≤ sizeLine; decide, fun p hp => ⟨p, [v, w, u], rfl, SqT.of upd_same, rfl, v, [w, u], rfl, w, [u], rfl, u, [], rfl, rfl, ?_⟩⟩⟩
  exact hq2 r3 s4 u H4 q3 R4 g4 rr3 p [v, w, u] hp
end
end Lf
namespace Lf
open PySem PySem.Spec PyProof.Rows L2
/-! ### own objects of any kind; own dicts -/
theorem viaP {α : Type} {M : α → Prop} {G : α → Prop} {C : Prop} (main : (∀ o, M o → G o) → C) (fin : ∀ o, M o → G o) : C := main fin
theorem viaR {Z : Zn} {M : Nat → Prop} {t : DSt Z} {De : DEnds Z} {s : Z.S} (R : Nat → List Sl) {C : Prop} (main : (∀ o, M o → t De s (R o)) → C) (fin : ∀ o, M o → t De s (R o)) : C := main fin
section
variable {Z : Zn} {X : Cx} {B0 B1 B B' : Addr → Prop} {H0 H H' H1 H2 : Hp} {ρ ρ' : List Sl} {s s1 s2 : Z.S} {σ σ' : L2.St} {v : V} {r : Rv} {da db dc dk de : DX Z} {e k : Expr} {pos : Pos}
theorem SlR.move {y : Sl} {o : Option V} (kl : ∀ b o, H b = some o → ¬ B b → H' b = some o ∧ ¬ B' b) (kt : ∀ b xs, H b = some (.tup xs) → H' b = some (.tup xs)) (kf : ∀ b o u, H b = some (.frz o u) → H' b = some (.frz o u)) (ko : ∀ a ob, ownOf y = some a → H a = some ob → H' a = some ob) (h : SlR B H y o) : SlR B' H' y o := by
  cases y with
  | no => trivial
  | im d =>
    obtain ⟨w, h3, h4⟩ := h
    exact ⟨w, h3, h4.mono kl kt kf⟩
  | ow a m =>
    obtain ⟨h3, ys, h4, h5⟩ := h
    exact ⟨h3, ys, ko a _ rfl h4, h5.mono kl kt kf⟩
  | od a m =>
    obtain ⟨h3, ys, h4, h5⟩ := h
    exact ⟨h3, ys, ko a _ rfl h4, h5.mono kl kt kf⟩
  | ot a m =>
    obtain ⟨h3, ys, h4, h5⟩ := h
    exact ⟨h3, ys, ko a _ rfl h4, h5.mono kl kt kf⟩
  | raw w => exact h
theorem SlR.ref {x : Sl} {o : Option V} {q : Addr} (h : SlR B H x o) (hx : ownOf x = some q) : o = some (.ref q) := by
  cases x with
  | no => cases hx
  | im d => cases hx
  | raw w => cases hx
  | ow a m => cases hx; exact h.1
  | od a m => cases hx; exact h.1
  | ot a m => cases hx; exact h.1
/-- a new owned object -/
theorem Rel.putG (R : Rel Z B0 H0 ρ s σ H) {i : Nat} {q : Addr} {o : HO} {x : Sl} (hq : H q = none) (hx : ownOf x = some q) (h : SlR (fun a => Bad Z B0 ρ a ∨ a = q) (upd H q o) x (some (.ref q))) : Rel Z B0 H0 (ρ.set i x) s (σ.set i (some (.ref q))) (upd H q o) := by
  have nz : ¬ Z.at_ q := fun z => Z.trk R.ok z hq
  have nb : ¬ B0 q := fun z => R.btr q z hq
  have no : q ∉ own ρ := fun z => R.otr z hq
  have sm := same_new (o := o) hq
  have R1 := R.same sm
  have hB : ∀ a, Bad Z B0 (ρ.set i x) a → Bad Z B0 ρ a ∨ a = q := fun a z => by
    rcases z with z | z | z
    · exact .inl (.inl z)
    · exact .inl (.inr (.inl z))
    · rcases mem_own_set z with z | z
      · exact .inl (.inr (.inr z))
      · rw [hx] at z; cases z; exact .inr rfl
  refine ⟨R1.ok, by rw [List.length_set, List.length_set]; exact R.len, fun j y e => ?_, nodup_own_set R.nd (fun a z => by rw [hx] at z; cases z; exact no), fun a ha => ?_, R1.btr, R1.frm⟩
  · rcases set_get e with ⟨rfl, rfl⟩ | ⟨ne, e⟩
    · have hi : i < σ.length := by
        rw [R.len]
        rcases Nat.lt_or_ge i ρ.length with z | z
        · exact z
        · rw [List.getElem?_eq_none (by rw [List.length_set]; exact z)] at e; cases e
      exact ⟨_, by rw [List.getElem?_set_self hi], h.bad hB⟩
    · obtain ⟨o', h1, h2⟩ := R.sl j y e
      refine ⟨o', by rw [List.getElem?_set_ne ne]; exact h1, ?_⟩
      refine h2.move (fun b o e n => ⟨sm b o e, fun z => (hB b z).elim n fun z => by subst z; rw [hq] at e; cases e⟩) (fun b ys e => sm b _ e) (fun b o u e => sm b _ e) (fun a ob _ e => sm a _ e)
  · rcases mem_own_set ha with z | z
    · exact R.fr a z
    · rw [hx] at z
      cases z
      exact ⟨R.h0 hq, nz, nb⟩
theorem own_setG : ∀ {ρ : List Sl} {i : Nat} {x x' : Sl} {q : Addr}, ρ[i]? = some x → ownOf x = some q → ownOf x' = some q → own (ρ.set i x') = own ρ
  | [], _, _, _, _, h, _, _ => by cases h
  | y :: ρ, 0, x, x', q, h, h1, h2 => by
    cases h
    rw [List.set_cons_zero, own_cons, own_cons, h1, h2]
  | y :: ρ, i + 1, x, x', q, h, h1, h2 => by
    rw [List.set_cons_succ, own_cons, own_cons, own_setG (i := i) h h1 h2]
theorem own_injG : ∀ {ρ : List Sl} {i j : Nat} {x y : Sl} {q : Addr}, (own ρ).Nodup → ρ[i]? = some x → ownOf x = some q → ρ[j]? = some y → ownOf y = some q → i = j
  | [], _, _, _, _, _, _, h, _, _, _ => by cases h
  | z :: ρ, i, j, x, y, q, nd, h1, hx, h2, hy => by
    rw [own_cons] at nd
    obtain ⟨n1, n2, n3⟩ := List.nodup_append.mp nd
    cases i with
    | zero =>
      cases j with
      | zero => rfl
      | succ j =>
        cases h1
        exact absurd rfl (n3 q (by rw [hx]; simp) q (own_memG (i := j) h2 hy))
    | succ i =>
      cases j with
      | zero =>
        cases h2
        exact absurd rfl (n3 q (by rw [hy]; simp) q (own_memG (i := i) h1 hx))
      | succ j => rw [own_injG n2 (i := i) (j := j) h1 hx h2 hy]
theorem keepG (R : Rel Z B0 H0 ρ s σ H) {i : Nat} {q : Addr} {o : HO} {x : Sl} (hi : ρ[i]? = some x) (hx : ownOf x = some q) : (∀ b ob, H b = some ob → ¬ Bad Z B0 ρ b → upd H q o b = some ob ∧ ¬ Bad Z B0 ρ b) ∧ (∀ b ys, H b = some (.tup ys) → upd H q o b = some (.tup ys)) ∧ (∀ b ob u, H b = some (.frz ob u) → upd H q o b = some (.frz ob u)) := by
  have mq := own_memG hi hx
  obtain ⟨ob, hob, n1, n2⟩ := R.ob hi hx
  exact ⟨fun b ob e n => ⟨by rw [upd_ne (fun z => n (by rw [z]; exact .inr (.inr mq)))]; exact e, n⟩, fun b ys e => by rw [upd_ne (fun z => by rw [z, hob] at e; exact n1 _ (Option.some.inj e))]; exact e, fun b ou u e => by rw [upd_ne (fun z => by rw [z, hob] at e; exact n2 _ _ (Option.some.inj e))]; exact e⟩
/-- an owned object is changed -/
theorem Rel.mutG (R : Rel Z B0 H0 ρ s σ H) {i : Nat} {q : Addr} {o : HO} {x x' : Sl} (hi : ρ[i]? = some x) (hx : ownOf x = some q) (hx' : ownOf x' = some q) (h : SlR (Bad Z B0 ρ) (upd H q o) x' (some (.ref q))) : Rel Z B0 H0 (ρ.set i x') s σ (upd H q o) := by
  have mq := own_memG hi hx
  obtain ⟨f1, f2, f3⟩ := R.fr q mq
  obtain ⟨o0, s0, e0⟩ := R.sl i _ hi
  have e0 := e0.ref hx
  subst e0
  have eo : own (ρ.set i x') = own ρ := own_setG hi hx hx'
  have eB : ∀ a, Bad Z B0 (ρ.set i x') a ↔ Bad Z B0 ρ a := fun a => by unfold Bad; rw [eo]
  obtain ⟨kl, kt, kf⟩ := keepG (o := o) R hi hx
  refine ⟨Z.st R.ok (fun b o z e => by rw [upd_ne (fun y => f2 (by rw [← y]; exact z))]; exact e) kt kf, by rw [List.length_set]; exact R.len, fun j y e => ?_, by rw [eo]; exact R.nd, fun a ha => by rw [eo] at ha; exact R.fr a ha, fun a ha z => ?_, fun b o e n => ?_⟩
  · rcases set_get e with ⟨rfl, rfl⟩ | ⟨ne, e9⟩
    · exact ⟨_, s0, h.bad fun a z => (eB a).mp z⟩
    · obtain ⟨o', h1, h2⟩ := R.sl j y e9
      refine ⟨o', h1, h2.move (fun b ob e n => ⟨(kl b ob e n).1, fun z => n ((eB b).mp z)⟩) kt kf fun a ob hy e => ?_⟩
      rw [upd_ne (fun z => by subst z; exact ne (own_injG R.nd hi hx e9 hy))]
      exact e
  · by_cases y : a = q
    · exact f3 (by rw [← y]; exact ha)
    · rw [upd_ne y] at z
      exact R.btr a ha z
  · rw [upd_ne (fun z => by rw [z, f1] at e; cases e)]
    exact R.frm b o e n
theorem mut_stpG (R : Rel Z B0 H0 ρ s σ H) {i : Nat} {q : Addr} {o : HO} {x x' : Sl} (hi : ρ[i]? = some x) (hx : ownOf x = some q) (hx' : ownOf x' = some q) : Stp Z B0 ρ H (ρ.set i x') (upd H q o) := by
  obtain ⟨kl, kt, kf⟩ := keepG (o := o) R hi hx
  refine ⟨fun b o e n => (kl b o e n).1, kt, kf, fun a ha => .inl ?_⟩
  rw [own_setG hi hx hx'] at ha
  exact ha
/-! ### the entries of a dict, as data -/
section
variable {κ : Type} [DecidableEq κ]
def valD (es : List (κ × PyData)) (k : κ) : Option PyData := (es.find? fun kv => decide (kv.1 = k)).map (·.2)
def putD (es : List (κ × PyData)) (k : κ) (d : PyData) : List (κ × PyData) :=
  if (es.any fun kv => decide (kv.1 = k)) = true then es.map (fun kv => if kv.1 = k then (kv.1, d) else kv) else es ++ [(k, d)]
theorem ImPs.length : ∀ {kvs : List (κ × V)} {es : List (κ × PyData)}, ImPs B H kvs es → kvs.length = es.length
  | _, _, .nil => rfl
  | _, _, .cons _ q => congrArg (· + 1) q.length
theorem ImPs.val {k : κ} : ∀ {kvs : List (κ × V)} {es : List (κ × PyData)}, ImPs B H kvs es → (valD es k = none ∧ valV kvs k = none) ∨ ∃ d v, valD es k = some d ∧ valV kvs k = some v ∧ Im B H v d
  | _, _, .nil => .inl ⟨rfl, rfl⟩
  | _, _, .cons (k := j) (v := v) (d := d) (r := r) (es := es) h q => by
    by_cases z : j = k
    · exact .inr ⟨d, v, by simp [valD, List.find?_cons, z], by simp [valV, List.find?_cons, z], h⟩
    · have e1 : valD ((j, d) :: es) k = valD es k := by simp [valD, List.find?_cons, z]
      have e2 : valV ((j, v) :: r) k = valV r k := by simp [valV, List.find?_cons, z]
      rw [e1, e2]
      exact q.val
theorem ImPs.anyk {k : κ} : ∀ {kvs : List (κ × V)} {es : List (κ × PyData)}, ImPs B H kvs es → (kvs.any fun kv => decide (kv.1 = k)) = (es.any fun kv => decide (kv.1 = k))
  | _, _, .nil => rfl
  | _, _, .cons h q => by rw [List.any_cons, List.any_cons, q.anyk]
theorem ImPs.mapk {k : κ} {v : V} {d : PyData} (hv : Im B H v d) : ∀ {kvs : List (κ × V)} {es : List (κ × PyData)}, ImPs B H kvs es → ImPs B H (kvs.map fun kv => if kv.1 = k then (kv.1, v) else kv) (es.map fun kv => if kv.1 = k then (kv.1, d) else kv)
  | _, _, .nil => .nil
  | _, _, .cons (k := j) h q => by
    rw [List.map_cons, List.map_cons]
    by_cases z : j = k
    · rw [if_pos z, if_pos z]
      exact .cons hv (q.mapk hv)
    · rw [if_neg z, if_neg z]
      exact .cons h (q.mapk hv)
theorem ImPs.snoc {k : κ} {v : V} {d : PyData} (hv : Im B H v d) : ∀ {kvs : List (κ × V)} {es : List (κ × PyData)}, ImPs B H kvs es → ImPs B H (kvs ++ [(k, v)]) (es ++ [(k, d)])
  | _, _, .nil => .cons hv .nil
  | _, _, .cons h q => .cons h (q.snoc hv)
theorem ImPs.put {k : κ} {v : V} {d : PyData} {kvs : List (κ × V)} {es : List (κ × PyData)} (q : ImPs B H kvs es) (hv : Im B H v d) : ImPs B H (putK kvs k v) (putD es k d) := by
  unfold putK putD
  rw [q.anyk]
  split
  · exact q.mapk hv
  · exact q.snoc hv
theorem putD_len (es : List (κ × PyData)) (k : κ) (d : PyData) : (putD es k d).length ≤ es.length + 1 := by
  unfold putD
  split
  · rw [List.length_map]; omega
  · rw [List.length_append]; exact Nat.le_refl _
theorem valD_put (es : List (κ × PyData)) (k j : κ) (d : PyData) : valD (putD es k d) j = if j = k then some d else valD es j := by
  have hmap : ∀ es : List (κ × PyData), valD (es.map fun kv => if kv.1 = k then (kv.1, d) else kv) j = if j = k then (if (es.any fun kv => decide (kv.1 = k)) = true then some d else none) else valD es j := fun es => by
    induction es with
    | nil => split <;> rfl
    | cons p es ih =>
      obtain ⟨a, b⟩ := p
      rw [List.map_cons]
      by_cases z : a = k
      · by_cases y : j = k
        · subst z; subst y
          simp [valD]
        · have : ¬ a = j := fun w => y (by rw [← w, z])
          rw [if_pos z, if_neg y]
          rw [if_neg y] at ih
          have e1 : valD ((a, d) :: (es.map fun kv => if kv.1 = k then (kv.1, d) else kv)) j = valD (es.map fun kv => if kv.1 = k then (kv.1, d) else kv) j := by simp [valD, List.find?_cons, this]
          have e2 : valD ((a, b) :: es) j = valD es j := by simp [valD, List.find?_cons, this]
          rw [e1, e2, ih]
      · rw [if_neg z]
        by_cases w : a = j
        · have y : ¬ j = k := fun y => z (by rw [w, y])
          rw [if_neg y]
          simp [valD, List.find?_cons, w]
        · have e1 : valD ((a, b) :: (es.map fun kv => if kv.1 = k then (kv.1, d) else kv)) j = valD (es.map fun kv => if kv.1 = k then (kv.1, d) else kv) j := by simp [valD, List.find?_cons, w]
          have e2 : valD ((a, b) :: es) j = valD es j := by simp [valD, List.find?_cons, w]
          rw [e1, e2, ih, List.any_cons, decide_eq_false z, Bool.false_or]
  unfold putD
  split
  · next h =>
    rw [hmap es, if_pos h]
  · next h =>
    have hno : ∀ p ∈ es, ¬ p.1 = k := fun p hp z => h (List.any_eq_true.mpr ⟨p, hp, decide_eq_true z⟩)
    unfold valD
    rw [List.find?_append]
    by_cases y : j = k
    · subst y
      rw [List.find?_eq_none.mpr (fun p hp => by simpa using hno p hp)]
      simp
    · rw [if_neg y]
      have : ¬ k = j := fun w => y w.symm
      simp [this]
end
/-! ### x = {}; x[k] = e; x[k]; k in x -/
def keyOf : PyData → Option Key
  | .int i => some (.inl i)
  | .str z => some (.inr z)
  | _ => none
theorem RvR.key {d : PyData} {key : Key} (h : RvR Z B0 ρ H H1 v r) (e : r.D = some d) (ek : keyOf d = some key) : v = kV key := by
  cases d with
  | int i => cases ek; exact h.vI e
  | str i => cases ek; exact h.vS e
  | _ => cases ek
def dNewD (i : Nat) : DSt Z := fun De s ρ => ∀ a, De.nx s (ρ.set i (.od a []))
theorem ds_newD {i : Nat} {n : Str} {pos' dpos : Pos} (hNd : X.N.Nodup) (hj : X.N[i]? = some n) (hx : Loc X.env.scope n) (hsw : swapsWith (.Dict [] [] dpos) (some (.Name n pos')) pos.line X.env = pure false := by rfl) (hf : X.fn n = true ∨ X.env.scope.names.lookup n = some .local := by first | exact .inl rfl | exact .inr rfl | assumption) :
    DS Z X (.Assign [.Name n pos'] (.Dict [] [] dpos) pos) (dNewD i) := by
  refine PS.of (ps_set hNd hj hx pe_dnewK hsw hf) fun D σ H ⟨B0, H0, ρ, s, De, R, hd, hn, _⟩ => ?_
  intro p hp
  have st := (Gr.of (Z := Z) (same_new (o := .dK []) hp)).stp R
  refine hn s _ _ _ (hd p) (R.putG hp rfl ⟨rfl, [], upd_same, .nil⟩) ⟨st.keep, st.tups, st.frzs, fun a ha => (mem_own_set ha).elim .inl fun y => by cases y; exact .inr hp⟩
def dPutD (i : Nat) (dk de : DX Z) : DSt Z := fun De s ρ => match ρ[i]? with
  | some (.od q es) => de s ρ fun r s1 => dk s1 ρ fun k s2 => ∃ d kd key, r.st = some d ∧ k.D = some kd ∧ keyOf kd = some key ∧ es.length < 1000000 ∧ De.nx s2 (ρ.set i (.od q (putD es key d)))
  | _ => False
theorem ds_putD {i : Nat} {n : Str} {np ps : Pos} (hu : X.A.units + 65 < cLine) (hN : X.N[i]? = some n) (hv : Vis X.env.scope n) (hk : DE Z X k dk) (he : DE Z X e de) (hd : (n == ("__debug__" : Str)) = false := by decide) (hcd : (n == ("__classdict__" : Str)) = false := by decide)
    (hs : swapsWith e (some (.Subscript (.Name n np) k ps)) pos.line X.env = pure false := by rfl) : DS Z X (.Assign [.Subscript (.Name n np) k ps] e pos) (dPutD i dk de) := by
  refine PS.of (ps_dput (by omega) (pe_var hN hv hd hcd) hk he hs) fun D σ H ⟨B0, H0, ρ, s, De, R, hd, hn, _⟩ => ?_
  unfold dPutD at hd
  split at hd
  · rename_i q es e1
    refine ⟨B0, H0, ρ, s, _, R, hd, fun r s1 v H1 qx R1 g1 r1 => ?_⟩
    obtain ⟨o, s0, rfl, kvs, hq, im⟩ := R1.sl i _ e1
    refine ⟨.ref q, s0, B0, H0, ρ, s1, _, R1, qx, fun y s2 w H2 qk R2 g2 r2 => ?_⟩
    obtain ⟨d, kd, key, h1, h2, h3, h4, qn⟩ := qk
    obtain ⟨_, _, _, kvs2, hq2, im2⟩ := R2.sl i _ e1
    have iv := RvR.st R (r1.grow R1 g2) h1
    refine ⟨q, upd H2 q (.dK (putK kvs2 key v)), rfl, ?_, ?_⟩
    · rw [r2.key h2 h3]
      exact DPut.k hq2 (by rw [im2.length]; exact smL h4)
    · obtain ⟨kl, kt, kf⟩ := keepG (o := .dK (putK kvs2 key v)) R2 e1 rfl
      exact hn s2 _ σ _ qn (R2.mutG e1 rfl rfl ⟨rfl, _, upd_same, (im2.put iv).mono kl kt kf⟩) ((g1.stp R).trans R1 ((g2.stp R1).trans R2 (mut_stpG R2 e1 rfl rfl)))
  · exact hd.elim
def dGetD (i : Nat) (dk : DX Z) : DX Z := fun s ρ Q => match ρ[i]? with
  | some (.od q es) => dk s ρ fun k s1 => ∃ kd key d, k.D = some kd ∧ keyOf kd = some key ∧ valD es key = some d ∧ Q (.im d) s1
  | _ => False
theorem de_getD {i : Nat} {n : Str} {np : Pos} (hu : X.A.units + 65 < cLine) (hN : X.N[i]? = some n) (hv : Vis X.env.scope n) (hk : DE Z X k dk) (hs : NoSl k := by intro _ _; rfl) (hd : (n == ("__debug__" : Str)) = false := by decide) (hcd : (n == ("__classdict__" : Str)) = false := by decide) : DE Z X (.Subscript (.Name n np) k pos) (dGetD i dk) := by
  refine PE.of (pe_dget (by omega) (pe_var hN hv hd hcd) hk hs) fun σ H Q ⟨B0, H0, ρ, s, Qd, R, hd, hq⟩ => ?_
  unfold dGetD at hd
  split at hd
  · rename_i q es e1
    obtain ⟨o, s0, rfl, kvs, hq0, im⟩ := R.sl i _ e1
    refine ⟨.ref q, s0, B0, H0, ρ, s, _, R, hd, fun y s1 w H1 qk R1 g1 r1 => ?_⟩
    obtain ⟨kd, key, d, h2, h3, h4, qn⟩ := qk
    obtain ⟨_, _, _, kvs1, hq1, im1⟩ := R1.sl i _ e1
    rcases im1.val (k := key) with ⟨z, _⟩ | ⟨d', v', z1, z2, z3⟩
    · rw [h4] at z; cases z
    · rw [h4] at z1
      cases z1
      refine ⟨q, v', rfl, ?_, hq _ s1 v' H1 qn R1 g1 z3⟩
      rw [r1.key h2 h3, ← z2]
      exact DGet.k hq1
  · exact hd.elim
def dInD (neg : Bool) (i : Nat) (dk : DX Z) : DX Z := fun s ρ Q => dk s ρ fun k s1 => match ρ[i]? with
  | some (.od q es) => ∃ kd key, k.D = some kd ∧ keyOf kd = some key ∧ Q (.im (.bool (neg != (valD es key).isSome))) s1
  | _ => False
/-! ### a, b, c = x, y, {} -/
def dPar3D (i j k : Nat) (da db : DX Z) : DSt Z := fun De s ρ => da s ρ fun x s1 => db s1 ρ fun y s2 => stR x i ρ fun ρ1 => stR y j ρ1 fun ρ2 => ∀ a, De.nx s2 (ρ2.set k (.od a []))
theorem par3D_ok {i j k : Nat} {D : Ends} {σ : L2.St} {H : Hp} (h : liftS Z (dPar3D i j k da db) D σ H) : liftE Z da σ H fun v H1 => liftE Z db σ H1 fun w H2 => ∀ u, H2 u = none → D.nx (((σ.set i (some v)).set j (some w)).set k (some (.ref u))) (upd H2 u (.dK [])) := by
  obtain ⟨B0, H0, ρ, s, De, R, hd, hn, _⟩ := h
  refine ⟨B0, H0, ρ, s, _, R, hd, fun x s1 v H1 qx R1 g1 r1 => ?_⟩
  rcases isBo_no x with hx | ⟨l, rfl⟩
  · obtain ⟨B2, p, Ra, Rb, hB, st1⟩ := pend (k := i) R R (fun a z => z) R1 g1 r1 hx
    refine ⟨B2, H0, ρ, s1, _, Ra, qx, fun y s2 w H2 qy R2 g2 r2 u hu => ?_⟩
    rcases isBo_no y with hy | ⟨l, rfl⟩
    · obtain ⟨B3, p3, Rc, Rd, hB3, st2⟩ := pend (k := j) Ra Rb hB R2 g2 r2 hy
      have q1 := stR_at qy p
      have q2 := stR_at q1 p3
      have st := (Gr.of (Z := Z) (same_new (o := .dK []) hu)).stp Rd
      exact hn s2 _ _ _ (q2 u) (Rd.putG hu rfl ⟨rfl, [], upd_same, .nil⟩) ((st1.trans Rb st2).trans Rd ⟨st.keep, st.tups, st.frzs, fun a ha => (mem_own_set ha).elim .inl fun y => by cases y; exact .inr hu⟩)
    · exact (stR_at qy p : False).elim
  · exact ⟨B0, H0, ρ, s1, _, R1, qx, fun y s2 w H2 qy R2 g2 r2 => (show False from qy).elim⟩
theorem ds_par3D {i j k : Nat} {n1 n2 n3 : Str} {px py pz pt pd : Pos} {kt k2 pt2} {a b : Expr} (hc : X.calm = true) (hN : X.N.Nodup) (hi : X.N[i]? = some n1) (hj : X.N[j]? = some n2) (hk : X.N[k]? = some n3) (hx : Loc X.env.scope n1) (hy : Loc X.env.scope n2) (hz : Loc X.env.scope n3) (ha : DE Z X a da) (hb : DE Z X b db)
    (hs : swapsWithSole [.Tuple [.Name n1 px, .Name n2 py, .Name n3 pz] kt pt] (.Tuple [a, b, .Dict [] [] pd] k2 pt2) pos.line X.env = pure false := by rfl) (hw : swappedStores [.Tuple [.Name n1 px, .Name n2 py, .Name n3 pz] kt pt] (.Tuple [a, b, .Dict [] [] pd] k2 pt2) X.env = pure none := by rfl) (h1 : (assignEach [.Tuple [.Name n1 px, .Name n2 py, .Name n3 pz] kt pt] X.env).map (·.2) = [assign (.Tuple [.Name n1 px, .Name n2 py, .Name n3 pz] kt pt) X.env] := by rfl)
    (s1 : starEach [a, b, .Dict [] [] pd] X.env = (false, eval a X.env) :: starEach [b, .Dict [] [] pd] X.env := by rfl) (s2 : starEach [b, .Dict [] [] pd] X.env = (false, eval b X.env) :: starEach [.Dict [] [] pd] X.env := by rfl) (s3 : starEach [.Dict [] [] pd] X.env = (false, eval (.Dict [] [] pd) X.env) :: starEach [] X.env := by rfl)
    (fx : X.fn n1 = true ∨ X.env.scope.names.lookup n1 = some .local := by first | exact .inl rfl | exact .inr rfl) (fy : X.fn n2 = true ∨ X.env.scope.names.lookup n2 = some .local := by first | exact .inl rfl | exact .inr rfl) (fz : X.fn n3 = true ∨ X.env.scope.names.lookup n3 = some .local := by first | exact .inl rfl | exact .inr rfl)
    (g1 : (assignEach [.Name n1 px, .Name n2 py, .Name n3 pz] X.env).map (·.2) = assign (.Name n1 px) X.env :: (assignEach [.Name n2 py, .Name n3 pz] X.env).map (·.2) := by rfl) (g2 : (assignEach [.Name n2 py, .Name n3 pz] X.env).map (·.2) = assign (.Name n2 py) X.env :: (assignEach [.Name n3 pz] X.env).map (·.2) := by rfl) (g3 : (assignEach [.Name n3 pz] X.env).map (·.2) = assign (.Name n3 pz) X.env :: (assignEach [] X.env).map (·.2) := by rfl)
    (gl : (assignEach [.Name n1 px, .Name n2 py, .Name n3 pz] X.env).length = 3 := by rfl) (gf : (assignEach [.Name n1 px, .Name n2 py, .Name n3 pz] X.env).findIdx? (·.1) = none := by rfl) :
    DS Z X (.Assign [.Tuple [.Name n1 px, .Name n2 py, .Name n3 pz] kt pt] (.Tuple [a, b, .Dict [] [] pd] k2 pt2) pos) (dPar3D i j k da db) := by
  refine PS.of (ps_asg (pe_tup (pa_cons ha (pa_cons hb (pa_cons pe_dnewK pa_nil s3) s2) s1)) (pg_tup hc (pgs_cons (pg_name hN hi hx fx) (pgs_cons (pg_name hN hj hy fy) (pgs_cons (pg_name hN hk hz fz) pgs_nil g3) g2) g1) gl gf) hs hw h1) fun D σ H h => ?_
  have h' : liftS Z (dPar3D i j k da db) { D with nx := fun σ' H' => ∀ p xs, H' p = none → D.nx σ' (upd H' p (.tup xs)) } σ H := by
    obtain ⟨B0, H0, ρ, s, De, R, hd, hn, hr⟩ := h
    refine ⟨B0, H0, ρ, s, De, R, hd, fun s' ρ' σ' H' q R' st p xs hp => ?_, hr⟩
    have sm := same_new (o := .tup xs) hp
    exact hn s' ρ' σ' _ q (R'.same sm) (st.trans R' ((Gr.of sm).stp R'))
  obtain ⟨B0, H0, ρ, s, Qd, R, hd, hq⟩ := par3D_ok h'
  refine ⟨B0, H0, ρ, s, Qd, R, hd, fun r s' v H' q R' g rr => ?_⟩
  obtain ⟨B1, H1, ρ1, s1, Q1, R1, hd1, hq1⟩ := hq r s' v H' q R' g rr
  refine ⟨B1, H1, ρ1, s1, Q1, R1, hd1, fun r2 s2 w H2 q2 R2 g2 rr2 u hu => ⟨by show 3 ≤ sizeLine; decide, fun p hp => ⟨p, [v, w, .ref u], rfl, SqT.of upd_same, rfl, v, [w, .ref u], rfl, w, [.ref u], rfl, .ref u, [], rfl, rfl, ?_⟩⟩⟩
  exact hq1 r2 s2 w H2 q2 R2 g2 rr2 u hu p [v, w, .ref u] hp
/-! ### xs.insert(i, xs.pop(j)) -/
def dInsPop (i : Nat) (da db : DX Z) : DSt Z := fun De s ρ => match ρ[i]? with
  | some (.ow q l) => da s ρ fun x s1 => db s1 ρ fun y s2 => match x.D, y.D with
    | some (.int n), some (.int m) => 0 ≤ n ∧ n < 1000000 ∧ 0 ≤ m ∧ m < 1000000 ∧ l.length < 1000000 ∧ ∃ d, l[m.toNat]? = some d ∧ De.nx s2 (ρ.set i (.ow q ((l.eraseIdx m.toNat).take n.toNat ++ [d] ++ (l.eraseIdx m.toNat).drop n.toNat)))
    | _, _ => False
  | _ => False
theorem ds_insPop {i : Nat} {n : Str} {a b : Expr} {np np2 ap ap2 cp cp2 : Pos} (hN : X.N[i]? = some n) (hv : Vis X.env.scope n) (ha : DE Z X a da) (hb : DE Z X b db)
    (hd : (n == ("__debug__" : Str)) = false := by decide) (hcd : (n == ("__classdict__" : Str)) = false := by decide)
    (hbase : attributeBase (.Name n np) "insert" X.env (eval (.Name n np) X.env) = eval (.Name n np) X.env := by rfl) (hbase2 : attributeBase (.Name n np2) "pop" X.env (eval (.Name n np2) X.env) = eval (.Name n np2) X.env := by rfl)
    (hfew2 : ((backTo cp2 (starEach [b] X.env)).all (fun x => !x.1) && (backToKw cp2 (keywordEach [] X.env)).all (fun x => x.1.isSome) && decide ([b].length + ([] : List Keyword).length + (if ([] : List Keyword).isEmpty then 0 else 1) < 30)) = true := by rfl)
    (hfew : ((backTo cp (starEach [a, .Call (.Attribute (.Name n np2) "pop" ap2) [b] [] cp2] X.env)).all (fun x => !x.1) && (backToKw cp (keywordEach [] X.env)).all (fun x => x.1.isSome) && decide ([a, Expr.Call (.Attribute (.Name n np2) "pop" ap2) [b] [] cp2].length + ([] : List Keyword).length + (if ([] : List Keyword).isEmpty then 0 else 1) < 30)) = true := by rfl)
    (hline : (ap.endLine == cp.line) = true := by rfl) (hline2 : (ap2.endLine == cp2.line) = true := by rfl) (hs2 : starEach [b] X.env = (false, eval b X.env) :: starEach [] X.env := by rfl)
    (hs : starEach [a, .Call (.Attribute (.Name n np2) "pop" ap2) [b] [] cp2] X.env = (false, eval a X.env) :: starEach [.Call (.Attribute (.Name n np2) "pop" ap2) [b] [] cp2] X.env := by rfl) (hs3 : starEach [.Call (.Attribute (.Name n np2) "pop" ap2) [b] [] cp2] X.env = (false, eval (.Call (.Attribute (.Name n np2) "pop" ap2) [b] [] cp2) X.env) :: starEach [] X.env := by rfl)
    (hp : (backTo cp (starEach [.Call (.Attribute (.Name n np2) "pop" ap2) [b] [] cp2] X.env)).any (·.1) = false := by rfl) (hp2 : (backTo cp2 (starEach [] X.env)).any (·.1) = false := by rfl) (hsw : swapsWith (.Call (.Attribute (.Name n np) "insert" ap) [a, .Call (.Attribute (.Name n np2) "pop" ap2) [b] [] cp2] [] cp) none pos.line X.env = pure false := by rfl) :
    DS Z X (.Expr (.Call (.Attribute (.Name n np) "insert" ap) [a, .Call (.Attribute (.Name n np2) "pop" ap2) [b] [] cp2] [] cp) pos) (dInsPop i da db) := by
  refine PS.of (ps_expr (pe_bm PySem.F.plainAttrs_list PySem.F.slot_list_insert PySem.F.type_list_insert mt_insert (pe_var hN hv hd hcd) (pa_cons ha (pa_cons (pe_bm PySem.F.plainAttrs_list PySem.F.slot_list_pop PySem.F.type_list_pop mt_popAt (pe_var hN hv hd hcd) (pa_cons hb pa_nil hs2) hbase2 hfew2 hline2 hs2 hp2) pa_nil hs3) hs) hbase hfew hline hs hp) hsw) fun D σ H ⟨B0, H0, ρ, s, De, R, hd, hn, _⟩ => ?_
  unfold dInsPop at hd
  split at hd
  · rename_i q l e1
    obtain ⟨o, s0, rfl, xs, hq, im⟩ := R.sl i _ e1
    refine ⟨.ref q, s0, .inl ⟨rfl, xs, SqL.of hq⟩, B0, H0, ρ, s, _, R, hd, fun x s1 v H1 qx R1 g1 r1 => ?_⟩
    obtain ⟨_, _, _, xs1, hq1, im1⟩ := R1.sl i _ e1
    refine ⟨.ref q, s0, .inl ⟨rfl, xs1, SqL.of hq1⟩, B0, H0, ρ, s1, _, R1, qx, fun y s2 w H2 qy R2 g2 r2 => ?_⟩
    split at qy
    · rename_i m1 m2 ex ey
      obtain ⟨a1, a2, a3, a4, a5, d, hdd, qn⟩ := qy
      obtain ⟨_, _, _, xs2, hq2, im2⟩ := R2.sl i _ e1
      obtain ⟨u, hu, iu⟩ := im2.get hdd
      have hlt : m2.toNat < xs2.length := (List.getElem?_eq_some_iff.mp hu).1
      have ll := im2.length
      refine ⟨q, xs2, m2, m2.toNat, u, rfl, by rw [r2.vI ey], hq2, by omega, by omega, PySem.StrLaws.seqIndex_nonneg a3 (by omega), hu, ?_⟩
      refine ⟨q, xs2.eraseIdx m2.toNat, m1, u, rfl, by rw [r1.vI ex], upd_same, ?_, a1, by omega, ?_⟩
      · rw [List.length_eraseIdx_of_lt hlt]
        exact smL (by omega)
      · have e2 : upd (upd H2 q (.lst (xs2.eraseIdx m2.toNat))) q (.lst ((xs2.eraseIdx m2.toNat).take m1.toNat ++ [u] ++ (xs2.eraseIdx m2.toNat).drop m1.toNat)) = upd H2 q (.lst ((xs2.eraseIdx m2.toNat).take m1.toNat ++ [u] ++ (xs2.eraseIdx m2.toNat).drop m1.toNat)) := by
          funext b
          by_cases z : b = q
          · rw [z, upd_same, upd_same]
          · rw [upd_ne z, upd_ne z, upd_ne z]
        show D.nx σ _
        rw [e2]
        exact hn s2 _ σ _ qn (R2.mutL e1 ((((im2.erase m2.toNat).take _).snoc iu).append ((im2.erase m2.toNat).drop _))) ((g1.stp R).trans R1 ((g2.stp R1).trans R2 (mut_stp R2 e1)))
    · exact qy.elim
  · exact hd.elim
end
end Lf
namespace Lf
open PySem PySem.Spec PyProof.Rows L2
section
variable {Z : Zn} {X : Cx} {a b e : Expr} {es : List Expr} {da db : DX Z} {das : DA Z} {pos p : Pos} {K : PySem.W.Frag}
/-! ### x is True, x is not False -/
def opIsB (neg : Bool) : Op := fun x y Q => match x.D, y.D with
  | some (.bool i), some (.bool j) => Q (.im (.bool (neg != decide (i = j))))
  | _, _ => False
theorem o2_isB : Op2 K rIsB (opIsB false) := by
  intro Z B0 ρ s H0 σ Ha Hb H v u x y Qd Q R rx ry q k
  unfold opIsB at q
  split at q
  · rename_i i j e1 e2
    refine ⟨i, j, rx.vB e1, ry.vB e2, k _ _ _ q (Same.refl H) ?_⟩
    rw [Bool.false_bne]
    exact Im.bl _
  · exact q.elim
theorem o2_notB : Op2 K rNotB (opIsB true) := by
  intro Z B0 ρ s H0 σ Ha Hb H v u x y Qd Q R rx ry q k
  unfold opIsB at q
  split at q
  · rename_i i j e1 e2
    refine ⟨i, j, rx.vB e1, ry.vB e2, k _ _ _ q (Same.refl H) ?_⟩
    rw [Bool.true_bne]
    exact Im.bl _
  · exact q.elim
theorem dt_isB (ha : DE Z X a da) (hb : DE Z X b db) (hm : behindInMarks .Is b = false := by rfl) : DTs Z X (.Compare a [.Is] [b] pos) (dTst (dBin (opIsB false) da db)) := dt_cmp op_isBl o2_isB ha hb hm
theorem dt_notB (ha : DE Z X a da) (hb : DE Z X b db) (hm : behindInMarks .IsNot b = false := by rfl) : DTs Z X (.Compare a [.IsNot] [b] pos) (dTst (dBin (opIsB true) da db)) := dt_cmp op_notBl o2_notB ha hb hm
theorem de_isB (ha : DE Z X a da) (hb : DE Z X b db) (hm : behindInMarks .Is b = false := by rfl) : DE Z X (.Compare a [.Is] [b] pos) (dBin (opIsB false) da db) := PE.of (pe_cmpR op_isBl ha hb hm) fun σ H Q h => lift_bin (K := X.K) o2_isB h
theorem de_notB (ha : DE Z X a da) (hb : DE Z X b db) (hm : behindInMarks .IsNot b = false := by rfl) : DE Z X (.Compare a [.IsNot] [b] pos) (dBin (opIsB true) da db) := PE.of (pe_cmpR op_notBl ha hb hm) fun σ H Q h => lift_bin (K := X.K) o2_notB h
/-! ### str of a number or a tuple -/
def opStr : Cb := fun rs Q => match rs with
  | [x] => match x.D with
    | some d => d.showable = true ∧ d.depth ≤ 100 ∧ d.shown.length ≤ sizeLine ∧ ((∃ i, d = .int i) ∨ ∃ ds, d = .tuple ds) ∧ Q (.im (.str d.shown))
    | _ => False
  | _ => False
theorem de_strC (sys : ∃ o, X.base.get? sysModules = some o) (hgu : X.A.guards = some []) (hu : X.A.units + 200 < cLine) (hg : Gl X "str") (hm : X.mg "str" = none) (ha : DAs Z X (e :: es) das) (he : starEach (e :: es) X.env = (false, eval e X.env) :: starEach es X.env := by rfl) (hpl : (backTo pos (starEach es X.env)).any (·.1) = false := by rfl) : DE Z X (.Call (.Name "str" p) (e :: es) [] pos) (dCB opStr das) := by
  refine PE.of (pe_callTy (call_strA sys hgu hu) hg hm (by decide +kernel) ha (by decide) (by decide) he hpl) fun σ H Q h => lift_cb ?_ h
  intro Z B0 ρ s H0 σ Ha H vs xs Qd Q R rr q k
  unfold opStr at q
  split at q
  · obtain ⟨v, rfl, r1⟩ := rr.one
    split at q
    · rename_i d e1
      exact ⟨v, d, rfl, (r1.rd e1).rp, q.1, q.2.1, q.2.2.1, q.2.2.2.1, k _ _ _ q.2.2.2.2 (Same.refl H) (Im.str _)⟩
    · exact q.elim
  · exact q.elim
end
end Lf
namespace Lf
open PySem PySem.Spec PyProof.Rows L2
/-! ### texts -/
section
variable {Z : Zn} {X : Cx} {a b e : Expr} {es : List Expr} {da db : DX Z} {das : DA Z} {pos p apos : Pos} {K : PySem.W.Frag} {st : Stmt} {sts : List Stmt} {t : DSt Z}
def dSm0 (g : Str → PyData) (da : DX Z) : DX Z := fun s ρ Q => da s ρ fun x s1 => match x.D with
  | some (.str z) => Q (.im (g z)) s1
  | _ => False
theorem de_isdigit (ha : DE Z X a da) (hbase : attributeBase a "isdigit" X.env (eval a X.env) = eval a X.env := by rfl) (hline : (apos.endLine == pos.line) = true := by rfl) : DE Z X (.Call (.Attribute a "isdigit" apos) [] [] pos) (dSm0 (fun z => .bool (Txt.isdigit z)) da) := by
  refine PE.of (pe_m0 PySem.F.slot_str_isdigit PySem.F.type_str_isdigit mt_isdigit ha hbase hline) fun σ H Q ⟨B0, H0, ρ, s, Qd, R, hd, hq⟩ => ?_
  refine ⟨B0, H0, ρ, s, _, R, hd, fun x s1 v H1 qx R1 g1 r1 => ?_⟩
  split at qx
  · rename_i z e1
    cases r1.vS e1
    exact ⟨⟨_, rfl⟩, z, rfl, rfl, trivial, hq _ s1 _ H1 qx R1 g1 (Im.bl _)⟩
  · exact qx.elim
theorem de_isascii (ha : DE Z X a da) (hbase : attributeBase a "isascii" X.env (eval a X.env) = eval a X.env := by rfl) (hline : (apos.endLine == pos.line) = true := by rfl) : DE Z X (.Call (.Attribute a "isascii" apos) [] [] pos) (dSm0 (fun z => .bool (Txt.isascii z)) da) := by
  refine PE.of (pe_m0 PySem.F.slot_str_isascii PySem.F.type_str_isascii mt_isascii ha hbase hline) fun σ H Q ⟨B0, H0, ρ, s, Qd, R, hd, hq⟩ => ?_
  refine ⟨B0, H0, ρ, s, _, R, hd, fun x s1 v H1 qx R1 g1 r1 => ?_⟩
  split at qx
  · rename_i z e1
    cases r1.vS e1
    exact ⟨⟨_, rfl⟩, z, rfl, rfl, trivial, hq _ s1 _ H1 qx R1 g1 (Im.bl _)⟩
  · exact qx.elim
def dSm1 (C : Str → Str → Prop) (g : Str → Str → Rv) (da db : DX Z) : DX Z := fun s ρ Q => da s ρ fun x s1 => match x.D with
  | some (.str z) => db s1 ρ fun y s2 => match y.D with
    | some (.str z') => C z z' ∧ Q (g z z') s2
    | _ => False
  | _ => False
theorem de_starts (ha : DE Z X a da) (hb : DE Z X b db) (hs : starEach [b] X.env = [(false, eval b X.env)] := by rfl) (hbase : attributeBase a "startswith" X.env (eval a X.env) = eval a X.env := by rfl) (hline : (apos.endLine == pos.line) = true := by rfl) :
    DE Z X (.Call (.Attribute a "startswith" apos) [b] [] pos) (dSm1 (fun _ _ => True) (fun z z' => .im (.bool (Txt.startswith z z'))) da db) := by
  refine PE.of (pe_m1 PySem.F.slot_str_startswith PySem.F.type_str_startswith mt_startswith ha hb hs hbase hline) fun σ H Q ⟨B0, H0, ρ, s, Qd, R, hd, hq⟩ => ?_
  refine ⟨B0, H0, ρ, s, _, R, hd, fun x s1 v H1 qx R1 g1 r1 => ?_⟩
  split at qx
  · rename_i z e1
    cases r1.vS e1
    refine ⟨⟨_, rfl⟩, B0, H0, ρ, s1, _, R1, qx, fun y s2 w H2 qy R2 g2 r2 => ?_⟩
    split at qy
    · rename_i z' e2
      cases r2.vS e2
      exact ⟨z, z', rfl, rfl, hq _ s2 _ H2 qy.2 R2 (g1.trans g2) (Im.bl _)⟩
    · exact qy.elim
  · exact qx.elim
def splitC (z z' : Str) : Prop := (z'.length == 0) = false ∧ z.length + 2 ≤ 1000000
theorem im_strs {B : Addr → Prop} {H : Hp} : ∀ l : List Str, ImAll B H (l.map V.str) (l.map PyData.str)
  | [] => .nil
  | x :: l => .cons (.str x) (im_strs l)
theorem de_split (ha : DE Z X a da) (hb : DE Z X b db) (hs : starEach [b] X.env = [(false, eval b X.env)] := by rfl) (hbase : attributeBase a "split" X.env (eval a X.env) = eval a X.env := by rfl) (hline : (apos.endLine == pos.line) = true := by rfl) :
    DE Z X (.Call (.Attribute a "split" apos) [b] [] pos) (dSm1 splitC (fun z z' => .fr ((Txt.split z z').map .str)) da db) := by
  refine PE.of (pe_split ha hb hs hbase hline) fun σ H Q ⟨B0, H0, ρ, s, Qd, R, hd, hq⟩ => ?_
  refine ⟨B0, H0, ρ, s, _, R, hd, fun x s1 v H1 qx R1 g1 r1 => ?_⟩
  split at qx
  · rename_i z e1
    cases r1.vS e1
    refine ⟨⟨_, rfl⟩, B0, H0, ρ, s1, _, R1, qx, fun y s2 w H2 qy R2 g2 r2 => ?_⟩
    split at qy
    · rename_i z' e2
      cases r2.vS e2
      obtain ⟨⟨c1, c2⟩, qy⟩ := qy
      refine ⟨z, z', rfl, rfl, c1, by rw [sizeLine_eq]; omega, fun q hn => ?_⟩
      have sm := same_new (o := .lst ((Txt.split z z').map V.str)) hn
      exact hq _ s2 _ _ qy (R2.same sm) ((g1.trans g2).trans (Gr.of sm)) ((R2.newL hn (im_strs _)).back R2.ok (g1.trans g2))
    · exact qy.elim
  · exact qx.elim
def partC (z z' : Str) : Prop := (z'.length == 0) = false ∧ z.length ≤ 1000000
theorem de_partition (ha : DE Z X a da) (hb : DE Z X b db) (hs : starEach [b] X.env = [(false, eval b X.env)] := by rfl) (hbase : attributeBase a "partition" X.env (eval a X.env) = eval a X.env := by rfl) (hline : (apos.endLine == pos.line) = true := by rfl) :
    DE Z X (.Call (.Attribute a "partition" apos) [b] [] pos) (dSm1 partC (fun z z' => .im (.tuple [.str (Txt.partition z z').1, .str (Txt.partition z z').2.1, .str (Txt.partition z z').2.2])) da db) := by
  refine PE.of (pe_partition ha hb hs hbase hline) fun σ H Q ⟨B0, H0, ρ, s, Qd, R, hd, hq⟩ => ?_
  refine ⟨B0, H0, ρ, s, _, R, hd, fun x s1 v H1 qx R1 g1 r1 => ?_⟩
  split at qx
  · rename_i z e1
    cases r1.vS e1
    refine ⟨⟨_, rfl⟩, B0, H0, ρ, s1, _, R1, qx, fun y s2 w H2 qy R2 g2 r2 => ?_⟩
    split at qy
    · rename_i z' e2
      cases r2.vS e2
      obtain ⟨⟨c1, c2⟩, qy⟩ := qy
      refine ⟨z, z', rfl, rfl, c1, by rw [sizeLine_eq]; omega, fun q hn => ?_⟩
      have sm := same_new (o := .tup [.str (Txt.partition z z').1, .str (Txt.partition z z').2.1, .str (Txt.partition z z').2.2]) hn
      exact hq _ s2 _ _ qy (R2.same sm) ((g1.trans g2).trans (Gr.of sm)) (Im.tup upd_same (.cons (.str _) (.cons (.str _) (.cons (.str _) .nil))))
    · exact qy.elim
  · exact qx.elim
def dJoin (da db : DX Z) : DX Z := fun s ρ Q => da s ρ fun x s1 => match x.D with
  | some (.str z) => db s1 ρ fun y s2 => match y.D with
    | some (.list l) => ∃ ys : List Str, l = ys.map .str ∧ (ys.map (·.length)).sum + ys.length * z.length ≤ 1000000 ∧ Q (.im (.str (Txt.join z ys))) s2
    | _ => False
  | _ => False
theorem strs_of {B : Addr → Prop} {H : Hp} : ∀ {xs : List V} {l : List Str}, ImAll B H xs (l.map PyData.str) → xs = l.map V.str
  | [], [], _ => rfl
  | [], _ :: _, h => by cases h
  | _ :: _, [], h => by cases h
  | x :: xs, z :: l, h => by
    have h : ImAll B H (x :: xs) (.str z :: l.map PyData.str) := h
    cases h with
    | cons h1 h2 =>
      cases h1
      rw [strs_of h2]
      rfl
theorem de_join (ha : DE Z X a da) (hb : DE Z X b db) (hs : starEach [b] X.env = [(false, eval b X.env)] := by rfl) (hbase : attributeBase a "join" X.env (eval a X.env) = eval a X.env := by rfl) (hline : (apos.endLine == pos.line) = true := by rfl) :
    DE Z X (.Call (.Attribute a "join" apos) [b] [] pos) (dJoin da db) := by
  refine PE.of (pe_join ha hb hs hbase hline) fun σ H Q ⟨B0, H0, ρ, s, Qd, R, hd, hq⟩ => ?_
  refine ⟨B0, H0, ρ, s, _, R, hd, fun x s1 v H1 qx R1 g1 r1 => ?_⟩
  split at qx
  · rename_i z e1
    cases r1.vS e1
    refine ⟨⟨_, rfl⟩, B0, H0, ρ, s1, _, R1, qx, fun y s2 w H2 qy R2 g2 r2 => ?_⟩
    split at qy
    · rename_i l e2
      obtain ⟨ys, rfl, c, qy⟩ := qy
      obtain ⟨q, xs, rfl, h1, h2⟩ := r2.lst e2
      rw [strs_of h2] at h1
      exact ⟨z, q, ys, rfl, rfl, .inl (SqL.of h1), by omega, hq _ s2 _ H2 qy R2 (g1.trans g2) (Im.str _)⟩
    · exact qy.elim
  · exact qx.elim
/-! ### str of an int, int of a text -/
def opStrI : Cb := fun rs Q => match rs with
  | [x] => match x.D with
    | some (.int i) => i.natAbs.log2 < 1920 ∧ Q (.im (.str (toString i)))
    | _ => False
  | _ => False
theorem de_strI (hg : Gl X "str") (hm : X.mg "str" = none) (ha : DAs Z X (e :: es) das) (he : starEach (e :: es) X.env = (false, eval e X.env) :: starEach es X.env := by rfl) (hpl : (backTo pos (starEach es X.env)).any (·.1) = false := by rfl) : DE Z X (.Call (.Name "str" p) (e :: es) [] pos) (dCB opStrI das) := by
  refine PE.of (pe_callTy call_str_int hg hm (by decide +kernel) ha (by decide) (by decide) he hpl) fun σ H Q h => lift_cb ?_ h
  intro Z B0 ρ s H0 σ Ha H vs xs Qd Q R rr q k
  unfold opStrI at q
  split at q
  · obtain ⟨v, rfl, r1⟩ := rr.one
    split at q
    · rename_i i e1
      cases r1.vI e1
      exact ⟨i, rfl, q.1, k _ _ _ q.2 (Same.refl H) (Im.str _)⟩
    · exact q.elim
  · exact q.elim
def opIntS : Cb := fun rs Q => match rs with
  | [x] => match x.D with
    | some (.str z) => ∃ n, PySem.intText? z = some n ∧ z.length ≤ 640 ∧ Q (.im (.int n))
    | _ => False
  | _ => False
theorem de_intS (hg : Gl X "int") (hm : X.mg "int" = none) (ha : DAs Z X (e :: es) das) (he : starEach (e :: es) X.env = (false, eval e X.env) :: starEach es X.env := by rfl) (hpl : (backTo pos (starEach es X.env)).any (·.1) = false := by rfl) : DE Z X (.Call (.Name "int" p) (e :: es) [] pos) (dCB opIntS das) := by
  refine PE.of (pe_callTy call_int_str hg hm (by decide +kernel) ha (by decide) (by decide) he hpl) fun σ H Q h => lift_cb ?_ h
  intro Z B0 ρ s H0 σ Ha H vs xs Qd Q R rr q k
  unfold opIntS at q
  split at q
  · obtain ⟨v, rfl, r1⟩ := rr.one
    split at q
    · rename_i z e1
      cases r1.vS e1
      obtain ⟨n, c1, c2, q⟩ := q
      exact ⟨z, n, rfl, c1, c2, k _ _ _ q (Same.refl H) (Im.int _)⟩
    · exact q.elim
  · exact q.elim
/-! ### f"{a}c{b}" -/
def fmtD : PyData → Option Str
  | .str z => some z
  | .int i => if i.natAbs.log2 < 1920 then some (toString i) else none
  | _ => none
def dF3 (c : Str) (da db : DX Z) : DX Z := fun s ρ Q => da s ρ fun x s1 => match x.D with
  | some d => ∃ y1, fmtD d = some y1 ∧ y1.length ≤ 1000000 ∧ (y1 ++ c).length ≤ 1000000 ∧ db s1 ρ fun y s2 => match y.D with
    | some d2 => ∃ y2, fmtD d2 = some y2 ∧ y2.length ≤ 1000000 ∧ (y1 ++ c ++ y2).length ≤ 1000000 ∧ Q (.im (.str (y1 ++ c ++ y2))) s2
    | _ => False
  | _ => False
theorem fmt_ok {x : Rv} {B0 : Addr → Prop} {ρ : List Sl} {H H1 : Hp} {v : V} {d : PyData} {y : Str} {Q : VK} (r1 : RvR Z B0 ρ H H1 v x) (e1 : x.D = some d) (h : fmtD d = some y) (hl : y.length ≤ 1000000) (q : Q (.str y) H1) : (∃ y : Str, v = .str y ∧ y.length ≤ sizeLine ∧ Q (.str y) H1) ∨ ∃ i : Int, v = .int i ∧ i.natAbs.log2 < 1920 ∧ Q (.str (toString i)) H1 := by
  cases d with
  | str z =>
    cases h
    exact .inl ⟨y, r1.vS e1, by rw [sizeLine_eq]; omega, q⟩
  | int i =>
    have h : (if i.natAbs.log2 < 1920 then some (Str.ofString (toString i)) else none) = some y := h
    by_cases hb : i.natAbs.log2 < 1920
    · rw [if_pos hb] at h
      cases h
      exact .inr ⟨i, r1.vI e1, hb, q⟩
    · rw [if_neg hb] at h
      cases h
  | _ => cases h
theorem de_f3 {c : Str} {j : Nat} {p1 p2 p3 : Pos} (ha : DE Z X a da) (hb : DE Z X b db) : DE Z X (.JoinedStr [.FormattedValue a (-1) none p1, .Constant (.str c) j p2, .FormattedValue b (-1) none p3] pos) (dF3 c da db) := by
  refine PE.of (pe_joined (.cons (pe_fmt ha) (.cons pe_str (.cons (pe_fmt hb) .nil)))) fun σ H Q ⟨B0, H0, ρ, s, Qd, R, hd, hq⟩ => ?_
  have e0 : ∀ y : Str, Str.empty ++ y = y := fun y => by
    show (⟨#[] ++ y.cps⟩ : Str) = y
    rw [Array.empty_append]
  refine ⟨B0, H0, ρ, s, _, R, hd, fun x s1 v H1 qx R1 g1 r1 => ?_⟩
  split at qx
  · rename_i d e1
    obtain ⟨y1, f1, l1, l2, qx⟩ := qx
    refine fmt_ok (Q := fun x H1 => ∃ y : Str, x = .str y ∧ (Str.empty ++ y).length ≤ sizeLine ∧ tJs _ (Str.empty ++ y) σ H1 _) r1 e1 f1 l1 ⟨y1, rfl, by rw [e0, sizeLine_eq]; omega, ?_⟩
    rw [e0]
    refine ⟨c, rfl, by rw [sizeLine_eq]; omega, B0, H0, ρ, s1, _, R1, qx, fun y s2 w H2 qy R2 g2 r2 => ?_⟩
    split at qy
    · rename_i d2 e2
      obtain ⟨y2, f2, l3, l4, qy⟩ := qy
      refine fmt_ok (Q := fun x H1 => ∃ y : Str, x = .str y ∧ ((y1 ++ c) ++ y).length ≤ sizeLine ∧ tJs _ ((y1 ++ c) ++ y) σ H1 _) r2 e2 f2 l3 ⟨y2, rfl, by rw [sizeLine_eq]; omega, ?_⟩
      exact hq _ s2 _ H2 qy R2 (g1.trans g2) (Im.str _)
    · exact qy.elim
  · exact qx.elim
/-! ### a text * 0 or 1 -/
def rMulS : R2 := fun x y H Q => ∃ (z : Str) (k : Int), x = .str z ∧ y = .int k ∧ ((k = 0 ∧ Q (.str Str.empty) H) ∨ (k = 1 ∧ Q (.str z) H))
theorem op_mulS : OpR X (binaryOp .Mult) rMulS := by
  intro pins s σ H x y v u Q I rx ry h
  obtain ⟨z, k, rfl, rfl, h⟩ := h
  obtain ⟨t, rfl⟩ := rx
  obtain ⟨t', rfl⟩ := ry
  rcases h with ⟨rfl, q⟩ | ⟨rfl, q⟩
  · exact P.mul_str_none (by decide) (by decide) ⟨.str _, H, I.tok _, ⟨_, rfl⟩, q⟩
  · refine P.mul_str (by decide) (fun _ h => by simp at h) (fun _ h => by simp at h) ?_
    rw [if_neg (by decide), if_pos (show ((1 : Int) == 1 || z.length == 0) = true from rfl)]
    exact ⟨.str z, H, I, ⟨_, rfl⟩, q⟩
def opMulS : Op := fun x y Q => match x.D, y.D with
  | some (.str z), some (.int k) => (k = 0 ∧ Q (.im (.str Str.empty))) ∨ (k = 1 ∧ Q (.im (.str z)))
  | _, _ => False
theorem o2_mulS : Op2 K rMulS opMulS := by
  intro Z B0 ρ s H0 σ Ha Hb H v u x y Qd Q R rx ry q k
  unfold opMulS at q
  split at q
  · rename_i z i e1 e2
    refine ⟨z, i, rx.vS e1, ry.vI e2, ?_⟩
    rcases q with ⟨h, q⟩ | ⟨h, q⟩
    · exact .inl ⟨h, k _ _ _ q (Same.refl H) (Im.str _)⟩
    · exact .inr ⟨h, k _ _ _ q (Same.refl H) (Im.str _)⟩
  · exact q.elim
theorem de_mulS (ha : DE Z X a da) (hb : DE Z X b db) : DE Z X (.BinOp a .Mult b pos) (dBin opMulS da db) := PE.of (pe_op op_mulS ha hb) fun σ H Q h => lift_bin (K := X.K) o2_mulS h
/-! ### a try that runs through -/
theorem ds_thru {h₀ : ExceptHandler} {hs : List ExceptHandler} (hb : DSs Z X.nox sts t) : DS Z X (.Try sts (h₀ :: hs) [] [] pos) t := ps_try_thru0 hb
end
end Lf
namespace Lf
open PySem PySem.Spec PyProof.Rows L2
/-! ### k12: what beside refuses -/
def refS (n : Nat) : Str := if n = 0 then "BadCount" else if n = 2 then "none" else "TooMany 24"
def fRef : DF Z0 := fun s as Q => ∃ n : Nat, as = [.im (.int (n : Nat))] ∧ (n = 0 ∨ n = 2 ∨ n = 3) ∧ Q (.im (.str (refS n))) s
def refB (K : PySem.W.Frag) (CB CT : Addr) : Bool := exB K CT && (decide (PySem.W.exmOne K (.ref CB) (.ref CB) = some true) && (decide (PySem.W.exmOne K (.ref CT) (.ref CB) = some false) && decide (PySem.W.exmOne K (.ref CT) (.ref CT) = some true)))
def dRefT : DSt Z0 := fun De s ρ => ∃ n : Nat, ρ = [.im (.int (n : Nat)), .im (tupN (List.range 12)), .im (.str "none"), .no] ∧ (n = 0 ∨ n = 2 ∨ n = 3) ∧ De.rt (.im (.str (refS n))) s
section
variable {X : Cx} {e : Expr} {es : List Expr} {pos p : Pos} {k j : Nat} {n : Str} {sp : Sp} {E : L2.St → XK}
theorem pe_RS {t : TA} (D : DfR X.prog X.w X.K X.mg X.base (L2.CX X.prog X.w) k n sp) (hr : Room j X.A) (hx : ∀ σ, PassesAt (L2.CX X.prog X.w) X σ (E σ)) (ha : PA X (e :: es) t) (hj : k ≤ j := by decide) (hg : Gl X n := by rfl)
    (hdb : (n == ("__debug__" : Str)) = false := by decide) (he : starEach (e :: es) X.env = (false, eval e X.env) :: starEach es X.env := by rfl) (hpl : (backTo pos (starEach es X.env)).any (·.1) = false := by rfl) : PE X (.Call (.Name n p) (e :: es) [] pos) (tCallS sp E t) := by
  obtain ⟨f, g, kp, F⟩ := D
  refine ⟨fun pins s σ H Q I h => ?_⟩
  refine wpAny_Call_Name_kw (ld_glob I hg g ?_ hdb)
  refine PySem.W.callWith_K (h₀ := X.base) I.ok.mod.kin kp (thn (ha.run pos pins s σ H _ I h) fun us s1 ⟨vs, H1, I1, r, q⟩ => ⟨I1.kIn, ?_⟩) he hpl
  refine wpAny_call (codeAny_mono ((F.mono hj) X.A X.stack s1 H1 us vs Q (E σ) hr I1.env0 r q) fun r s' hq => ?_)
  cases r with
  | error e => exact hx σ pins H1 s1 e s' I1 hq
  | ok fl =>
    cases fl with
    | ret u => exact I1.after hq
    | _ => exact False.elim hq
theorem pe_RS0 (D : DfR X.prog X.w X.K X.mg X.base (L2.CX X.prog X.w) k n sp) (hr : Room j X.A) (hx : ∀ σ, PassesAt (L2.CX X.prog X.w) X σ (E σ)) (hj : k ≤ j := by decide) (hg : Gl X n := by rfl)
    (hdb : (n == ("__debug__" : Str)) = false := by decide) : PE X (.Call (.Name n p) [] [] pos) (fun σ H Q => sp [] H Q (E σ)) := by
  obtain ⟨f, g, kp, F⟩ := D
  refine ⟨fun pins s σ H Q I h => ?_⟩
  refine wpAny_Call_Name_kw (ld_glob I hg g ?_ hdb)
  refine PySem.W.callWith_K0 I.kIn kp ?_
  refine wpAny_call (codeAny_mono ((F.mono hj) X.A X.stack s H [] [] Q (E σ) hr I.env0 .nil h) fun r s' hq => ?_)
  cases r with
  | error e => exact hx σ pins H s e s' I hq
  | ok fl =>
    cases fl with
    | ret u => exact I.after hq
    | _ => exact False.elim hq
end
section
variable {P : Program} {w : World} {K : PySem.W.Frag} {mg : Str → Option Value} {base : Heap}
abbrev s__law_refused : Stmt := topS (39)
abbrev N__law_refused : List Str := ["_law_count", "_law_twelve", "_law_word", "error"]
theorem sc__law_refused : FnScope N__law_refused ["_law_count"] (defScope s__law_refused) := ⟨rfl, rfl, rfl, by decide +kernel, rfl, by decide +kernel, by decide +kernel⟩
theorem ok_refused {CB CT : Addr} (M : Mk K mg "_law_refused" s__law_refused ["_law_count"]) (hB : refB K CB CT = true) (no : PySem.W.findIn K (.ref CT) "limit" = some none) (gB : mg "BadCount" = some (.ref CB)) (gT : mg "TooMany" = some (.ref CT)) (dX_beside : DfR P w K mg base (L2.CX P w) 3 "beside" (spX Z0 (fRstX (fBesX CB CT)))) (m_range : mg "range" = none) (m_str : mg "str" = none) (m_tuple : mg "tuple" = none) :
    Df P w K mg base CX0 4 "_law_refused" ["_law_count"] (spD Z0 fRef) := by
  have nd := sc__law_refused.nd
  obtain ⟨b1, hB⟩ := Bool.and_eq_true_iff.mp hB
  obtain ⟨b2, hB⟩ := Bool.and_eq_true_iff.mp hB
  obtain ⟨b3, b4⟩ := Bool.and_eq_true_iff.mp hB
  have ex := exB_ok b1
  have x2 := of_decide_eq_true b2
  have x3 := of_decide_eq_true b3
  have x4 := of_decide_eq_true b4
  refine def_ok (k := 3) M sc__law_refused (by decide) ?_ (fun f cdv A outer s H E hr => have hu := hu65 hr; ds_cons (ds_par (i := 1) (j := 2) rfl nd rfl rfl (by decide) rfl rfl (de_tupR1 rfl (by rfl) m_tuple (by rfl) m_range de_int) de_str) (show DSs Z0 _ _ dRefT from
      PSs.of (pss_cons (ps_try_two (i := 3) rfl rfl nd rfl rfl ⟨rfl, by decide, .inl gB⟩ ⟨rfl, by decide, .inl gT⟩
        (fun W pn xe tk _ => pss_one (ps_if (pt_cmpR op_eq (pv 0) pe_int (nomark _)) (pss_one (ps_expr (pe_RS0 dX_beside hr (fun σ => passAt tk σ)))) (pss_one (ps_if (pt_cmpR op_eq (pv 0) pe_int (nomark _)) (pss_one (ps_expr (pe_RS dX_beside hr (fun σ => passAt tk σ) (pa_cons (pv 1) (pa_cons (pv 1) pa_nil))))) (pss_one (ps_expr (pe_RS dX_beside hr (fun σ => passAt tk σ) (pa_cons (pv 1) (pa_cons (pv 1) (pa_cons (pv 1) pa_nil))))))))))
        (fun a oe cls d pn hz hf => pss_one (ps_set (i := 2) nd rfl (.inl rfl) pe_str))
        (fun a oe cls d pn hz hf => pss_one (ps_set (i := 2) nd rfl (.inl rfl) (pe_op op_add_str pe_str (pe_callTy call_str_int (by rfl) m_str (by decide +kernel) (pa_cons (pe_xf ex.xf no hz hf (pv 3)) pa_nil))))))
        (pss_one (ps_ret (pv 2)))) fun D σ H ⟨B0, H0, ρ, s, De, R, ⟨n, eρ, hn, q⟩, _, _, _, hrt⟩ => ?tail)) ?_
  case tail =>
    subst eρ
    obtain ⟨o0, s0, v0, rfl, i0⟩ := R.sl 0 _ rfl
    cases i0
    obtain ⟨o1, s1, v1, rfl, i1⟩ := R.sl 1 _ rfl
    obtain ⟨o2, s2, v2, rfl, i2⟩ := R.sl 2 _ rfl
    cases i2
    have fin : ∀ (S : Str) (H' : Hp), Same H H' → S = refS n → D.rt (V.str S) H' := fun S H' sm e => by
      subst e
      exact hrt (.im (.str (refS n))) s _ H' q trivial (fun b o e _ => sm b o (R.frm b o e id)) (Im.str _)
    have l2 : 2 < σ.length := (List.getElem?_eq_some_iff.mp s2).1
    have i1 : Im (Bad Z0 B0 _) H v1 (tupN (List.range 12)) := i1
    have args : ∀ m, ArgRs (Bad Z0 (Bad Z0 B0 [.im (.int (n : Nat)), .im (tupN (List.range 12)), .im (.str "none"), .no]) []) H (List.replicate m v1) ((List.replicate m (tupN (List.range 12))).map Sl.im) := fun m => by
      induction m with
      | zero => exact .nil
      | succ m ih => exact .cons (x := .im (tupN (List.range 12))) (Im.bad (fun a z => z.elim (fun z => z.elim) fun z => z.elim id fun z => nomatch z) i1) ih
    have hBB : ∀ a, Bad Z0 B0 [.im (.int (n : Nat)), .im (tupN (List.range 12)), .im (.str "none"), .no] a → H a ≠ none := fun a z => R.bad z
    rcases hn with rfl | rfl | rfl
    · refine ⟨.int ((0 : Nat) : Int), s0, rfl, _, rfl, iteT ?_⟩
      refine ⟨_, (), _, fun _ _ => False, fun C o _ => C = CB ∧ o = none, trivial, hBB, args 0, ⟨[], rfl, by decide, [], rfl, by decide, by decide, fun _ => ⟨rfl, rfl⟩, fun z => absurd rfl z, fun z => absurd rfl z⟩, fun r s' v H' z => z.elim, fun C o s' dx H' hx ok gr er => ?_⟩
      obtain ⟨rfl, rfl⟩ := hx
      have g2 : Same H H' := fun b o e => gr b o e id
      exact .inl ⟨x2, fun a na => ⟨_, List.getElem?_set_self l2, fin _ H' g2 rfl⟩⟩
    · refine ⟨.int ((2 : Nat) : Int), s0, rfl, _, rfl, iteF ?_⟩
      refine ⟨.int ((2 : Nat) : Int), s0, rfl, _, rfl, iteT ?_⟩
      refine ⟨v1, s1, v1, s1, ?_⟩
      refine ⟨_, (), _, fun _ _ => True, fun _ _ _ => False, trivial, hBB, args 2, ⟨List.replicate 2 (tupN (List.range 12)), rfl, by decide, List.replicate 2 (List.range 12), rfl, by decide, by decide, fun z => absurd z (by decide), fun _ z => absurd z (by decide), fun _ _ => trivial⟩, fun r s' v H' _ ok gr rr => ?_, fun C o s' dx H' z => z.elim⟩
      have g2 : Same H H' := fun b o e => gr b o e id
      exact ⟨_, s2, fin _ H' g2 rfl⟩
    · refine ⟨.int ((3 : Nat) : Int), s0, rfl, _, rfl, iteF ?_⟩
      refine ⟨.int ((3 : Nat) : Int), s0, rfl, _, rfl, iteF ?_⟩
      refine ⟨v1, s1, v1, s1, v1, s1, ?_⟩
      refine ⟨_, (), _, fun _ _ => False, fun C (o : Er) _ => C = CT ∧ o = some (Str.ofString "limit", PyData.int 24), trivial, hBB, args 3, ⟨List.replicate 3 (tupN (List.range 12)), rfl, by decide, List.replicate 3 (List.range 12), rfl, by decide, by decide, fun z => absurd z (by decide), fun _ _ => ⟨rfl, rfl⟩, fun _ z => absurd z (by decide)⟩, fun r s' v H' z => z.elim, fun C o s' dx H' hx ok gr er => ?_⟩
      obtain ⟨rfl, rfl⟩ := hx
      cases dx with
      | none => exact er.elim
      | some dd =>
        obtain ⟨v3, hdd, i3⟩ := er
        cases i3
        have g2 : Same H H' := fun b o e => gr b o e id
        have l3 : 3 < σ.length := by
          have := R.len
          rw [this]
          show 3 < 4
          decide
        have lkp : List.lookup (Str.ofString "limit") [(Str.ofString "limit", V.int 24)] = some (V.int 24) := by simp [List.lookup]
        have eS : (Str.ofString "TooMany ") ++ Str.ofString (toString (24 : Int)) = refS 3 := by decide +kernel
        refine .inr ⟨x3, x4, fun a na => ?_⟩
        refine ⟨.ref a, List.getElem?_set_self l3, rfl, rfl, dd, _, .int 24, rfl, hdd, lkp, 24, rfl, by decide, _, _, rfl, rfl, by decide +kernel, ?_⟩
        refine ⟨_, ?_, fin _ H' g2 eS⟩
        show (((σ.set 3 (some (V.ref a))).set 2 _).set 3 none)[2]? = _
        rw [List.getElem?_set_ne (by decide), List.getElem?_set_self (by rw [List.length_set]; exact l2)]
  · rintro s as Qd ⟨n, rfl, _⟩; rfl
  · rintro s as Qd ⟨n, rfl, hn, q⟩
    exact ⟨by decide, by decide, n, rfl, hn, q⟩
end
end Lf
namespace Lf
open PySem PySem.Spec PyProof.Rows L2
/-! ### k12: the law -/
--@call _law_pull Z pass0
--@call _law_forest Z pass0
--@call _law_mixed Z pass0
--@call _law_item Z pass0
--@call _law_beside_right Z pass0
--@sub (de_callR d_beside => (de_callR d_beside
theorem opSub_int {i j : Int} {Q : Rv → Prop} (q : Q (.im (.int (i - j)))) : opSub (.im (.int i)) (.im (.int j)) Q := q
theorem nil_side (fs : List Nat) : side [] fs = fs := by
  unfold side
  rw [List.nil_append]
  refine (List.map_congr_left fun x _ => ?_).trans (List.map_id fs)
  show 0 + x = x
  omega
theorem eqvL (a b : List Nat) : PyData.eqv (.list (nD a)) (.list (nD b)) = decide (a = b) := eqv_nD a b
theorem eqvT (a b : List Nat) : PyData.eqv (tupN a) (tupN b) = decide (a = b) := eqv_nD a b
theorem ask_b {Ls : List (List Nat)} {R : List Nat} {as : List Sl} {Q : Rv → Unit → Prop} (e : as = Ls.map fun S => Sl.im (tupN S)) (lL : Ls.length ≤ 1000) (ne : Ls ≠ []) (hs : sumL Ls ≤ 24) (eR : sides Ls = R) (q : Q (.im (tupN R)) ()) : fRst fBes () as Q := by
  subst eR
  exact ⟨Ls.map tupN, by rw [e, List.map_map]; rfl, by rw [List.length_map]; exact lL, Ls, rfl, lL, ne, hs, q⟩
theorem plus_n (n : Nat) (l : List Nat) : (l.map fun v => PyData.int (((v : Nat) : Int) + ((n : Nat) : Int))) = nD (l.map (n + ·)) := by
  unfold nD
  rw [List.map_map]
  refine List.map_congr_left fun v _ => ?_
  show PyData.int _ = PyData.int ((n + v : Nat) : Int)
  congr 1
  omega
theorem hvyL_le (fs : List Nat) : (hvyL fs).length ≤ fs.length := by
  have := List.length_filter_le (hvC fs) (List.range fs.length)
  rw [List.length_range] at this
  exact this
theorem isB_side {fs gs : List Nat} (F : Forest fs) (G : Forest gs) (h : fs.length + gs.length ≤ 24) : isB (side fs gs) = (isB fs && isB gs) := by
  rw [← isB_nil, ← isB_nil, ← isB_nil]
  have e : hvyL (side fs gs) = hvyL fs ++ (hvyL gs).map (fs.length + ·) := hvy_side F G h
  rw [e, Bool.eq_iff_iff, Bool.and_eq_true_iff, decide_eq_true_iff, decide_eq_true_iff, decide_eq_true_iff, List.append_eq_nil_iff, List.map_eq_nil_iff]
def fItW (wa l : Addr) : DF (wz wa l) := fun s as Q => ∃ ds : List PyData, as = [.raw (.ref wa), .im (.tuple ds)] ∧ 1 ≤ ds.length ∧ ds.length ≤ 1000 ∧ ∀ d ∈ ds, Q (.im d) s
def fBR (wa l : Addr) : DF (wz wa l) := fun s as Q => ∃ fs : List Nat, as = [.raw (.ref wa), .im (tupN fs)] ∧ Forest fs ∧ Q (.im (.bool true)) s
def fEA : DF Z0 := fun s as Q => ∃ (fs : List Nat) (c : Nat), as = [.im (tupN fs), .im (.int (c : Nat))] ∧ Forest fs ∧ c < fs.length ∧ hvC fs c = true ∧ Q (.im (.bool true)) s
section
variable {P : Program} {w : World} {K : PySem.W.Frag} {mg : Str → Option Value} {base : Heap}
abbrev s__law_item : Stmt := topS (29)
abbrev N__law_item : List Str := ["_law_well_here", "_law_items"]
abbrev p__law_item : List Str := ["_law_well_here", "_law_items"]
theorem sc__law_item : FnScope N__law_item p__law_item (defScope s__law_item) := ⟨rfl, rfl, rfl, by decide +kernel, rfl, by decide +kernel, by decide +kernel⟩
theorem ok_itemW (M : Mk K mg "_law_item" s__law_item p__law_item) (wa la : Addr) (d__law_pull : Df P w K mg base CX0 1 "_law_pull" ["_law_well_here", "_law_many"] (spD (wz wa la) (fDraw wa la))) (m_len : mg "len" = none) : Df P w K mg base CX0 2 "_law_item" p__law_item (spD (wz wa la) (fItW wa la)) := by
  have nd := sc__law_item.nd
  refine def_ok (k := 1) M sc__law_item (by decide) ?_ (fun f cdv A outer s H E hr => have hu := hu65 hr; (ds_one (ds_ret (de_ix (dv 1) (de_call d__law_pull pass0 hr (da_cons (dv 0) (da_cons (de_len (by rfl) m_len (da_cons (dv 1) da_nil)) da_nil))))))) ?_
  · rintro s as Qd ⟨ds, rfl, _⟩; rfl
  · rintro s as Qd ⟨ds, rfl, h1, h2, q⟩
    refine ⟨ds.length, rfl, by omega, by omega, fun r hr => ⟨.inl rfl, ?_⟩⟩
    exact ⟨_, atI_nat (List.getElem?_eq_getElem hr), q _ (List.getElem_mem hr)⟩
abbrev s__law_beside_right : Stmt := topS (37)
abbrev N__law_beside_right : List Str := ["_law_well_here", "_law_parents", "_law_other", "_law_n", "_law_both", "_law_due", "_law_parent", "_law_child"]
abbrev p__law_beside_right : List Str := ["_law_well_here", "_law_parents"]
theorem sc__law_beside_right : FnScope N__law_beside_right p__law_beside_right (defScope s__law_beside_right) := ⟨rfl, rfl, rfl, by decide +kernel, rfl, by decide +kernel, by decide +kernel⟩
theorem ok_bright (M : Mk K mg "_law_beside_right" s__law_beside_right p__law_beside_right) (wa la : Addr) (d__law_forest : Df P w K mg base CX0 4 "_law_forest" ["_law_well_here", "_law_most"] (spD (wz wa la) (fForW wa la))) (d_beside : DfR P w K mg base CX0 1 "beside" (spD Z0 (fRst fBes))) (d_heavy_children : Df P w K mg base CX0 6 "heavy_children" p_heavy_children (spD Z0 fHeavy)) (d_is_built : Df P w K mg base CX0 7 "is_built" p_is_built (spD Z0 fBuilt)) (m_len : mg "len" = none) (m_tuple : mg "tuple" = none) : Df P w K mg base CX0 8 "_law_beside_right" p__law_beside_right (spD (wz wa la) (fBR wa la)) := by
  have nd := sc__law_beside_right.nd
  refine def_ok (k := 7) M sc__law_beside_right (by decide) ?_ (fun f cdv A outer s H E hr => have hu := hu65 hr; (ds_cons (ds_set (i := 2) nd rfl (.inl rfl) (de_call d__law_forest pass0 hr (da_cons (dv 0) (da_cons de_int da_nil))))
      (ds_cons (ds_set (i := 3) nd rfl (.inr rfl) (de_len (by rfl) m_len (da_cons (dv 1) da_nil)))
      (ds_cons (ds_if (dt_gt (de_add (dv 3) (de_len (by rfl) m_len (da_cons (dv 2) da_nil))) de_int) (ds_one (ds_ret de_bl)) ds_nil)
      (ds_cons (ds_set (i := 4) nd rfl (.inl rfl) (de_add (dv 1) (de_tuple (by rfl) m_tuple (da_cons (de_lc (ow := [("_law_parent", 6)]) (gok_name (i := 6) (by decide)) rfl nd (di_seq (dv 2)) (blkOk_by (own := [("_law_parent", 6)]) (N := N__law_beside_right) (sc := defScope s__law_beside_right) (by decide +kernel)) (fun _ _ _ _ _ => pg_name (i := 6) nd rfl (Or.inl rfl)) (fun _ _ _ _ _ => dp_nil) (fun _ _ _ _ _ => (de_add (dv 6) (dv 3)))) da_nil))))
      (ds_cons (ds_if (PW.pt (dw_or (dt_ne hu (de_callR d_beside pass0 hr (da_cons (dv 1) (da_cons (dv 2) da_nil))) (dv 4)) (dw_or1 (dt_ne hu (de_callR d_beside pass0 hr (da_cons (dv 4) da_nil)) (dv 4))))) (ds_one (ds_ret de_bl)) ds_nil)
      (ds_cons (ds_set (i := 5) nd rfl (.inl rfl) (de_add (de_callP d_heavy_children pass0 hr (da_cons (dv 1) da_nil)) (de_tuple (by rfl) m_tuple (da_cons (de_lc (ow := [("_law_child", 7)]) (gok_name (i := 7) (by decide)) rfl nd (di_seq (de_callP d_heavy_children pass0 hr (da_cons (dv 2) da_nil))) (blkOk_by (own := [("_law_child", 7)]) (N := N__law_beside_right) (sc := defScope s__law_beside_right) (by decide +kernel)) (fun _ _ _ _ _ => pg_name (i := 7) nd rfl (Or.inl rfl)) (fun _ _ _ _ _ => dp_nil) (fun _ _ _ _ _ => (de_add (dv 7) (dv 3)))) da_nil))))
      (ds_one (ds_ret (de_and (de_eq hu (de_callP d_heavy_children pass0 hr (da_cons (dv 4) da_nil)) (dv 5)) (de_one (de_eq hu (de_callP d_is_built pass0 hr (da_cons (dv 4) da_nil)) (de_and (de_callP d_is_built pass0 hr (da_cons (dv 1) da_nil)) (de_one (de_callP d_is_built pass0 hr (da_cons (dv 2) da_nil)))))))))))))))) ?_
  · rintro s as Qd ⟨fs, rfl, _⟩; rfl
  · rintro s as Qd ⟨fs, rfl, hF, q⟩
    have few := hF.few
    refine ⟨12, rfl, by decide, by decide, fun gs hG lg => ⟨.inl rfl, ?_⟩⟩
    show if decide ((24 : Int) < (((nD fs).length : Nat) : Int) + (((nD gs).length : Nat) : Int)) = true then _ else _
    rw [nD_len, nD_len]
    by_cases big : 24 < fs.length + gs.length
    · rw [if_pos (decide_eq_true (by omega))]
      exact q
    rw [if_neg (by rw [decide_eq_false (by omega)]; decide)]
    have h24 : fs.length + gs.length ≤ 24 := by omega
    have S := side_forest hF hG h24
    refine ⟨rfl, ?_⟩
    refine lcR_nD (l := gs) (f := fun v => some (.int (((v : Nat) : Int) + ((fs.length : Nat) : Int)))) (fun v hv C hC => ⟨_, rfl, hC⟩) (by omega) ?_
    rw [fm_some, plus_n]
    refine ⟨by rw [nD_len, nD_len, List.length_map]; omega, ?_⟩
    have eM : nD fs ++ nD (gs.map (fs.length + ·)) = nD (side fs gs) := (nD_app _ _).symm
    rw [eM]
    refine ask_b (Ls := [fs, gs]) rfl (by show 2 ≤ 1000; decide) (fun z => nomatch z) (by show fs.length + (gs.length + 0) ≤ 24; omega) (show side (side [] fs) gs = _ by rw [nil_side]) ⟨.inl rfl, sh_tupN _, sh_tupN _, ?_⟩
    show if (!PyData.eqv (tupN (side fs gs)) (tupN (side fs gs))) = true then _ else _
    rw [eqvT, decide_eq_true rfl, if_neg (by decide)]
    refine ask_b (Ls := [side fs gs]) rfl (by show 1 ≤ 1000; decide) (fun z => nomatch z) (by show (side fs gs).length + 0 ≤ 24; rw [side_len]; omega) (nil_side _) ⟨.inl rfl, sh_tupN _, sh_tupN _, ?_⟩
    show if (!PyData.eqv (tupN (side fs gs)) (tupN (side fs gs))) = true then _ else _
    rw [eqvT, decide_eq_true rfl, if_neg (by decide)]
    refine ⟨fs, rfl, hF, .inl rfl, rfl, gs, rfl, hG, .inl rfl, ?_⟩
    have l1 := hvyL_le fs
    have l2 := hvyL_le gs
    refine lcR_nD (l := hvyL gs) (f := fun v => some (.int (((v : Nat) : Int) + ((fs.length : Nat) : Int)))) (fun v hv C hC => ⟨_, rfl, hC⟩) (by omega) ?_
    rw [fm_some, plus_n]
    have eH : nD (hvyL fs) ++ nD ((hvyL gs).map (fs.length + ·)) = nD (hvyL (side fs gs)) := by
      rw [← nD_app]
      congr 1
      exact (hvy_side hF hG h24).symm
    refine ⟨by rw [nD_len, nD_len, List.length_map]; omega, ?_⟩
    rw [eH]
    refine ⟨side fs gs, rfl, S, .inl rfl, sh_tupN _, sh_tupN _, ?_⟩
    show if PyData.eqv (tupN (hvyL (side fs gs))) (tupN (hvyL (side fs gs))) = true then _ else _
    rw [eqvT, decide_eq_true rfl, if_pos rfl]
    refine ⟨side fs gs, rfl, S, .inl rfl, fs, rfl, hF, .inl rfl, ?_⟩
    rw [isB_side hF hG h24]
    cases isB fs with
    | true =>
      refine ⟨gs, rfl, hG, .inl rfl, rfl, rfl, ?_⟩
      cases isB gs <;> exact q
    | false => exact ⟨rfl, rfl, q⟩
abbrev s__law_eased_right : Stmt := topS (38)
abbrev N__law_eased_right : List Str := ["_law_parents", "_law_child", "_law_own", "_law_n", "_law_lighter", "_law_lack", "_law_more", "_law_less", "_law_v"]
abbrev p__law_eased_right : List Str := ["_law_parents", "_law_child"]
theorem sc__law_eased_right : FnScope N__law_eased_right p__law_eased_right (defScope s__law_eased_right) := ⟨rfl, rfl, rfl, by decide +kernel, rfl, by decide +kernel, by decide +kernel⟩
theorem ok_eased (M : Mk K mg "_law_eased_right" s__law_eased_right p__law_eased_right) (d_weights : Df P w K mg base CX0 5 "weights" p_weights (spD Z0 fWeights)) (d_children_of : Df P w K mg base CX0 4 "children_of" p_children_of (spD Z0 fKids)) (d_heavy_children : Df P w K mg base CX0 6 "heavy_children" p_heavy_children (spD Z0 fHeavy)) (m_len : mg "len" = none) (m_sum : mg "sum" = none) : Df P w K mg base CX0 8 "_law_eased_right" p__law_eased_right (spD Z0 fEA) := by
  have nd := sc__law_eased_right.nd
  refine def_ok (k := 7) M sc__law_eased_right (by decide) ?_ (fun f cdv A outer s H E hr => have hu := hu65 hr; (ds_cons (ds_parC (i := 2) (j := 3) rfl nd rfl rfl (.inr rfl) (.inl rfl) (de_callP d_weights pass0 hr (da_cons (dv 0) da_nil)) (de_len (by rfl) m_len (da_cons (dv 0) da_nil)))
      (ds_cons (ds_setLc (i := 4) (ow := [("_law_v", 8)]) (gok_name (i := 8) (by decide)) rfl nd rfl rfl (sw_true rfl rfl rfl rfl) (di_seq (de_callP d_children_of pass0 hr (da_cons (dv 0) (da_cons (de_ix (dv 0) (dv 1)) da_nil)))) (blkOk_by (own := [("_law_v", 8)]) (N := N__law_eased_right) (sc := defScope s__law_eased_right) (by decide +kernel)) (fun _ _ _ _ _ => pg_name (i := 8) nd rfl (Or.inl rfl)) (fun _ _ _ _ _ => (dp_one (dt_lt (de_ix (dv 2) (dv 8)) (de_ix (dv 2) (dv 1))))) (fun _ _ _ _ _ => (de_ix (dv 2) (dv 8))))
      (ds_cons (ds_set (i := 5) nd rfl (.inl rfl) (de_sub (de_sub (de_ix (dv 2) (dv 1)) de_int) (de_sum rfl (by rfl) m_sum (da_cons (dv 4) da_nil))))
      (ds_cons (ds_if (dt_gt (de_add (dv 3) (dv 5)) de_int) (ds_one (ds_ret de_bl)) ds_nil)
      (ds_cons (ds_set (i := 6) nd rfl (.inl rfl) (de_add (dv 0) (de_mulT (de_tup (da_cons (de_ix (dv 0) (dv 1)) da_nil)) (dv 5))))
      (ds_cons (ds_set (i := 7) nd rfl (.inl rfl) (de_add (dv 0) (de_mulT (de_tup (da_cons (de_ix (dv 0) (dv 1)) da_nil)) (de_sub (dv 5) de_int))))
      (ds_one (ds_ret (de_and (de_notin hu (dv 1) (de_callP d_heavy_children pass0 hr (da_cons (dv 6) da_nil))) (de_one (de_in hu (dv 1) (de_callP d_heavy_children pass0 hr (da_cons (dv 7) da_nil)))))))))))))) ?_
  · rintro s as Qd ⟨fs, c, rfl, _⟩; rfl
  · rintro s as Qd ⟨fs, c, rfl, hF, hc, hv, q⟩
    have few := hF.few
    have wl : (wtL fs).length = fs.length := wN_len _
    have pc := hF.rng c hc
    refine ⟨fs, rfl, hF, .inl rfl, ?_⟩
    refine ⟨rfl, _, nD_at hc, fs, par fs c, rfl, hF, pc, .inl rfl, ?_⟩
    have kl := kidL_len (fs := fs) (v := par fs c)
    refine lcR_nD (l := kidL fs (par fs c)) (f := fun k => if decide (ldC fs k < ldC fs c) = true then some (.int (ldC fs k : Nat)) else none) (fun k hk C hC => ?_) (by omega) ?_
    · have hkl := kidL_lt hk
      refine ⟨_, nD_at (by rw [wl]; exact hkl), _, nD_at (by rw [wl]; exact hc), ?_⟩
      show if decide (((ldC fs k : Nat) : Int) < ((ldC fs c : Nat) : Int)) = true then _ else _
      by_cases z : ldC fs k < ldC fs c
      · rw [if_pos (decide_eq_true (by omega))]
        rw [if_pos (decide_eq_true z)] at hC
        exact ⟨_, nD_at (by rw [wl]; exact hkl), _, rfl, hC⟩
      · rw [if_neg (by rw [decide_eq_false (by omega)]; exact Bool.false_ne_true)]
        rw [if_neg (by rw [decide_eq_false z]; exact Bool.false_ne_true)] at hC
        exact hC
    rw [fm_if]
    have el : (((kidL fs (par fs c)).filter fun k => decide (ldC fs k < ldC fs c)).map fun k => PyData.int (ldC fs k : Nat)) = nD (ligL fs c) := by unfold ligL nD; rw [List.map_map]; rfl
    rw [el]
    show ∀ a4, _
    intro a4
    obtain ⟨lo, big⟩ := Bool.and_eq_true_iff.mp hv
    have lo := of_decide_eq_true lo
    have big := of_decide_eq_true big
    refine ⟨_, nD_at (by rw [wl]; exact hc), _, nD_I _, ?_⟩
    rw [sumN]
    obtain ⟨lack, eL, eN⟩ : ∃ lack : Nat, (((wtL fs).getD c 0 : Nat) : Int) - 1 - (((ligL fs c).sum : Nat) : Int) = ((lack : Nat) : Int) ∧ 1 + (ligL fs c).sum + lack = ldC fs c := ⟨ldC fs c - 1 - (ligL fs c).sum, by
      show ((ldC fs c : Nat) : Int) - 1 - _ = _
      omega, by omega⟩
    refine opSub_int (i := (((wtL fs).getD c 0 : Nat) : Int) - 1) (j := (((ligL fs c).sum : Nat) : Int)) ?_
    rw [eL]
    show if decide ((24 : Int) < (((nD fs).length : Nat) : Int) + ((lack : Nat) : Int)) = true then _ else _
    rw [nD_len]
    by_cases over : 24 < fs.length + lack
    · rw [if_pos (decide_eq_true (by omega))]
      exact q
    rw [if_neg (by rw [decide_eq_false (by omega)]; decide)]
    have one : 1 < ldC fs c := by omega
    have lo' : par fs c ≠ c := lo
    have eP : ∀ k : Nat, nD fs ++ (List.replicate k [PyData.int ((fs.getD c 0 : Nat) : Int)]).flatten = nD (lvs fs (par fs c) k) := fun k => by
      unfold lvs
      rw [nD_app, flat_rep, nD_rep]
      rfl
    have G1 := lvs_forest (k := lack) hF pc (by omega)
    have G2 := lvs_forest (k := lack - 1) hF pc (by omega)
    have m1 : decide (c ∈ hvyL (lvs fs (par fs c) lack)) = false := by
      refine decide_eq_false fun z => ?_
      have := (List.mem_filter.mp z).2
      rw [hvC_l hF pc (by omega) hc rfl lo' one, decide_eq_true_iff] at this
      omega
    have m2 : decide (c ∈ hvyL (lvs fs (par fs c) (lack - 1))) = true := by
      refine decide_eq_true (List.mem_filter.mpr ⟨List.mem_range.mpr (by rw [lvs_len]; omega), ?_⟩)
      rw [hvC_l hF pc (by omega) hc rfl lo' one, decide_eq_true_iff]
      omega
    refine ⟨_, nD_at hc, _, rfl, by show 1 ≤ 1000000; decide, (fun z => nomatch z), by omega, by omega, by show 1 ≤ 1000; decide, ?_⟩
    have eT : (((lack : Nat) : Int) - 1).toNat = lack - 1 := by omega
    refine ⟨by rw [nD_len, Int.toNat_natCast, flat_rep, List.length_replicate]; omega, ?_⟩
    rw [Int.toNat_natCast, eP]
    refine ⟨_, nD_at hc, _, rfl, by show 1 ≤ 1000000; decide, (fun z => nomatch z), by omega, by omega, by show 1 ≤ 1000; decide, ?_⟩
    refine ⟨by rw [nD_len, eT, flat_rep, List.length_replicate]; omega, ?_⟩
    rw [eT, eP]
    refine ⟨lvs fs (par fs c) lack, rfl, G1, .inl rfl, rfl, sh_tupN _, ?_⟩
    rw [any_nD, m1]
    refine ⟨lvs fs (par fs c) (lack - 1), rfl, G2, .inl rfl, rfl, sh_tupN _, ?_⟩
    rw [any_nD, m2]
    exact q
end
end Lf
namespace PySem.SeqAt
open PySem PyProof.Rows PySem.Spec
/-! ### a dict == an int -/
theorem dict_declines_int (l : Addr) (es : Array DictEntry) (n : Nat) (dd : Option Addr) (sl : Array (Option Value)) (b : Int) (u : Tok) :
    Meets (Builtin.«dict.__eq__» ⟨[.ref l, .int b u], []⟩) (fun _ R s => s.heap.get? l = some { cls := .type "dict", dict := dd, data := .dict es n, slots := sl } ∧ R (.ok (.ret .notImplemented)) s) :=
  .of_wp fun prog w A R s h => by obtain ⟨hp, g, d, tk, os⟩ := s; obtain ⟨hl, h⟩ := h; have f1 := F.sub_int_dict; wp_walk using wpAny_loadPart' hl, wpAny_load hl; exact ⟨_, rfl, h⟩
theorem int_declines_dict (b : Int) (u : Tok) (l : Addr) (c : Value) (es : Array DictEntry) (n : Nat) (dd : Option Addr) (sl : Array (Option Value)) :
    Meets (Builtin.«int.__eq__» ⟨[.int b u, .ref l], []⟩) (fun _ R s => s.heap.get? l = some { cls := c, dict := dd, data := .dict es n, slots := sl } ∧ R (.ok (.ret .notImplemented)) s) :=
  .of_wp fun prog w A R s h => by obtain ⟨hp, g, d, tk, os⟩ := s; obtain ⟨hl, h⟩ := h; wp_walk using wpAny_loadPart' hl, wpAny_load hl; exact ⟨_, rfl, h⟩
theorem rc_dict_int {A : Around} {s : Shared} {l : Addr} {o : Obj} {es : Array DictEntry} {n : Nat} (b : Int) (u : Tok) (ho : s.heap.get? l = some o) (he : o.ExactDict) (hd : o.data = .dict es n) (hu : A.units < cLine) : RcAt A s (.ref l) (.int b u) false := fun prog w E Q h => by
  obtain ⟨cls, dd, data, sl⟩ := o
  obtain ⟨h1, h2, h3⟩ := he
  simp only at h1 hd
  subst h1 hd
  exact rc_eq_decline_or (k := false) ⟨_, ho, rfl⟩ (typeIs_int s b u) (by decide) F.sub_int_dict F.slot_dict_eq F.slot_int_eq_refl
    (fun _ hq => call_meets F.slot_dict_eq ⟨_, ho, rfl⟩ F.entry_dict_eq (F.args_dict_eq_2 _ _) (dict_declines_int l es n dd sl b u) ⟨ho, hq⟩)
    (fun _ hq => call_meets F.slot_int_eq_refl (typeIs_int s b u) F.entry_int_eq (F.args_int_eq_2 _ _) (int_declines_dict b u l (.type "dict") es n dd sl) ⟨ho, hq⟩)
    (fun _ hq => wpAny_of_eq (rfl : isSame (.ref l) (.int b u) = pure false) hq) (.inr hu) h
end PySem.SeqAt
namespace Lf
open PySem PySem.Spec PyProof.Rows L2
section
variable {Z : Zn} {X : Cx} {a b : Expr} {da db : DX Z} {pos p : Pos} {K : PySem.W.Frag}
def rDI : R2 := fun x y H Q => ∃ (d : Addr) (kvs : List (Key × V)) (i : Int), x = .ref d ∧ y = .int i ∧ H d = some (.dK kvs) ∧ Q (.bl false) H
theorem op_DI (hu : X.A.units < cLine) : OpR X (compareOp .Eq) rDI := by
  intro pins s σ H x y v u Q I rx ry h
  obtain ⟨d, kvs, i, rfl, rfl, hd, q⟩ := h
  cases (show v = Value.ref d from rx)
  obtain ⟨t, rfl⟩ := ry
  obtain ⟨_, _, vs, _, o, es, ep, ho, hx, hda, _⟩ := I.hok d _ hd
  exact SeqAt.rc_dict_int i t ho hx hda hu _ _ _ _ ⟨.bl false, H, I, rfl, q⟩
inductive opEqK (x y : Rv) (Q : Rv → Prop) : Prop
  | dct {es : List (PyData × PyData)} {i : Int} : x.D = some (.dict es) → y.D = some (.int i) → Q (.im (.bool false)) → opEqK x y Q
  | els : opEq x y Q → opEqK x y Q
theorem o2_eqK : Op2 K (fun x y H Q => (rEq x y H Q ∨ rEqD K x y H Q) ∨ rDI x y H Q) opEqK := by
  intro Z B0 ρ s H0 σ Ha Hb H v u x y Qd Q R rx ry q k
  cases q with
  | @dct es i e1 e2 q =>
    cases rx.rd e1 with
    | dct h1 _ _ => exact .inr ⟨_, _, i, rfl, ry.vI e2, h1, k _ _ _ q (Same.refl H) (Im.bl _)⟩
  | els q => exact .inl (o2_eq Z B0 ρ s H0 σ Ha Hb H v u x y Qd Q R rx ry q k)
theorem de_eqK (hu : X.A.units + 65 < cLine) (ha : DE Z X a da) (hb : DE Z X b db) : DE Z X (.Compare a [.Eq] [b] pos) (dBin opEqK da db) :=
  PE.of (pe_cmpR ((op_eq.or (op_eqD (by omega))).or (op_DI (by omega))) ha hb (nomark _)) fun σ H Q h => lift_bin (K := X.K) o2_eqK h
/-! ### t == () of a tuple of any items -/
def dEqE (da : DX Z) : DX Z := fun s ρ Q => da s ρ fun x s1 => match x.D with
  | some (.tuple l) => Q (.im (.bool l.isEmpty)) s1
  | _ => False
theorem dt_eqE {kk} {p' : Pos} (hu : X.A.units + 65 < cLine) (ha : DE Z X a da) : DTs Z X (.Compare a [.Eq] [.Tuple [] kk p'] pos) (dTst (dEqE da)) := by
  refine PT.of (pt_cmpR (op_eqE (by omega)) ha (pe_tup pa_nil) (nomark _)) fun σ H Q h => ?_
  obtain ⟨B0, H0, ρ, s, Qd, R, hd, hq⟩ := lift_tst h
  refine ⟨B0, H0, ρ, s, _, R, hd, fun x s1 v H1 qx R1 g1 r1 => ?_⟩
  split at qx
  · rename_i l e1
    refine ⟨by show 0 ≤ sizeLine; decide, fun p hp => ?_⟩
    have sm := same_new (o := .tup []) hp
    obtain ⟨a, xs, rfl, h1, h2⟩ := r1.tup (K := X.K) e1
    refine ⟨a, p, xs, rfl, rfl, same_seqT sm h1, upd_same, ?_⟩
    have e : xs.isEmpty = l.isEmpty := by cases h2 <;> rfl
    rw [e]
    exact hq _ s1 _ _ qx (R1.same sm) (g1.trans (Gr.of sm)) (Im.bl _)
  · exact qx.elim
end
end Lf
namespace Lf
open PySem PySem.Spec PyProof.Rows L2
section
variable {Z : Zn} {X : Cx} {a : Expr} {da : DX Z} {pos : Pos}
/-! ### t != () of a tuple of any items -/
theorem op_neET (hu : X.A.units < cLine) : OpR X (compareOp .NotEq) (fun x y H Q => ∃ (a b : Addr) (xs : List V), x = .ref a ∧ y = .ref b ∧ SqT X.K H a xs ∧ H b = some (.tup []) ∧ Q (.bl (!xs.isEmpty)) H) := by
  intro pins s σ H x y v u Q I rx ry h
  obtain ⟨a, b, xs, rfl, rfl, ha, hb, q⟩ := h
  cases (show v = Value.ref a from rx)
  cases (show u = Value.ref b from ry)
  obtain ⟨its, rv, ⟨o, ho, hc, n, hd⟩, _⟩ := I.tuple ha
  obtain ⟨jts, rw', ⟨o2, ho2, hc2, n2, hd2⟩, _⟩ := I.tuple (SqT.of hb)
  cases rw'
  have e : ((List.range (min its.toArray.size ([] : List Value).toArray.size)).all (fun _ => true) && its.toArray.size == ([] : List Value).toArray.size) = xs.isEmpty := by
    have same := rv.length
    cases xs with
    | nil =>
      cases rv
      rfl
    | cons x xs =>
      cases rv with
      | cons _ _ => rfl
  refine SeqAt.RcNeAt.tuples (e := fun _ => true) ⟨o, ho, hc, n, hd⟩ ⟨o2, ho2, hc2, n2, hd2⟩ hu (fun j _ h2 => absurd h2 (Nat.not_lt_zero j)) _ _ _ _ ?_
  rw [e]
  exact ⟨.bl _, H, I, rfl, q⟩
def dNeE (da : DX Z) : DX Z := fun s ρ Q => da s ρ fun x s1 => match x.D with
  | some (.tuple l) => Q (.im (.bool (!l.isEmpty))) s1
  | _ => False
theorem dt_neET {kk} {p' : Pos} (hu : X.A.units + 65 < cLine) (ha : DE Z X a da) : DTs Z X (.Compare a [.NotEq] [.Tuple [] kk p'] pos) (dTst (dNeE da)) := by
  refine PT.of (pt_cmpR (op_neET (by omega)) ha (pe_tup pa_nil) (nomark _)) fun σ H Q h => ?_
  obtain ⟨B0, H0, ρ, s, Qd, R, hd, hq⟩ := lift_tst h
  refine ⟨B0, H0, ρ, s, _, R, hd, fun x s1 v H1 qx R1 g1 r1 => ?_⟩
  split at qx
  · rename_i l e1
    refine ⟨by show 0 ≤ sizeLine; decide, fun p hp => ?_⟩
    have sm := same_new (o := .tup []) hp
    obtain ⟨a, xs, rfl, h1, h2⟩ := r1.tup (K := X.K) e1
    refine ⟨a, p, xs, rfl, rfl, same_seqT sm h1, upd_same, ?_⟩
    have e : xs.isEmpty = l.isEmpty := by cases h2 <;> rfl
    rw [e]
    exact hq _ s1 _ _ qx (R1.same sm) (g1.trans (Gr.of sm)) (Im.bl _)
  · exact qx.elim
end
end Lf
namespace Lf
open PySem PySem.Spec PyProof.Rows L2
/-! ### k12: the law itself -/
--@call _law_forest Z pass0
--@call _law_mixed Z pass0
--@call _law_item Z pass0
--@call _law_beside_right Z pass0
--@sub (de_callR d_beside => (de_callR d_beside
--@sub (dt_neET hu (dv 8)) => (dt_neET hu (dv 8))
theorem hvyL_up (fs : List Nat) : (hvyL fs).Pairwise (· < ·) := List.Pairwise.filter _ List.pairwise_lt_range
theorem mem_joins {fs as : List Nat} {r : List Nat} (h : r ∈ joinsL fs as) : ∃ a b, r = [a, b] ∧ a ∈ as ∧ b ∈ tops fs ∧ a ≠ b ∧ cnt fs a fs.length ≤ cnt fs b fs.length := by
  obtain ⟨a, ha, h⟩ := List.mem_flatMap.mp h
  obtain ⟨b, hb, rfl⟩ := List.mem_map.mp h
  obtain ⟨h1, h2⟩ := List.mem_filter.mp hb
  obtain ⟨h3, h4⟩ := Bool.and_eq_true_iff.mp h2
  exact ⟨a, b, rfl, ha, h1, by rw [Bool.not_eq_true', decide_eq_false_iff_not] at h3; exact h3, of_decide_eq_true h4⟩
theorem big_at (k : Nat) : ∃ m : Nat, 1 ≤ m ∧ m ≤ 24 ∧ atI [PyData.int 24, .int 10] ((0 + (k : Nat) : Int) % 2) = some (.int (m : Nat)) := by
  have e : ((0 + (k : Nat) : Int) % 2) = ((k % 2 : Nat) : Int) := by omega
  rw [e]
  have h : k % 2 = 0 ∨ k % 2 = 1 := by omega
  rcases h with z | z
  · rw [z]; exact ⟨24, by decide, by decide, rfl⟩
  · rw [z]; exact ⟨10, by decide, by decide, rfl⟩
theorem isB_join {fs : List Nat} {a b : Nat} (F : Forest fs) (ha : a < fs.length) (pa : par fs a = a) (hb : b < fs.length) (pb : par fs b = b) (ne : a ≠ b) (le : wt fs a ≤ wt fs b) (h : isB fs = true) : isB (fs.set a b) = true := by
  have nh : ∀ c, ¬ Heavy fs c := fun c hc => by
    have := List.all_eq_true.mp h c (List.mem_range.mpr hc.1)
    rw [heavy_hvC F hc] at this
    cases this
  have G := join_forest F ha pa hb pb ne
  have nh2 := join_light F ha pa hb pb ne le nh
  refine List.all_eq_true.mpr fun c hc => ?_
  cases e : hvC (fs.set a b) c with
  | false => rfl
  | true => exact absurd (hvC_heavy G (List.mem_range.mp hc) e) (nh2 c)
theorem hv_sorted {ps od hs : List Nat} (R : Ren ps od hs) {ys : List Int} (pm : ys.Perm (((hvyL ps).map fun k => od.getD k 0).map fun x => ((x : Nat) : Int))) (up : ys.Pairwise (· ≤ ·)) : ys.map PyData.int = nD (hvyL hs) := by
  have : ys = (hvyL hs).map fun x => ((x : Nat) : Int) := (pm.trans (R.hvy.symm.map _)).eq_of_pairwise (le := (· ≤ ·)) (fun a b _ _ h1 h2 => by omega) up (List.pairwise_map.mpr ((hvyL_up hs).imp fun h => by omega))
  rw [this, ← nD_I]
section
variable {P : Program} {w : World} {K : PySem.W.Frag} {mg : Str → Option Value} {base : Heap}
abbrev s_law : Stmt := topS (40)
abbrev N_law : List Str := ["_law_script", "_law_well_here", "_law_some", "_law_turn", "_law_parents", "_law_names", "_law_heavy", "_law_child", "_law_joins", "_law_parent", "_law_after", "_law_k", "_law_count"]
abbrev p_law : List Str := ["_law_script"]
theorem sc_law : FnScope N_law p_law (defScope s_law) := ⟨rfl, rfl, rfl, by decide +kernel, rfl, by decide +kernel, by decide +kernel⟩
theorem ok_law {f : Addr} {fd : FuncData} (Fn : Fun K "law" "law" s_law f fd) (d__law_well : Df P w K mg base CX0 1 "_law_well" ["_law_script"] (spSrc K)) (d__law_mixed : ∀ wa l, Df P w K mg base CX0 2 "_law_mixed" p__law_mixed (spD (wz wa l) (fMixW wa l))) (d__law_forest : ∀ wa l, Df P w K mg base CX0 4 "_law_forest" p__law_forest (spD (wz wa l) (fForW wa l)))
    (d__law_item : ∀ wa l, Df P w K mg base CX0 2 "_law_item" p__law_item (spD (wz wa l) (fItW wa l))) (d__law_beside_right : ∀ wa l, Df P w K mg base CX0 8 "_law_beside_right" p__law_beside_right (spD (wz wa l) (fBR wa l))) (d__law_refused : Df P w K mg base CX0 4 "_law_refused" ["_law_count"] (spD Z0 fRef)) (d__law_eased_right : Df P w K mg base CX0 8 "_law_eased_right" p__law_eased_right (spD Z0 fEA))
    (d_beside : DfR P w K mg base CX0 1 "beside" (spD Z0 (fRst fBes))) (d_heavy_children : Df P w K mg base CX0 6 "heavy_children" p_heavy_children (spD Z0 fHeavy)) (d_is_built : Df P w K mg base CX0 7 "is_built" p_is_built (spD Z0 fBuilt)) (d_renamed : Df P w K mg base CX0 1 "renamed" p_renamed (spD Z0 fRen)) (d_possible_joins : Df P w K mg base CX0 6 "possible_joins" ["forest"] (spD Z0 fPsJ)) (d_after_join : Df P w K mg base CX0 7 "after_join" p_after_join (spD Z0 fAft))
    (m_len : mg "len" = none) (m_list : mg "list" = none) (m_range : mg "range" = none) (m_sorted : mg "sorted" = none) (m_tuple : mg "tuple" = none) :
    RunG P w K mg base 9 f fd ["_law_script"] (spLaw K) := by
  have nd := sc_law.nd
  refine runG_of Fn sc_law (fun vs H Q E h => ?_) (fun cdv A outer s H vs Q E hgu hr h => ?_)
  · obtain ⟨b, ns, rfl, _⟩ := h
    rfl
  · obtain ⟨b, ks, rfl, hS, hlen, q⟩ := h
    have hu := hu65 hr
    have hu2 := hu200 hr
    refine ⟨_, pss_cons (ps_set (i := 1) nd rfl (.inr rfl) (pe_d d__law_well hr (pa_cons (pv 0) pa_nil))) (PSs.ex fun wa la => have d__law_forest := d__law_forest wa la; have d__law_mixed := d__law_mixed wa la; have d__law_item := d__law_item wa la; have d__law_beside_right := d__law_beside_right wa la; (ds_cons (ds_if (dt_ne hu (de_lc (ow := [("_law_count", 12)]) (gok_name (i := 12) (by decide)) rfl nd (di_seq (de_lst (da_cons de_int (da_cons de_int (da_cons de_int da_nil))))) (blkOk_by (own := [("_law_count", 12)]) (N := N_law) (sc := defScope s_law) (by decide +kernel)) (fun _ _ _ _ _ => pg_name (i := 12) nd rfl (Or.inl rfl)) (fun _ _ _ _ _ => dp_nil) (fun _ _ _ _ _ => (de_callP d__law_refused pass0 hr (da_cons (dv 12) da_nil)))) (de_lst (da_cons de_str (da_cons de_str (da_cons de_str da_nil))))) (ds_one (ds_ret de_bl)) ds_nil)
      (ds_cons (ds_setLc (i := 2) (ow := [("_law_k", 11)]) (gok_name (i := 11) (by decide)) rfl nd rfl rfl (sw_true rfl rfl rfl rfl) (di_r1 (by rfl) m_range (da_cons de_int da_nil)) (blkOk_by (own := [("_law_k", 11)]) (N := N_law) (sc := defScope s_law) (by decide +kernel)) (fun _ _ _ _ _ => pg_name (i := 11) nd rfl (Or.inl rfl)) (fun _ _ _ _ _ => dp_nil) (fun _ _ _ _ _ => (de_call d__law_forest pass0 hr (da_cons (dv 1) (da_cons de_int da_nil)))))
      (ds_cons (ds_if (dt_ne hu (de_callR d_beside pass0 hr (da_cons (de_ix (dv 2) de_int) (da_cons (de_ix (dv 2) de_int) (da_cons (de_ix (dv 2) de_int) da_nil)))) (de_callR d_beside pass0 hr (da_cons (de_callR d_beside pass0 hr (da_cons (de_ix (dv 2) de_int) (da_cons (de_ix (dv 2) de_int) da_nil))) (da_cons (de_ix (dv 2) de_int) da_nil)))) (ds_one (ds_ret de_bl)) ds_nil)
      (ds_cons (ds_for PassesOwn.never rfl (di_r1 (by rfl) m_range (da_cons de_int da_nil)) (dg_name (i := 3) nd rfl (.inl rfl))
      (ds_cons (ds_set (i := 4) nd rfl (.inr rfl) (de_call d__law_forest pass0 hr (da_cons (dv 1) (da_cons (de_ix (de_lst (da_cons de_int (da_cons de_int da_nil))) (de_mod (dv 3) de_int)) da_nil))))
      (ds_cons (ds_set (i := 5) nd rfl (.inr rfl) (de_tuple (by rfl) m_tuple (da_cons (de_call d__law_mixed pass0 hr (da_cons (dv 1) (da_cons (de_listR1 rfl (by rfl) m_list (by rfl) m_range (de_len (by rfl) m_len (da_cons (dv 4) da_nil))) da_nil))) da_nil)))
      (ds_cons (ds_set (i := 6) nd rfl (.inl rfl) (de_callP d_heavy_children pass0 hr (da_cons (dv 4) da_nil)))
      (ds_cons (ds_if (dt_ne hu (de_callP d_heavy_children pass0 hr (da_cons (de_callP d_renamed pass0 hr (da_cons (dv 4) (da_cons (dv 5) da_nil))) da_nil)) (de_tuple (by rfl) m_tuple (da_cons (de_sorted (by rfl) m_sorted (da_cons (de_lc (ow := [("_law_child", 7)]) (gok_name (i := 7) (by decide)) rfl nd (di_seq (dv 6)) (blkOk_by (own := [("_law_child", 7)]) (N := N_law) (sc := defScope s_law) (by decide +kernel)) (fun _ _ _ _ _ => pg_name (i := 7) nd rfl (Or.inl rfl)) (fun _ _ _ _ _ => dp_nil) (fun _ _ _ _ _ => (de_ix (dv 5) (dv 7)))) da_nil)) da_nil))) (ds_one (ds_ret de_bl)) ds_nil)
      (ds_cons (ds_if (dt_not (dt_val (de_call d__law_beside_right pass0 hr (da_cons (dv 1) (da_cons (dv 4) da_nil))))) (ds_one (ds_ret de_bl)) ds_nil)
      (ds_cons (ds_if (dt_ne hu (de_lc (ow := [("_law_child", 7)]) (gok_name (i := 7) (by decide)) rfl nd (di_seq (de_sl (dv 6) do_none (do_some de_int))) (blkOk_by (own := [("_law_child", 7)]) (N := N_law) (sc := defScope s_law) (by decide +kernel)) (fun _ _ _ _ _ => pg_name (i := 7) nd rfl (Or.inl rfl)) (fun _ _ _ _ _ => (dp_one (dt_not (dt_val (de_callP d__law_eased_right pass0 hr (da_cons (dv 4) (da_cons (dv 7) da_nil))))))) (fun _ _ _ _ _ => (dv 7))) (de_lst da_nil)) (ds_one (ds_ret de_bl)) ds_nil)
      (ds_cons (ds_set (i := 8) nd rfl (.inl rfl) (de_callP d_possible_joins pass0 hr (da_cons (dv 4) da_nil)))
      (ds_one (ds_if (dt_neET hu (dv 8)) (ds_cons (ds_asg (de_call d__law_item pass0 hr (da_cons (dv 1) (da_cons (dv 8) da_nil))) (dg_tup rfl nd (.cons (i := 7) rfl (.inl rfl) (.inl rfl) rfl (.cons (i := 9) rfl (.inl rfl) (.inl rfl) rfl .nil))))
      (ds_cons (ds_set (i := 10) nd rfl (.inl rfl) (de_callP d_after_join pass0 hr (da_cons (dv 4) (da_cons (dv 7) (da_cons (dv 9) da_nil)))))
      (ds_one (ds_if (PW.pt (dw_and (dt_val (de_callP d_is_built pass0 hr (da_cons (dv 4) da_nil))) (dw_and1 (dt_not (dt_val (de_callP d_is_built pass0 hr (da_cons (dv 10) da_nil))))))) (ds_one (ds_ret de_bl)) ds_nil)))) ds_nil))))))))))
      (ds_one (ds_ret de_bl))))))), ?_⟩
    refine ⟨.ref b, rfl, b, ks, rfl, hS, hlen, fun H0 wa la sm0 ok nw nl => zone_in (m := 11) ok q ?_⟩
    have z2 : (2 : Nat) ≤ 1000000 := by decide
    have z3 : (3 : Nat) ≤ 1000000 := by decide
    have z0 : (0 : Nat) ≤ 1000000 := by decide
    refine ⟨rfl, _, rfl, z3, ?_⟩
    refine lcR_map (l := [0, 2, 3]) (h := fun n : Nat => PyData.int ((n : Nat) : Int)) (f := fun n => some (.str (refS n))) (fun n hn C hC => ?_) (by decide) ?_
    · refine ⟨n, rfl, ?_, .inl rfl, _, rfl, hC⟩
      simp only [List.mem_cons, List.not_mem_nil, or_false] at hn
      exact hn
    refine ⟨_, rfl, z3, by decide +kernel, by decide +kernel, ?_⟩
    show if (!PyData.eqv (.list [.str (refS 0), .str (refS 2), .str (refS 3)]) (.list [.str "BadCount", .str "none", .str "TooMany 24"])) = true then _ else _
    rw [if_neg (by decide +kernel)]
    refine ⟨rfl, by decide, by decide, ?_⟩
    refine lcR_draw (R := fun _ x => ∃ fs : List Nat, x = tupN fs ∧ Forest fs ∧ fs.length ≤ 8) (n := 3) (fun k hk s C E hC => ?_) (by decide) fun l s0 hl hR => ?_
    · exact ⟨8, rfl, by decide, by decide, fun fs hF lf => ⟨.inl rfl, _, rfl, hC _ _ ⟨fs, rfl, hF, lf⟩⟩⟩
    obtain ⟨d0, d1, d2, rfl⟩ : ∃ d0 d1 d2, l = [d0, d1, d2] := by
      match l, hl with
      | [x, y, z], _ => exact ⟨x, y, z, rfl⟩
    obtain ⟨A, rfl, FA, lA⟩ := hR 0 _ rfl
    obtain ⟨B, rfl, FB, lB⟩ := hR 1 _ rfl
    obtain ⟨D, rfl, FD, lD⟩ := hR 2 _ rfl
    intro a2
    have at0 : atI [tupN A, tupN B, tupN D] 0 = some (tupN A) := rfl
    have at1 : atI [tupN A, tupN B, tupN D] 1 = some (tupN B) := rfl
    have at2 : atI [tupN A, tupN B, tupN D] 2 = some (tupN D) := rfl
    refine ⟨_, at0, _, at1, _, at2, ?_⟩
    refine ask_b (Ls := [A, B, D]) (R := side (side A B) D) rfl (by show 3 ≤ 1000; decide) (fun z => nomatch z) (by show A.length + (B.length + (D.length + 0)) ≤ 24; omega) (show side (side (side [] A) B) D = _ by rw [nil_side]) ⟨.inl rfl, ?_⟩
    refine ⟨_, at0, _, at1, ?_⟩
    refine ask_b (Ls := [A, B]) (R := side A B) rfl (by show 2 ≤ 1000; decide) (fun z => nomatch z) (by show A.length + (B.length + 0) ≤ 24; omega) (show side (side [] A) B = _ by rw [nil_side]) ⟨.inl rfl, ?_⟩
    refine ⟨_, at2, ?_⟩
    refine ask_b (Ls := [side A B, D]) (R := side (side A B) D) rfl (by show 2 ≤ 1000; decide) (fun z => nomatch z) (by show (side A B).length + (D.length + 0) ≤ 24; rw [side_len]; omega) (show side (side [] (side A B)) D = _ by rw [nil_side]) ⟨.inl rfl, sh_tupN _, sh_tupN _, ?_⟩
    show if (!PyData.eqv (tupN (side (side A B) D)) (tupN (side (side A B) D))) = true then _ else _
    rw [eqvT, decide_eq_true rfl, if_neg (by decide)]
    refine ⟨by decide, by decide, rfl, ?_⟩
    refine ⟨fun k s ρ => ∃ x3 x4 x5 x6 x7 x8 x9 x10 : Sl, ρ = [.raw (.ref b), .raw (.ref wa), .ow a2 [tupN A, tupN B, tupN D], x3, x4, x5, x6, x7, x8, x9, x10, .no, .no] ∧ (x7 = .no ∨ ∃ d, x7 = .im d), ⟨_, _, _, _, _, _, _, _, rfl, .inl rfl⟩, ?_, fun s ρ ⟨_, _, _, _, _, _, _, _, e, _⟩ => by subst e; rfl⟩
    rintro k d s ρ hd ⟨x3, x4, x5, x6, x7, x8, x9, x10, rfl, h7⟩
    obtain ⟨hk, rfl⟩ := rngD_get hd
    obtain ⟨most, hm1, hm2, hat⟩ := big_at k
    refine ⟨_, rfl, z2, by show (0 : Int) < 2; decide, _, hat, most, rfl, hm1, hm2, fun fs hF lf => ⟨.inl rfl, ?_⟩⟩
    have few := hF.few
    refine ⟨by rw [nD_len]; omega, by rw [nD_len]; omega, List.range fs.length, by rw [nD_len, Int.toNat_natCast, rng_nD]; rfl, by rw [List.length_range]; omega, fun od pm => ⟨.inl rfl, ?_⟩⟩
    have lo : od.length = fs.length := by rw [pm.length_eq, List.length_range]
    refine ⟨fs, rfl, hF, .inl rfl, ?_⟩
    have lh := hvyL_le fs
    refine ⟨fs, od, rfl, hF, pm, fun hs R => ⟨.inl rfl, hs, rfl, R.G, .inl rfl, ?_⟩⟩
    refine ⟨by rcases h7 with rfl | ⟨_, rfl⟩ <;> rfl, ?_⟩
    refine lcR_nD (l := hvyL fs) (f := fun v => some (.int (od.getD v 0 : Nat))) (fun v hv C hC => ⟨_, nD_at (by rw [lo]; exact List.mem_range.mp (List.mem_filter.mp hv).1), _, rfl, hC⟩) (by omega) ?_
    rw [fm_some]
    refine ⟨((hvyL fs).map fun v => od.getD v 0).map fun x => ((x : Nat) : Int), by rw [List.map_map, List.map_map]; rfl, fun ys pm2 up => ?_⟩
    rw [hv_sorted R pm2 up]
    refine ⟨sh_tupN _, sh_tupN _, ?_⟩
    show if (!PyData.eqv (tupN (hvyL hs)) (tupN (hvyL hs))) = true then _ else _
    rw [eqvT, decide_eq_true rfl, if_neg (by decide)]
    refine ⟨fs, rfl, hF, .inl rfl, ?_⟩
    show if (!true) = true then _ else _
    rw [if_neg (by decide)]
    refine ⟨by rcases h7 with rfl | ⟨_, rfl⟩ <;> rfl, ?_⟩
    have lc : (cutD (nD (hvyL fs)) none (some 3)).length ≤ (hvyL fs).length := by
      unfold cutD
      rw [List.length_take, List.length_drop, nD_len]
      omega
    refine lcR_fun (f := fun _ => none) (fun d hd C hC => ?_) (by show 0 + _ ≤ _; omega) ?_
    · have hm : d ∈ nD (hvyL fs) := by
        unfold cutD at hd
        exact List.mem_of_mem_drop (List.mem_of_mem_take hd)
      obtain ⟨v, hv, rfl⟩ := List.mem_map.mp hm
      obtain ⟨v1, v2⟩ := List.mem_filter.mp hv
      refine ⟨fs, v, rfl, hF, List.mem_range.mp v1, v2, .inl rfl, ?_⟩
      show if (!true) = true then _ else _
      rw [if_neg (by decide)]
      exact hC
    have eN : ([] : List PyData) ++ List.filterMap (fun _ => none) (cutD (nD (hvyL fs)) none (some 3)) = [] := by
      rw [List.nil_append]
      exact List.filterMap_eq_nil_iff.mpr fun _ _ => rfl
    rw [eN]
    refine ⟨_, rfl, z0, rfl, rfl, ?_⟩
    show if (!PyData.eqv (.list []) (.list [])) = true then _ else _
    rw [show PyData.eqv (.list []) (.list []) = true from rfl, if_neg (by decide)]
    refine ⟨fs, rfl, hF, .inl rfl, ?_⟩
    show if (!((joinsL fs (tops fs)).map tupN).isEmpty) = true then _ else _
    have lj := joinsL_le fs (tops fs)
    have lt := tops_le fs
    have lj2 : (joinsL fs (tops fs)).length ≤ 24 * 24 := Nat.le_trans lj (Nat.mul_le_mul (by omega) (by omega))
    cases eJ : joinsL fs (tops fs) with
    | nil =>
      rw [if_neg (by decide)]
      exact ⟨_, _, _, _, _, _, _, _, rfl, h7⟩
    | cons r rs =>
      rw [if_pos (by rfl)]
      rw [eJ] at lj2
      refine ⟨(r :: rs).map tupN, rfl, by rw [List.length_map]; exact Nat.succ_le_succ (Nat.zero_le _), by rw [List.length_map]; omega, fun d hd => ⟨.inl rfl, ?_⟩⟩
      obtain ⟨r', hr', rfl⟩ := List.mem_map.mp hd
      obtain ⟨p, c, rfl, ha, hb, ne, le⟩ := mem_joins (fs := fs) (as := tops fs) (by rw [eJ]; exact hr')
      obtain ⟨a1, a2'⟩ := mem_tops.mp ha
      obtain ⟨b1, b2⟩ := mem_tops.mp hb
      have G := join_forest hF a1 a2' b1 b2 ne
      refine ⟨fs, p, c, rfl, hF, a1, b1, a2', b2, ne, le, .inl rfl, ?_⟩
      refine ⟨fs, rfl, hF, .inl rfl, ?_⟩
      cases e1 : isB fs with
      | true =>
        refine ⟨fs.set p c, rfl, G, .inl rfl, ?_⟩
        rw [isB_join hF a1 a2' b1 b2 ne le e1]
        show if (!true) = true then _ else _
        rw [if_neg (by decide)]
        exact ⟨_, _, _, _, _, _, _, _, rfl, .inr ⟨_, rfl⟩⟩
      | false => exact ⟨_, _, _, _, _, _, _, _, rfl, .inr ⟨_, rfl⟩⟩
end
end Lf
namespace Lf
open PySem PySem.Spec PyProof.Rows L2
def initS (i : Nat) : Stmt := match topS i with
  | .ClassDef (body := b) .. => b.getD 0 (.Pass ⟨0, 0, 0, 0⟩)
  | _ => .Pass ⟨0, 0, 0, 0⟩
theorem sc_NoVertex : FnScope ["self", "value"] ["self", "value"] (defScope (initS 5)) := ⟨rfl, rfl, rfl, by decide +kernel, rfl, by decide +kernel, by decide +kernel⟩
theorem bd_NoVertex : ∃ q1 q2 q3 q4, defBody (initS 5) = [.Assign [.Attribute (.Name "self" q1) "value" q2] (.Name "value" q3) q4] := ⟨_, _, _, _, rfl⟩
theorem sc_TooMany : FnScope ["self", "limit"] ["self", "limit"] (defScope (initS 6)) := ⟨rfl, rfl, rfl, by decide +kernel, rfl, by decide +kernel, by decide +kernel⟩
theorem bd_TooMany : ∃ q1 q2 q3 q4, defBody (initS 6) = [.Assign [.Attribute (.Name "self" q1) "limit" q2] (.Name "limit" q3) q4] := ⟨_, _, _, _, rfl⟩
theorem all_mk {l : PySem.W.OpenLaw} {w : World} {K : PySem.W.Frag} {h : Heap} {mg : Str → Option Value} {fa : Addr} (X : K.In h) (G : h.Ns mainGlobals mg) (hfa : mg "law" = some (.ref fa))
    {f_is_plain_int : Addr} {odF_is_plain_int anF_is_plain_int : Option Addr} {slF_is_plain_int : Array (Option Value)} {ocF_is_plain_int kVF_is_plain_int dcF_is_plain_int pmF_is_plain_int cdF_is_plain_int ctF_is_plain_int : Value} (aF_is_plain_int : PySem.W.nsIn K mainGlobals "is_plain_int" = some (some (.ref f_is_plain_int))) (lF_is_plain_int : K.lookup f_is_plain_int = some ⟨ocF_is_plain_int, odF_is_plain_int, .func (PySem.W.fnOf "is_plain_int" "is_plain_int" (defArgs (topS 8)) (defBody (topS 8)) (defScope (topS 8)) .none kVF_is_plain_int dcF_is_plain_int pmF_is_plain_int anF_is_plain_int cdF_is_plain_int ctF_is_plain_int), slF_is_plain_int⟩) (cF_is_plain_int : PySem.W.codeIn K cdF_is_plain_int "is_plain_int" = true) (kF_is_plain_int : PySem.W.keepIn K (.ref f_is_plain_int) = true)
    {f_is_vertex : Addr} {odF_is_vertex anF_is_vertex : Option Addr} {slF_is_vertex : Array (Option Value)} {ocF_is_vertex kVF_is_vertex dcF_is_vertex pmF_is_vertex cdF_is_vertex ctF_is_vertex : Value} (aF_is_vertex : PySem.W.nsIn K mainGlobals "is_vertex" = some (some (.ref f_is_vertex))) (lF_is_vertex : K.lookup f_is_vertex = some ⟨ocF_is_vertex, odF_is_vertex, .func (PySem.W.fnOf "is_vertex" "is_vertex" (defArgs (topS 9)) (defBody (topS 9)) (defScope (topS 9)) .none kVF_is_vertex dcF_is_vertex pmF_is_vertex anF_is_vertex cdF_is_vertex ctF_is_vertex), slF_is_vertex⟩) (cF_is_vertex : PySem.W.codeIn K cdF_is_vertex "is_vertex" = true) (kF_is_vertex : PySem.W.keepIn K (.ref f_is_vertex) = true)
    {f_check_vertex : Addr} {odF_check_vertex anF_check_vertex : Option Addr} {slF_check_vertex : Array (Option Value)} {ocF_check_vertex kVF_check_vertex dcF_check_vertex pmF_check_vertex cdF_check_vertex ctF_check_vertex : Value} (aF_check_vertex : PySem.W.nsIn K mainGlobals "check_vertex" = some (some (.ref f_check_vertex))) (lF_check_vertex : K.lookup f_check_vertex = some ⟨ocF_check_vertex, odF_check_vertex, .func (PySem.W.fnOf "check_vertex" "check_vertex" (defArgs (topS 10)) (defBody (topS 10)) (defScope (topS 10)) .none kVF_check_vertex dcF_check_vertex pmF_check_vertex anF_check_vertex cdF_check_vertex ctF_check_vertex), slF_check_vertex⟩) (cF_check_vertex : PySem.W.codeIn K cdF_check_vertex "check_vertex" = true) (kF_check_vertex : PySem.W.keepIn K (.ref f_check_vertex) = true)
    {f_roots : Addr} {odF_roots anF_roots : Option Addr} {slF_roots : Array (Option Value)} {ocF_roots kVF_roots dcF_roots pmF_roots cdF_roots ctF_roots : Value} (aF_roots : PySem.W.nsIn K mainGlobals "roots" = some (some (.ref f_roots))) (lF_roots : K.lookup f_roots = some ⟨ocF_roots, odF_roots, .func (PySem.W.fnOf "roots" "roots" (defArgs (topS 11)) (defBody (topS 11)) (defScope (topS 11)) .none kVF_roots dcF_roots pmF_roots anF_roots cdF_roots ctF_roots), slF_roots⟩) (cF_roots : PySem.W.codeIn K cdF_roots "roots" = true) (kF_roots : PySem.W.keepIn K (.ref f_roots) = true)
    {f_children_of : Addr} {odF_children_of anF_children_of : Option Addr} {slF_children_of : Array (Option Value)} {ocF_children_of kVF_children_of dcF_children_of pmF_children_of cdF_children_of ctF_children_of : Value} (aF_children_of : PySem.W.nsIn K mainGlobals "children_of" = some (some (.ref f_children_of))) (lF_children_of : K.lookup f_children_of = some ⟨ocF_children_of, odF_children_of, .func (PySem.W.fnOf "children_of" "children_of" (defArgs (topS 12)) (defBody (topS 12)) (defScope (topS 12)) .none kVF_children_of dcF_children_of pmF_children_of anF_children_of cdF_children_of ctF_children_of), slF_children_of⟩) (cF_children_of : PySem.W.codeIn K cdF_children_of "children_of" = true) (kF_children_of : PySem.W.keepIn K (.ref f_children_of) = true)
    {f_weights : Addr} {odF_weights anF_weights : Option Addr} {slF_weights : Array (Option Value)} {ocF_weights kVF_weights dcF_weights pmF_weights cdF_weights ctF_weights : Value} (aF_weights : PySem.W.nsIn K mainGlobals "weights" = some (some (.ref f_weights))) (lF_weights : K.lookup f_weights = some ⟨ocF_weights, odF_weights, .func (PySem.W.fnOf "weights" "weights" (defArgs (topS 13)) (defBody (topS 13)) (defScope (topS 13)) .none kVF_weights dcF_weights pmF_weights anF_weights cdF_weights ctF_weights), slF_weights⟩) (cF_weights : PySem.W.codeIn K cdF_weights "weights" = true) (kF_weights : PySem.W.keepIn K (.ref f_weights) = true)
    {f_path_of : Addr} {odF_path_of anF_path_of : Option Addr} {slF_path_of : Array (Option Value)} {ocF_path_of kVF_path_of dcF_path_of pmF_path_of cdF_path_of ctF_path_of : Value} (aF_path_of : PySem.W.nsIn K mainGlobals "path_of" = some (some (.ref f_path_of))) (lF_path_of : K.lookup f_path_of = some ⟨ocF_path_of, odF_path_of, .func (PySem.W.fnOf "path_of" "path_of" (defArgs (topS 14)) (defBody (topS 14)) (defScope (topS 14)) .none kVF_path_of dcF_path_of pmF_path_of anF_path_of cdF_path_of ctF_path_of), slF_path_of⟩) (cF_path_of : PySem.W.codeIn K cdF_path_of "path_of" = true) (kF_path_of : PySem.W.keepIn K (.ref f_path_of) = true)
    {f_renamed : Addr} {odF_renamed anF_renamed : Option Addr} {slF_renamed : Array (Option Value)} {ocF_renamed kVF_renamed dcF_renamed pmF_renamed cdF_renamed ctF_renamed : Value} (aF_renamed : PySem.W.nsIn K mainGlobals "renamed" = some (some (.ref f_renamed))) (lF_renamed : K.lookup f_renamed = some ⟨ocF_renamed, odF_renamed, .func (PySem.W.fnOf "renamed" "renamed" (defArgs (topS 15)) (defBody (topS 15)) (defScope (topS 15)) .none kVF_renamed dcF_renamed pmF_renamed anF_renamed cdF_renamed ctF_renamed), slF_renamed⟩) (cF_renamed : PySem.W.codeIn K cdF_renamed "renamed" = true) (kF_renamed : PySem.W.keepIn K (.ref f_renamed) = true)
    {f_is_root : Addr} {odF_is_root anF_is_root : Option Addr} {slF_is_root : Array (Option Value)} {ocF_is_root kVF_is_root dcF_is_root pmF_is_root cdF_is_root ctF_is_root : Value} (aF_is_root : PySem.W.nsIn K mainGlobals "is_root" = some (some (.ref f_is_root))) (lF_is_root : K.lookup f_is_root = some ⟨ocF_is_root, odF_is_root, .func (PySem.W.fnOf "is_root" "is_root" (defArgs (topS 17)) (defBody (topS 17)) (defScope (topS 17)) .none kVF_is_root dcF_is_root pmF_is_root anF_is_root cdF_is_root ctF_is_root), slF_is_root⟩) (cF_is_root : PySem.W.codeIn K cdF_is_root "is_root" = true) (kF_is_root : PySem.W.keepIn K (.ref f_is_root) = true)
    {f_are_two_roots : Addr} {odF_are_two_roots anF_are_two_roots : Option Addr} {slF_are_two_roots : Array (Option Value)} {ocF_are_two_roots kVF_are_two_roots dcF_are_two_roots pmF_are_two_roots cdF_are_two_roots ctF_are_two_roots : Value} (aF_are_two_roots : PySem.W.nsIn K mainGlobals "are_two_roots" = some (some (.ref f_are_two_roots))) (lF_are_two_roots : K.lookup f_are_two_roots = some ⟨ocF_are_two_roots, odF_are_two_roots, .func (PySem.W.fnOf "are_two_roots" "are_two_roots" (defArgs (topS 18)) (defBody (topS 18)) (defScope (topS 18)) .none kVF_are_two_roots dcF_are_two_roots pmF_are_two_roots anF_are_two_roots cdF_are_two_roots ctF_are_two_roots), slF_are_two_roots⟩) (cF_are_two_roots : PySem.W.codeIn K cdF_are_two_roots "are_two_roots" = true) (kF_are_two_roots : PySem.W.keepIn K (.ref f_are_two_roots) = true)
    {f_is_join : Addr} {odF_is_join anF_is_join : Option Addr} {slF_is_join : Array (Option Value)} {ocF_is_join kVF_is_join dcF_is_join pmF_is_join cdF_is_join ctF_is_join : Value} (aF_is_join : PySem.W.nsIn K mainGlobals "is_join" = some (some (.ref f_is_join))) (lF_is_join : K.lookup f_is_join = some ⟨ocF_is_join, odF_is_join, .func (PySem.W.fnOf "is_join" "is_join" (defArgs (topS 19)) (defBody (topS 19)) (defScope (topS 19)) .none kVF_is_join dcF_is_join pmF_is_join anF_is_join cdF_is_join ctF_is_join), slF_is_join⟩) (cF_is_join : PySem.W.codeIn K cdF_is_join "is_join" = true) (kF_is_join : PySem.W.keepIn K (.ref f_is_join) = true)
    {f_with_parent : Addr} {odF_with_parent anF_with_parent : Option Addr} {slF_with_parent : Array (Option Value)} {ocF_with_parent kVF_with_parent dcF_with_parent pmF_with_parent cdF_with_parent ctF_with_parent : Value} (aF_with_parent : PySem.W.nsIn K mainGlobals "with_parent" = some (some (.ref f_with_parent))) (lF_with_parent : K.lookup f_with_parent = some ⟨ocF_with_parent, odF_with_parent, .func (PySem.W.fnOf "with_parent" "with_parent" (defArgs (topS 20)) (defBody (topS 20)) (defScope (topS 20)) .none kVF_with_parent dcF_with_parent pmF_with_parent anF_with_parent cdF_with_parent ctF_with_parent), slF_with_parent⟩) (cF_with_parent : PySem.W.codeIn K cdF_with_parent "with_parent" = true) (kF_with_parent : PySem.W.keepIn K (.ref f_with_parent) = true)
    {f_possible_joins : Addr} {odF_possible_joins anF_possible_joins : Option Addr} {slF_possible_joins : Array (Option Value)} {ocF_possible_joins kVF_possible_joins dcF_possible_joins pmF_possible_joins cdF_possible_joins ctF_possible_joins : Value} (aF_possible_joins : PySem.W.nsIn K mainGlobals "possible_joins" = some (some (.ref f_possible_joins))) (lF_possible_joins : K.lookup f_possible_joins = some ⟨ocF_possible_joins, odF_possible_joins, .func (PySem.W.fnOf "possible_joins" "possible_joins" (defArgs (topS 21)) (defBody (topS 21)) (defScope (topS 21)) .none kVF_possible_joins dcF_possible_joins pmF_possible_joins anF_possible_joins cdF_possible_joins ctF_possible_joins), slF_possible_joins⟩) (cF_possible_joins : PySem.W.codeIn K cdF_possible_joins "possible_joins" = true) (kF_possible_joins : PySem.W.keepIn K (.ref f_possible_joins) = true)
    {f_after_join : Addr} {odF_after_join anF_after_join : Option Addr} {slF_after_join : Array (Option Value)} {ocF_after_join kVF_after_join dcF_after_join pmF_after_join cdF_after_join ctF_after_join : Value} (aF_after_join : PySem.W.nsIn K mainGlobals "after_join" = some (some (.ref f_after_join))) (lF_after_join : K.lookup f_after_join = some ⟨ocF_after_join, odF_after_join, .func (PySem.W.fnOf "after_join" "after_join" (defArgs (topS 22)) (defBody (topS 22)) (defScope (topS 22)) .none kVF_after_join dcF_after_join pmF_after_join anF_after_join cdF_after_join ctF_after_join), slF_after_join⟩) (cF_after_join : PySem.W.codeIn K cdF_after_join "after_join" = true) (kF_after_join : PySem.W.keepIn K (.ref f_after_join) = true)
    {f_heavy_children : Addr} {odF_heavy_children anF_heavy_children : Option Addr} {slF_heavy_children : Array (Option Value)} {ocF_heavy_children kVF_heavy_children dcF_heavy_children pmF_heavy_children cdF_heavy_children ctF_heavy_children : Value} (aF_heavy_children : PySem.W.nsIn K mainGlobals "heavy_children" = some (some (.ref f_heavy_children))) (lF_heavy_children : K.lookup f_heavy_children = some ⟨ocF_heavy_children, odF_heavy_children, .func (PySem.W.fnOf "heavy_children" "heavy_children" (defArgs (topS 23)) (defBody (topS 23)) (defScope (topS 23)) .none kVF_heavy_children dcF_heavy_children pmF_heavy_children anF_heavy_children cdF_heavy_children ctF_heavy_children), slF_heavy_children⟩) (cF_heavy_children : PySem.W.codeIn K cdF_heavy_children "heavy_children" = true) (kF_heavy_children : PySem.W.keepIn K (.ref f_heavy_children) = true)
    {f_is_built : Addr} {odF_is_built anF_is_built : Option Addr} {slF_is_built : Array (Option Value)} {ocF_is_built kVF_is_built dcF_is_built pmF_is_built cdF_is_built ctF_is_built : Value} (aF_is_built : PySem.W.nsIn K mainGlobals "is_built" = some (some (.ref f_is_built))) (lF_is_built : K.lookup f_is_built = some ⟨ocF_is_built, odF_is_built, .func (PySem.W.fnOf "is_built" "is_built" (defArgs (topS 24)) (defBody (topS 24)) (defScope (topS 24)) .none kVF_is_built dcF_is_built pmF_is_built anF_is_built cdF_is_built ctF_is_built), slF_is_built⟩) (cF_is_built : PySem.W.codeIn K cdF_is_built "is_built" = true) (kF_is_built : PySem.W.keepIn K (.ref f_is_built) = true)
    {f_beside : Addr} {odF_beside anF_beside : Option Addr} {slF_beside : Array (Option Value)} {ocF_beside kVF_beside dcF_beside pmF_beside cdF_beside ctF_beside : Value} (aF_beside : PySem.W.nsIn K mainGlobals "beside" = some (some (.ref f_beside))) (lF_beside : K.lookup f_beside = some ⟨ocF_beside, odF_beside, .func (PySem.W.fnOf "beside" "beside" (defArgs (topS 25)) (defBody (topS 25)) (defScope (topS 25)) .none kVF_beside dcF_beside pmF_beside anF_beside cdF_beside ctF_beside), slF_beside⟩) (cF_beside : PySem.W.codeIn K cdF_beside "beside" = true) (kF_beside : PySem.W.keepIn K (.ref f_beside) = true)
    {f__law_well : Addr} {odF__law_well anF__law_well : Option Addr} {slF__law_well : Array (Option Value)} {ocF__law_well kVF__law_well dcF__law_well pmF__law_well cdF__law_well ctF__law_well : Value} (aF__law_well : PySem.W.nsIn K mainGlobals "_law_well" = some (some (.ref f__law_well))) (lF__law_well : K.lookup f__law_well = some ⟨ocF__law_well, odF__law_well, .func (PySem.W.fnOf "_law_well" "_law_well" (defArgs (topS 27)) (defBody (topS 27)) (defScope (topS 27)) .none kVF__law_well dcF__law_well pmF__law_well anF__law_well cdF__law_well ctF__law_well), slF__law_well⟩) (cF__law_well : PySem.W.codeIn K cdF__law_well "_law_well" = true) (kF__law_well : PySem.W.keepIn K (.ref f__law_well) = true)
    {f__law_pull : Addr} {odF__law_pull anF__law_pull : Option Addr} {slF__law_pull : Array (Option Value)} {ocF__law_pull kVF__law_pull dcF__law_pull pmF__law_pull cdF__law_pull ctF__law_pull : Value} (aF__law_pull : PySem.W.nsIn K mainGlobals "_law_pull" = some (some (.ref f__law_pull))) (lF__law_pull : K.lookup f__law_pull = some ⟨ocF__law_pull, odF__law_pull, .func (PySem.W.fnOf "_law_pull" "_law_pull" (defArgs (topS 28)) (defBody (topS 28)) (defScope (topS 28)) .none kVF__law_pull dcF__law_pull pmF__law_pull anF__law_pull cdF__law_pull ctF__law_pull), slF__law_pull⟩) (cF__law_pull : PySem.W.codeIn K cdF__law_pull "_law_pull" = true) (kF__law_pull : PySem.W.keepIn K (.ref f__law_pull) = true)
    {f__law_item : Addr} {odF__law_item anF__law_item : Option Addr} {slF__law_item : Array (Option Value)} {ocF__law_item kVF__law_item dcF__law_item pmF__law_item cdF__law_item ctF__law_item : Value} (aF__law_item : PySem.W.nsIn K mainGlobals "_law_item" = some (some (.ref f__law_item))) (lF__law_item : K.lookup f__law_item = some ⟨ocF__law_item, odF__law_item, .func (PySem.W.fnOf "_law_item" "_law_item" (defArgs (topS 29)) (defBody (topS 29)) (defScope (topS 29)) .none kVF__law_item dcF__law_item pmF__law_item anF__law_item cdF__law_item ctF__law_item), slF__law_item⟩) (cF__law_item : PySem.W.codeIn K cdF__law_item "_law_item" = true) (kF__law_item : PySem.W.keepIn K (.ref f__law_item) = true)
    {f__law_mixed : Addr} {odF__law_mixed anF__law_mixed : Option Addr} {slF__law_mixed : Array (Option Value)} {ocF__law_mixed kVF__law_mixed dcF__law_mixed pmF__law_mixed cdF__law_mixed ctF__law_mixed : Value} (aF__law_mixed : PySem.W.nsIn K mainGlobals "_law_mixed" = some (some (.ref f__law_mixed))) (lF__law_mixed : K.lookup f__law_mixed = some ⟨ocF__law_mixed, odF__law_mixed, .func (PySem.W.fnOf "_law_mixed" "_law_mixed" (defArgs (topS 30)) (defBody (topS 30)) (defScope (topS 30)) .none kVF__law_mixed dcF__law_mixed pmF__law_mixed anF__law_mixed cdF__law_mixed ctF__law_mixed), slF__law_mixed⟩) (cF__law_mixed : PySem.W.codeIn K cdF__law_mixed "_law_mixed" = true) (kF__law_mixed : PySem.W.keepIn K (.ref f__law_mixed) = true)
    {f__law_tops : Addr} {odF__law_tops anF__law_tops : Option Addr} {slF__law_tops : Array (Option Value)} {ocF__law_tops kVF__law_tops dcF__law_tops pmF__law_tops cdF__law_tops ctF__law_tops : Value} (aF__law_tops : PySem.W.nsIn K mainGlobals "_law_tops" = some (some (.ref f__law_tops))) (lF__law_tops : K.lookup f__law_tops = some ⟨ocF__law_tops, odF__law_tops, .func (PySem.W.fnOf "_law_tops" "_law_tops" (defArgs (topS 31)) (defBody (topS 31)) (defScope (topS 31)) .none kVF__law_tops dcF__law_tops pmF__law_tops anF__law_tops cdF__law_tops ctF__law_tops), slF__law_tops⟩) (cF__law_tops : PySem.W.codeIn K cdF__law_tops "_law_tops" = true) (kF__law_tops : PySem.W.keepIn K (.ref f__law_tops) = true)
    {f__law_heft : Addr} {odF__law_heft anF__law_heft : Option Addr} {slF__law_heft : Array (Option Value)} {ocF__law_heft kVF__law_heft dcF__law_heft pmF__law_heft cdF__law_heft ctF__law_heft : Value} (aF__law_heft : PySem.W.nsIn K mainGlobals "_law_heft" = some (some (.ref f__law_heft))) (lF__law_heft : K.lookup f__law_heft = some ⟨ocF__law_heft, odF__law_heft, .func (PySem.W.fnOf "_law_heft" "_law_heft" (defArgs (topS 32)) (defBody (topS 32)) (defScope (topS 32)) .none kVF__law_heft dcF__law_heft pmF__law_heft anF__law_heft cdF__law_heft ctF__law_heft), slF__law_heft⟩) (cF__law_heft : PySem.W.codeIn K cdF__law_heft "_law_heft" = true) (kF__law_heft : PySem.W.keepIn K (.ref f__law_heft) = true)
    {f__law_grown : Addr} {odF__law_grown anF__law_grown : Option Addr} {slF__law_grown : Array (Option Value)} {ocF__law_grown kVF__law_grown dcF__law_grown pmF__law_grown cdF__law_grown ctF__law_grown : Value} (aF__law_grown : PySem.W.nsIn K mainGlobals "_law_grown" = some (some (.ref f__law_grown))) (lF__law_grown : K.lookup f__law_grown = some ⟨ocF__law_grown, odF__law_grown, .func (PySem.W.fnOf "_law_grown" "_law_grown" (defArgs (topS 33)) (defBody (topS 33)) (defScope (topS 33)) .none kVF__law_grown dcF__law_grown pmF__law_grown anF__law_grown cdF__law_grown ctF__law_grown), slF__law_grown⟩) (cF__law_grown : PySem.W.codeIn K cdF__law_grown "_law_grown" = true) (kF__law_grown : PySem.W.keepIn K (.ref f__law_grown) = true)
    {f__law_wild : Addr} {odF__law_wild anF__law_wild : Option Addr} {slF__law_wild : Array (Option Value)} {ocF__law_wild kVF__law_wild dcF__law_wild pmF__law_wild cdF__law_wild ctF__law_wild : Value} (aF__law_wild : PySem.W.nsIn K mainGlobals "_law_wild" = some (some (.ref f__law_wild))) (lF__law_wild : K.lookup f__law_wild = some ⟨ocF__law_wild, odF__law_wild, .func (PySem.W.fnOf "_law_wild" "_law_wild" (defArgs (topS 34)) (defBody (topS 34)) (defScope (topS 34)) .none kVF__law_wild dcF__law_wild pmF__law_wild anF__law_wild cdF__law_wild ctF__law_wild), slF__law_wild⟩) (cF__law_wild : PySem.W.codeIn K cdF__law_wild "_law_wild" = true) (kF__law_wild : PySem.W.keepIn K (.ref f__law_wild) = true)
    {f__law_line : Addr} {odF__law_line anF__law_line : Option Addr} {slF__law_line : Array (Option Value)} {ocF__law_line kVF__law_line dcF__law_line pmF__law_line cdF__law_line ctF__law_line : Value} (aF__law_line : PySem.W.nsIn K mainGlobals "_law_line" = some (some (.ref f__law_line))) (lF__law_line : K.lookup f__law_line = some ⟨ocF__law_line, odF__law_line, .func (PySem.W.fnOf "_law_line" "_law_line" (defArgs (topS 35)) (defBody (topS 35)) (defScope (topS 35)) .none kVF__law_line dcF__law_line pmF__law_line anF__law_line cdF__law_line ctF__law_line), slF__law_line⟩) (cF__law_line : PySem.W.codeIn K cdF__law_line "_law_line" = true) (kF__law_line : PySem.W.keepIn K (.ref f__law_line) = true)
    {f__law_forest : Addr} {odF__law_forest anF__law_forest : Option Addr} {slF__law_forest : Array (Option Value)} {ocF__law_forest kVF__law_forest dcF__law_forest pmF__law_forest cdF__law_forest ctF__law_forest : Value} (aF__law_forest : PySem.W.nsIn K mainGlobals "_law_forest" = some (some (.ref f__law_forest))) (lF__law_forest : K.lookup f__law_forest = some ⟨ocF__law_forest, odF__law_forest, .func (PySem.W.fnOf "_law_forest" "_law_forest" (defArgs (topS 36)) (defBody (topS 36)) (defScope (topS 36)) .none kVF__law_forest dcF__law_forest pmF__law_forest anF__law_forest cdF__law_forest ctF__law_forest), slF__law_forest⟩) (cF__law_forest : PySem.W.codeIn K cdF__law_forest "_law_forest" = true) (kF__law_forest : PySem.W.keepIn K (.ref f__law_forest) = true)
    {f__law_beside_right : Addr} {odF__law_beside_right anF__law_beside_right : Option Addr} {slF__law_beside_right : Array (Option Value)} {ocF__law_beside_right kVF__law_beside_right dcF__law_beside_right pmF__law_beside_right cdF__law_beside_right ctF__law_beside_right : Value} (aF__law_beside_right : PySem.W.nsIn K mainGlobals "_law_beside_right" = some (some (.ref f__law_beside_right))) (lF__law_beside_right : K.lookup f__law_beside_right = some ⟨ocF__law_beside_right, odF__law_beside_right, .func (PySem.W.fnOf "_law_beside_right" "_law_beside_right" (defArgs (topS 37)) (defBody (topS 37)) (defScope (topS 37)) .none kVF__law_beside_right dcF__law_beside_right pmF__law_beside_right anF__law_beside_right cdF__law_beside_right ctF__law_beside_right), slF__law_beside_right⟩) (cF__law_beside_right : PySem.W.codeIn K cdF__law_beside_right "_law_beside_right" = true) (kF__law_beside_right : PySem.W.keepIn K (.ref f__law_beside_right) = true)
    {f__law_eased_right : Addr} {odF__law_eased_right anF__law_eased_right : Option Addr} {slF__law_eased_right : Array (Option Value)} {ocF__law_eased_right kVF__law_eased_right dcF__law_eased_right pmF__law_eased_right cdF__law_eased_right ctF__law_eased_right : Value} (aF__law_eased_right : PySem.W.nsIn K mainGlobals "_law_eased_right" = some (some (.ref f__law_eased_right))) (lF__law_eased_right : K.lookup f__law_eased_right = some ⟨ocF__law_eased_right, odF__law_eased_right, .func (PySem.W.fnOf "_law_eased_right" "_law_eased_right" (defArgs (topS 38)) (defBody (topS 38)) (defScope (topS 38)) .none kVF__law_eased_right dcF__law_eased_right pmF__law_eased_right anF__law_eased_right cdF__law_eased_right ctF__law_eased_right), slF__law_eased_right⟩) (cF__law_eased_right : PySem.W.codeIn K cdF__law_eased_right "_law_eased_right" = true) (kF__law_eased_right : PySem.W.keepIn K (.ref f__law_eased_right) = true)
    {f__law_refused : Addr} {odF__law_refused anF__law_refused : Option Addr} {slF__law_refused : Array (Option Value)} {ocF__law_refused kVF__law_refused dcF__law_refused pmF__law_refused cdF__law_refused ctF__law_refused : Value} (aF__law_refused : PySem.W.nsIn K mainGlobals "_law_refused" = some (some (.ref f__law_refused))) (lF__law_refused : K.lookup f__law_refused = some ⟨ocF__law_refused, odF__law_refused, .func (PySem.W.fnOf "_law_refused" "_law_refused" (defArgs (topS 39)) (defBody (topS 39)) (defScope (topS 39)) .none kVF__law_refused dcF__law_refused pmF__law_refused anF__law_refused cdF__law_refused ctF__law_refused), slF__law_refused⟩) (cF__law_refused : PySem.W.codeIn K cdF__law_refused "_law_refused" = true) (kF__law_refused : PySem.W.keepIn K (.ref f__law_refused) = true)
    {f_law : Addr} {odF_law anF_law : Option Addr} {slF_law : Array (Option Value)} {ocF_law kVF_law dcF_law pmF_law cdF_law ctF_law : Value} (aF_law : PySem.W.nsIn K mainGlobals "law" = some (some (.ref f_law))) (lF_law : K.lookup f_law = some ⟨ocF_law, odF_law, .func (PySem.W.fnOf "law" "law" (defArgs (topS 40)) (defBody (topS 40)) (defScope (topS 40)) .none kVF_law dcF_law pmF_law anF_law cdF_law ctF_law), slF_law⟩) (cF_law : PySem.W.codeIn K cdF_law "law" = true) (kF_law : PySem.W.keepIn K (.ref f_law) = true)
    (z_abs : PySem.W.nsIn K mainGlobals "abs" = some none)
    (z_bool : PySem.W.nsIn K mainGlobals "bool" = some none)
    (z_enumerate : PySem.W.nsIn K mainGlobals "enumerate" = some none)
    (z_int : PySem.W.nsIn K mainGlobals "int" = some none)
    (z_isinstance : PySem.W.nsIn K mainGlobals "isinstance" = some none)
    (z_len : PySem.W.nsIn K mainGlobals "len" = some none)
    (z_list : PySem.W.nsIn K mainGlobals "list" = some none)
    (z_range : PySem.W.nsIn K mainGlobals "range" = some none)
    (z_sorted : PySem.W.nsIn K mainGlobals "sorted" = some none)
    (z_str : PySem.W.nsIn K mainGlobals "str" = some none)
    (z_sum : PySem.W.nsIn K mainGlobals "sum" = some none)
    (z_tuple : PySem.W.nsIn K mainGlobals "tuple" = some none)
    {C_NoVertex : Addr} (cg_NoVertex : PySem.W.nsIn K mainGlobals "NoVertex" = some (some (.ref C_NoVertex)))
    {C_TooMany : Addr} (cg_TooMany : PySem.W.nsIn K mainGlobals "TooMany" = some (some (.ref C_TooMany)))
    {C_BadCount : Addr} (cg_BadCount : PySem.W.nsIn K mainGlobals "BadCount" = some (some (.ref C_BadCount)))
    {fI_NoVertex N_NoVertex : Addr} {nm_NoVertex q_NoVertex : Str} {bs_NoVertex bm_NoVertex : List Value} {sn_NoVertex : List Str} {sub_NoVertex : List Value} {ab_NoVertex : Bool} {col_NoVertex : Option Bool} {dd_NoVertex : Option Addr} {y0_NoVertex y1_NoVertex y2_NoVertex y3_NoVertex y5_NoVertex : Option Value} {od_NoVertex an_NoVertex : Option Addr} {sl_NoVertex : Array (Option Value)} {oc_NoVertex kV_NoVertex dc_NoVertex pm_NoVertex cd_NoVertex ct_NoVertex : Value}
    (xL_NoVertex : K.lookup C_NoVertex = some (excClassObj nm_NoVertex q_NoVertex C_NoVertex N_NoVertex bs_NoVertex bm_NoVertex true sn_NoVertex sub_NoVertex ab_NoVertex col_NoVertex dd_NoVertex y0_NoVertex y1_NoVertex y2_NoVertex y3_NoVertex y5_NoVertex "ValueError.__new__")) (hb_NoVertex : PySem.HandSPX.refsVE bm_NoVertex = true) (sa_NoVertex : PySem.W.findIn K (.ref C_NoVertex) "__setattr__" = some (some (.builtin "object.__setattr__"))) (nb_NoVertex : PySem.W.findIn K (.ref C_NoVertex) "value" = some none)
    (a_NoVertex : PySem.W.findIn K (.ref C_NoVertex) "__init__" = some (some (.ref fI_NoVertex))) (t_NoVertex : PySem.W.typeIn K (.ref fI_NoVertex) = some (.type "function")) (l_NoVertex : K.lookup fI_NoVertex = some ⟨oc_NoVertex, od_NoVertex, .func (PySem.W.fnOf "__init__" "NoVertex.__init__" (defArgs (initS 5)) (defBody (initS 5)) (defScope (initS 5)) .none kV_NoVertex dc_NoVertex pm_NoVertex an_NoVertex cd_NoVertex ct_NoVertex), sl_NoVertex⟩) (c_NoVertex : PySem.W.codeIn K cd_NoVertex "NoVertex.__init__" = true) (k_NoVertex : PySem.W.keepIn K (.ref fI_NoVertex) = true)
    (eC_NoVertex : PySem.W.subIn K (.ref C_NoVertex) (.type "BaseException") = some true) (tC_NoVertex : PySem.W.typeIn K (.ref C_NoVertex) = some (.type "type")) (kC_NoVertex : PySem.W.keepIn K (.ref C_NoVertex) = true)
    {fI_TooMany N_TooMany : Addr} {nm_TooMany q_TooMany : Str} {bs_TooMany bm_TooMany : List Value} {sn_TooMany : List Str} {sub_TooMany : List Value} {ab_TooMany : Bool} {col_TooMany : Option Bool} {dd_TooMany : Option Addr} {y0_TooMany y1_TooMany y2_TooMany y3_TooMany y5_TooMany : Option Value} {od_TooMany an_TooMany : Option Addr} {sl_TooMany : Array (Option Value)} {oc_TooMany kV_TooMany dc_TooMany pm_TooMany cd_TooMany ct_TooMany : Value}
    (xL_TooMany : K.lookup C_TooMany = some (excClassObj nm_TooMany q_TooMany C_TooMany N_TooMany bs_TooMany bm_TooMany true sn_TooMany sub_TooMany ab_TooMany col_TooMany dd_TooMany y0_TooMany y1_TooMany y2_TooMany y3_TooMany y5_TooMany "ValueError.__new__")) (hb_TooMany : PySem.HandSPX.refsVE bm_TooMany = true) (sa_TooMany : PySem.W.findIn K (.ref C_TooMany) "__setattr__" = some (some (.builtin "object.__setattr__"))) (nb_TooMany : PySem.W.findIn K (.ref C_TooMany) "limit" = some none)
    (a_TooMany : PySem.W.findIn K (.ref C_TooMany) "__init__" = some (some (.ref fI_TooMany))) (t_TooMany : PySem.W.typeIn K (.ref fI_TooMany) = some (.type "function")) (l_TooMany : K.lookup fI_TooMany = some ⟨oc_TooMany, od_TooMany, .func (PySem.W.fnOf "__init__" "TooMany.__init__" (defArgs (initS 6)) (defBody (initS 6)) (defScope (initS 6)) .none kV_TooMany dc_TooMany pm_TooMany an_TooMany cd_TooMany ct_TooMany), sl_TooMany⟩) (c_TooMany : PySem.W.codeIn K cd_TooMany "TooMany.__init__" = true) (k_TooMany : PySem.W.keepIn K (.ref fI_TooMany) = true)
    (eC_TooMany : PySem.W.subIn K (.ref C_TooMany) (.type "BaseException") = some true) (tC_TooMany : PySem.W.typeIn K (.ref C_TooMany) = some (.type "type")) (kC_TooMany : PySem.W.keepIn K (.ref C_TooMany) = true)
    (q0_BadCount : PySem.W.excIn K C_BadCount [.type "ValueError", .type "Exception", .type "BaseException", .type "object"] "ValueError.__new__" = true) (eC_BadCount : PySem.W.subIn K (.ref C_BadCount) (.type "BaseException") = some true) (tC_BadCount : PySem.W.typeIn K (.ref C_BadCount) = some (.type "type")) (kC_BadCount : PySem.W.keepIn K (.ref C_BadCount) = true)
    {tc_MAX_VERTICES : Tok} (gc_MAX_VERTICES : PySem.W.nsIn K mainGlobals "MAX_VERTICES" = some (some (.int 24 tc_MAX_VERTICES)))
    (ref_ok : refB K C_BadCount C_TooMany = true)
    : ∃ fd : FuncData, (∀ (s : Shared) (u : Value), BindsTo s fd ⟨[u], []⟩ [("_law_script", u)]) ∧ ∀ base : Heap, K.In base → base.Ns mainGlobals mg → (∃ o, base.get? sysModules = some o) → RunG l.prog w K mg base 9 fa fd ["_law_script"] (spLaw K) := by
  have e := hfa.symm.trans (PySem.W.mg_of X G aF_law)
  cases e
  have F_is_plain_int := fun_mk (st := topS 8) lF_is_plain_int cF_is_plain_int kF_is_plain_int
  have B_is_plain_int := F_is_plain_int.binds (ps := ["value"]) fun _ _ _ _ _ _ us hl => match us, hl with | [_], _ => rfl
  have g_is_plain_int := PySem.W.mg_of X G aF_is_plain_int
  have M_is_plain_int : Mk K mg "is_plain_int" (topS 8) ["value"] := ⟨_, _, F_is_plain_int, B_is_plain_int, g_is_plain_int⟩
  have F_is_vertex := fun_mk (st := topS 9) lF_is_vertex cF_is_vertex kF_is_vertex
  have B_is_vertex := F_is_vertex.binds (ps := ["n", "value"]) fun _ _ _ _ _ _ us hl => match us, hl with | [_, _], _ => rfl
  have g_is_vertex := PySem.W.mg_of X G aF_is_vertex
  have M_is_vertex : Mk K mg "is_vertex" (topS 9) ["n", "value"] := ⟨_, _, F_is_vertex, B_is_vertex, g_is_vertex⟩
  have F_check_vertex := fun_mk (st := topS 10) lF_check_vertex cF_check_vertex kF_check_vertex
  have B_check_vertex := F_check_vertex.binds (ps := ["forest", "value"]) fun _ _ _ _ _ _ us hl => match us, hl with | [_, _], _ => rfl
  have g_check_vertex := PySem.W.mg_of X G aF_check_vertex
  have M_check_vertex : Mk K mg "check_vertex" (topS 10) ["forest", "value"] := ⟨_, _, F_check_vertex, B_check_vertex, g_check_vertex⟩
  have F_roots := fun_mk (st := topS 11) lF_roots cF_roots kF_roots
  have B_roots := F_roots.binds (ps := ["forest"]) fun _ _ _ _ _ _ us hl => match us, hl with | [_], _ => rfl
  have g_roots := PySem.W.mg_of X G aF_roots
  have M_roots : Mk K mg "roots" (topS 11) ["forest"] := ⟨_, _, F_roots, B_roots, g_roots⟩
  have F_children_of := fun_mk (st := topS 12) lF_children_of cF_children_of kF_children_of
  have B_children_of := F_children_of.binds (ps := ["forest", "vertex"]) fun _ _ _ _ _ _ us hl => match us, hl with | [_, _], _ => rfl
  have g_children_of := PySem.W.mg_of X G aF_children_of
  have M_children_of : Mk K mg "children_of" (topS 12) ["forest", "vertex"] := ⟨_, _, F_children_of, B_children_of, g_children_of⟩
  have F_weights := fun_mk (st := topS 13) lF_weights cF_weights kF_weights
  have B_weights := F_weights.binds (ps := ["forest"]) fun _ _ _ _ _ _ us hl => match us, hl with | [_], _ => rfl
  have g_weights := PySem.W.mg_of X G aF_weights
  have M_weights : Mk K mg "weights" (topS 13) ["forest"] := ⟨_, _, F_weights, B_weights, g_weights⟩
  have F_path_of := fun_mk (st := topS 14) lF_path_of cF_path_of kF_path_of
  have B_path_of := F_path_of.binds (ps := ["forest", "vertex"]) fun _ _ _ _ _ _ us hl => match us, hl with | [_, _], _ => rfl
  have g_path_of := PySem.W.mg_of X G aF_path_of
  have M_path_of : Mk K mg "path_of" (topS 14) ["forest", "vertex"] := ⟨_, _, F_path_of, B_path_of, g_path_of⟩
  have F_renamed := fun_mk (st := topS 15) lF_renamed cF_renamed kF_renamed
  have B_renamed := F_renamed.binds (ps := ["forest", "names"]) fun _ _ _ _ _ _ us hl => match us, hl with | [_, _], _ => rfl
  have g_renamed := PySem.W.mg_of X G aF_renamed
  have M_renamed : Mk K mg "renamed" (topS 15) ["forest", "names"] := ⟨_, _, F_renamed, B_renamed, g_renamed⟩
  have F_is_root := fun_mk (st := topS 17) lF_is_root cF_is_root kF_is_root
  have B_is_root := F_is_root.binds (ps := ["forest", "value"]) fun _ _ _ _ _ _ us hl => match us, hl with | [_, _], _ => rfl
  have g_is_root := PySem.W.mg_of X G aF_is_root
  have M_is_root : Mk K mg "is_root" (topS 17) ["forest", "value"] := ⟨_, _, F_is_root, B_is_root, g_is_root⟩
  have F_are_two_roots := fun_mk (st := topS 18) lF_are_two_roots cF_are_two_roots kF_are_two_roots
  have B_are_two_roots := F_are_two_roots.binds (ps := ["forest", "one", "other"]) fun _ _ _ _ _ _ us hl => match us, hl with | [_, _, _], _ => rfl
  have g_are_two_roots := PySem.W.mg_of X G aF_are_two_roots
  have M_are_two_roots : Mk K mg "are_two_roots" (topS 18) ["forest", "one", "other"] := ⟨_, _, F_are_two_roots, B_are_two_roots, g_are_two_roots⟩
  have F_is_join := fun_mk (st := topS 19) lF_is_join cF_is_join kF_is_join
  have B_is_join := F_is_join.binds (ps := ["forest", "child", "parent"]) fun _ _ _ _ _ _ us hl => match us, hl with | [_, _, _], _ => rfl
  have g_is_join := PySem.W.mg_of X G aF_is_join
  have M_is_join : Mk K mg "is_join" (topS 19) ["forest", "child", "parent"] := ⟨_, _, F_is_join, B_is_join, g_is_join⟩
  have F_with_parent := fun_mk (st := topS 20) lF_with_parent cF_with_parent kF_with_parent
  have B_with_parent := F_with_parent.binds (ps := ["forest", "child", "parent"]) fun _ _ _ _ _ _ us hl => match us, hl with | [_, _, _], _ => rfl
  have g_with_parent := PySem.W.mg_of X G aF_with_parent
  have M_with_parent : Mk K mg "with_parent" (topS 20) ["forest", "child", "parent"] := ⟨_, _, F_with_parent, B_with_parent, g_with_parent⟩
  have F_possible_joins := fun_mk (st := topS 21) lF_possible_joins cF_possible_joins kF_possible_joins
  have B_possible_joins := F_possible_joins.binds (ps := ["forest"]) fun _ _ _ _ _ _ us hl => match us, hl with | [_], _ => rfl
  have g_possible_joins := PySem.W.mg_of X G aF_possible_joins
  have M_possible_joins : Mk K mg "possible_joins" (topS 21) ["forest"] := ⟨_, _, F_possible_joins, B_possible_joins, g_possible_joins⟩
  have F_after_join := fun_mk (st := topS 22) lF_after_join cF_after_join kF_after_join
  have B_after_join := F_after_join.binds (ps := ["forest", "child", "parent"]) fun _ _ _ _ _ _ us hl => match us, hl with | [_, _, _], _ => rfl
  have g_after_join := PySem.W.mg_of X G aF_after_join
  have M_after_join : Mk K mg "after_join" (topS 22) ["forest", "child", "parent"] := ⟨_, _, F_after_join, B_after_join, g_after_join⟩
  have F_heavy_children := fun_mk (st := topS 23) lF_heavy_children cF_heavy_children kF_heavy_children
  have B_heavy_children := F_heavy_children.binds (ps := ["forest"]) fun _ _ _ _ _ _ us hl => match us, hl with | [_], _ => rfl
  have g_heavy_children := PySem.W.mg_of X G aF_heavy_children
  have M_heavy_children : Mk K mg "heavy_children" (topS 23) ["forest"] := ⟨_, _, F_heavy_children, B_heavy_children, g_heavy_children⟩
  have F_is_built := fun_mk (st := topS 24) lF_is_built cF_is_built kF_is_built
  have B_is_built := F_is_built.binds (ps := ["forest"]) fun _ _ _ _ _ _ us hl => match us, hl with | [_], _ => rfl
  have g_is_built := PySem.W.mg_of X G aF_is_built
  have M_is_built : Mk K mg "is_built" (topS 24) ["forest"] := ⟨_, _, F_is_built, B_is_built, g_is_built⟩
  have F_beside := fun_mk (st := topS 25) lF_beside cF_beside kF_beside
  have g_beside := PySem.W.mg_of X G aF_beside
  have F__law_well := fun_mk (st := topS 27) lF__law_well cF__law_well kF__law_well
  have B__law_well := F__law_well.binds (ps := ["_law_script"]) fun _ _ _ _ _ _ us hl => match us, hl with | [_], _ => rfl
  have g__law_well := PySem.W.mg_of X G aF__law_well
  have M__law_well : Mk K mg "_law_well" (topS 27) ["_law_script"] := ⟨_, _, F__law_well, B__law_well, g__law_well⟩
  have F__law_pull := fun_mk (st := topS 28) lF__law_pull cF__law_pull kF__law_pull
  have B__law_pull := F__law_pull.binds (ps := ["_law_well_here", "_law_many"]) fun _ _ _ _ _ _ us hl => match us, hl with | [_, _], _ => rfl
  have g__law_pull := PySem.W.mg_of X G aF__law_pull
  have M__law_pull : Mk K mg "_law_pull" (topS 28) ["_law_well_here", "_law_many"] := ⟨_, _, F__law_pull, B__law_pull, g__law_pull⟩
  have F__law_item := fun_mk (st := topS 29) lF__law_item cF__law_item kF__law_item
  have B__law_item := F__law_item.binds (ps := ["_law_well_here", "_law_items"]) fun _ _ _ _ _ _ us hl => match us, hl with | [_, _], _ => rfl
  have g__law_item := PySem.W.mg_of X G aF__law_item
  have M__law_item : Mk K mg "_law_item" (topS 29) ["_law_well_here", "_law_items"] := ⟨_, _, F__law_item, B__law_item, g__law_item⟩
  have F__law_mixed := fun_mk (st := topS 30) lF__law_mixed cF__law_mixed kF__law_mixed
  have B__law_mixed := F__law_mixed.binds (ps := ["_law_well_here", "_law_items"]) fun _ _ _ _ _ _ us hl => match us, hl with | [_, _], _ => rfl
  have g__law_mixed := PySem.W.mg_of X G aF__law_mixed
  have M__law_mixed : Mk K mg "_law_mixed" (topS 30) ["_law_well_here", "_law_items"] := ⟨_, _, F__law_mixed, B__law_mixed, g__law_mixed⟩
  have F__law_tops := fun_mk (st := topS 31) lF__law_tops cF__law_tops kF__law_tops
  have B__law_tops := F__law_tops.binds (ps := ["_law_parents"]) fun _ _ _ _ _ _ us hl => match us, hl with | [_], _ => rfl
  have g__law_tops := PySem.W.mg_of X G aF__law_tops
  have M__law_tops : Mk K mg "_law_tops" (topS 31) ["_law_parents"] := ⟨_, _, F__law_tops, B__law_tops, g__law_tops⟩
  have F__law_heft := fun_mk (st := topS 32) lF__law_heft cF__law_heft kF__law_heft
  have B__law_heft := F__law_heft.binds (ps := ["_law_parents", "_law_vertex"]) fun _ _ _ _ _ _ us hl => match us, hl with | [_, _], _ => rfl
  have g__law_heft := PySem.W.mg_of X G aF__law_heft
  have M__law_heft : Mk K mg "_law_heft" (topS 32) ["_law_parents", "_law_vertex"] := ⟨_, _, F__law_heft, B__law_heft, g__law_heft⟩
  have F__law_grown := fun_mk (st := topS 33) lF__law_grown cF__law_grown kF__law_grown
  have B__law_grown := F__law_grown.binds (ps := ["_law_well_here", "_law_most"]) fun _ _ _ _ _ _ us hl => match us, hl with | [_, _], _ => rfl
  have g__law_grown := PySem.W.mg_of X G aF__law_grown
  have M__law_grown : Mk K mg "_law_grown" (topS 33) ["_law_well_here", "_law_most"] := ⟨_, _, F__law_grown, B__law_grown, g__law_grown⟩
  have F__law_wild := fun_mk (st := topS 34) lF__law_wild cF__law_wild kF__law_wild
  have B__law_wild := F__law_wild.binds (ps := ["_law_well_here", "_law_most"]) fun _ _ _ _ _ _ us hl => match us, hl with | [_, _], _ => rfl
  have g__law_wild := PySem.W.mg_of X G aF__law_wild
  have M__law_wild : Mk K mg "_law_wild" (topS 34) ["_law_well_here", "_law_most"] := ⟨_, _, F__law_wild, B__law_wild, g__law_wild⟩
  have F__law_line := fun_mk (st := topS 35) lF__law_line cF__law_line kF__law_line
  have B__law_line := F__law_line.binds (ps := ["_law_parents", "_law_vertex"]) fun _ _ _ _ _ _ us hl => match us, hl with | [_, _], _ => rfl
  have g__law_line := PySem.W.mg_of X G aF__law_line
  have M__law_line : Mk K mg "_law_line" (topS 35) ["_law_parents", "_law_vertex"] := ⟨_, _, F__law_line, B__law_line, g__law_line⟩
  have F__law_forest := fun_mk (st := topS 36) lF__law_forest cF__law_forest kF__law_forest
  have B__law_forest := F__law_forest.binds (ps := ["_law_well_here", "_law_most"]) fun _ _ _ _ _ _ us hl => match us, hl with | [_, _], _ => rfl
  have g__law_forest := PySem.W.mg_of X G aF__law_forest
  have M__law_forest : Mk K mg "_law_forest" (topS 36) ["_law_well_here", "_law_most"] := ⟨_, _, F__law_forest, B__law_forest, g__law_forest⟩
  have F__law_beside_right := fun_mk (st := topS 37) lF__law_beside_right cF__law_beside_right kF__law_beside_right
  have B__law_beside_right := F__law_beside_right.binds (ps := ["_law_well_here", "_law_parents"]) fun _ _ _ _ _ _ us hl => match us, hl with | [_, _], _ => rfl
  have g__law_beside_right := PySem.W.mg_of X G aF__law_beside_right
  have M__law_beside_right : Mk K mg "_law_beside_right" (topS 37) ["_law_well_here", "_law_parents"] := ⟨_, _, F__law_beside_right, B__law_beside_right, g__law_beside_right⟩
  have F__law_eased_right := fun_mk (st := topS 38) lF__law_eased_right cF__law_eased_right kF__law_eased_right
  have B__law_eased_right := F__law_eased_right.binds (ps := ["_law_parents", "_law_child"]) fun _ _ _ _ _ _ us hl => match us, hl with | [_, _], _ => rfl
  have g__law_eased_right := PySem.W.mg_of X G aF__law_eased_right
  have M__law_eased_right : Mk K mg "_law_eased_right" (topS 38) ["_law_parents", "_law_child"] := ⟨_, _, F__law_eased_right, B__law_eased_right, g__law_eased_right⟩
  have F__law_refused := fun_mk (st := topS 39) lF__law_refused cF__law_refused kF__law_refused
  have B__law_refused := F__law_refused.binds (ps := ["_law_count"]) fun _ _ _ _ _ _ us hl => match us, hl with | [_], _ => rfl
  have g__law_refused := PySem.W.mg_of X G aF__law_refused
  have M__law_refused : Mk K mg "_law_refused" (topS 39) ["_law_count"] := ⟨_, _, F__law_refused, B__law_refused, g__law_refused⟩
  have F_law := fun_mk (st := topS 40) lF_law cF_law kF_law
  have g_law := PySem.W.mg_of X G aF_law
  have m_abs := PySem.W.mg_none_of X G z_abs
  have m_bool := PySem.W.mg_none_of X G z_bool
  have m_enumerate := PySem.W.mg_none_of X G z_enumerate
  have m_int := PySem.W.mg_none_of X G z_int
  have m_isinstance := PySem.W.mg_none_of X G z_isinstance
  have m_len := PySem.W.mg_none_of X G z_len
  have m_list := PySem.W.mg_none_of X G z_list
  have m_range := PySem.W.mg_none_of X G z_range
  have m_sorted := PySem.W.mg_none_of X G z_sorted
  have m_str := PySem.W.mg_none_of X G z_str
  have m_sum := PySem.W.mg_none_of X G z_sum
  have m_tuple := PySem.W.mg_none_of X G z_tuple
  have g_MAX_VERTICES := PySem.W.mg_of X G gc_MAX_VERTICES
  refine ⟨PySem.W.fnOf "law" "law" (defArgs (topS 40)) (defBody (topS 40)) (defScope (topS 40)) .none kVF_law dcF_law pmF_law anF_law cdF_law ctF_law, fun s v => .of_eq rfl, fun base _ _ sys => ?_⟩
  have TX_NoVertex : OexC K C_NoVertex := ⟨⟨nm_NoVertex, q_NoVertex, N_NoVertex, bs_NoVertex, bm_NoVertex, sn_NoVertex, sub_NoVertex, ab_NoVertex, col_NoVertex, dd_NoVertex, y0_NoVertex, y1_NoVertex, y2_NoVertex, y3_NoVertex, y5_NoVertex, xL_NoVertex, hb_NoVertex⟩, sa_NoVertex, eC_NoVertex, tC_NoVertex, kC_NoVertex⟩
  have FX_NoVertex := fun_mk (st := initS 5) l_NoVertex c_NoVertex k_NoVertex
  have I_NoVertex := ok_init (P := l.prog) (w := w) (mg := mg) (base := base) FX_NoVertex sc_NoVertex TX_NoVertex nb_NoVertex bd_NoVertex (.inl rfl) (.inl rfl) (by decide) (by decide)
  have BI_NoVertex := FX_NoVertex.binds (ps := ["self", "value"]) (fun _ _ _ _ _ _ us hl => match us, hl with | [_, _], _ => rfl)
  have R_NoVertex : ErrF l.prog w K mg base "NoVertex" "value" C_NoVertex := ⟨⟨_, _, a_NoVertex, t_NoVertex, I_NoVertex, BI_NoVertex⟩, TX_NoVertex, PySem.W.mg_of X G cg_NoVertex⟩
  have ER : Err l.prog w K mg base C_NoVertex fI_NoVertex _ := ⟨TX_NoVertex, a_NoVertex, t_NoVertex, I_NoVertex, BI_NoVertex, PySem.W.mg_of X G cg_NoVertex⟩
  have TX_TooMany : OexC K C_TooMany := ⟨⟨nm_TooMany, q_TooMany, N_TooMany, bs_TooMany, bm_TooMany, sn_TooMany, sub_TooMany, ab_TooMany, col_TooMany, dd_TooMany, y0_TooMany, y1_TooMany, y2_TooMany, y3_TooMany, y5_TooMany, xL_TooMany, hb_TooMany⟩, sa_TooMany, eC_TooMany, tC_TooMany, kC_TooMany⟩
  have FX_TooMany := fun_mk (st := initS 6) l_TooMany c_TooMany k_TooMany
  have I_TooMany := ok_init (P := l.prog) (w := w) (mg := mg) (base := base) FX_TooMany sc_TooMany TX_TooMany nb_TooMany bd_TooMany (.inl rfl) (.inl rfl) (by decide) (by decide)
  have BI_TooMany := FX_TooMany.binds (ps := ["self", "limit"]) (fun _ _ _ _ _ _ us hl => match us, hl with | [_, _], _ => rfl)
  have R_TooMany : ErrF l.prog w K mg base "TooMany" "limit" C_TooMany := ⟨⟨_, _, a_TooMany, t_TooMany, I_TooMany, BI_TooMany⟩, TX_TooMany, PySem.W.mg_of X G cg_TooMany⟩
  have R_BadCount : Err0 K mg "BadCount" C_BadCount := ⟨q0_BadCount, PySem.W.mg_of X G cg_BadCount, kC_BadCount, eC_BadCount, tC_BadCount⟩
  have G__law_well := ok_well (P := l.prog) (w := w) (base := base) F__law_well m_len m_abs m_int
  have d__law_well := Df.of F__law_well B__law_well g__law_well G__law_well
  have G__law_pull := ok_pull (P := l.prog) (w := w) (base := base) (mg := mg) F__law_pull
  have d__law_pull := Df.of F__law_pull B__law_pull g__law_pull G__law_pull
  have G__law_item := ok_item (P := l.prog) (w := w) (base := base) F__law_item F__law_pull B__law_pull g__law_pull m_len
  have d__law_item := Df.of F__law_item B__law_item g__law_item G__law_item
  have G__law_mixed := ok_mixed (P := l.prog) (w := w) (base := base) F__law_mixed F__law_pull B__law_pull g__law_pull m_len m_list
  have d__law_mixed := Df.of F__law_mixed B__law_mixed g__law_mixed G__law_mixed
  have G__law_tops := ok_tops (P := l.prog) (w := w) (base := base) F__law_tops m_len m_range
  have d__law_tops := Df.of F__law_tops B__law_tops g__law_tops G__law_tops
  have G__law_heft := ok_heft (P := l.prog) (w := w) (base := base) F__law_heft m_len m_range
  have d__law_heft := Df.of F__law_heft B__law_heft g__law_heft G__law_heft
  have G__law_grown := ok_grown (P := l.prog) (w := w) (base := base) F__law_grown F__law_pull B__law_pull g__law_pull F__law_item B__law_item g__law_item F__law_mixed B__law_mixed g__law_mixed F__law_tops B__law_tops g__law_tops F__law_heft B__law_heft g__law_heft m_len m_range m_list m_tuple m_sorted
  have d__law_grown := Df.of F__law_grown B__law_grown g__law_grown G__law_grown
  have G__law_wild := ok_wild (P := l.prog) (w := w) (base := base) F__law_wild F__law_pull B__law_pull g__law_pull F__law_item B__law_item g__law_item F__law_mixed B__law_mixed g__law_mixed m_len m_range m_list m_tuple m_enumerate
  have d__law_wild := Df.of F__law_wild B__law_wild g__law_wild G__law_wild
  have G__law_line := ok_line (P := l.prog) (w := w) (base := base) (mg := mg) F__law_line
  have d__law_line := Df.of F__law_line B__law_line g__law_line G__law_line
  have G__law_forest := ok_forest (P := l.prog) (w := w) (base := base) F__law_forest F__law_pull B__law_pull g__law_pull F__law_grown B__law_grown g__law_grown G__law_grown F__law_wild B__law_wild g__law_wild G__law_wild F__law_line B__law_line g__law_line m_len
  have d__law_forest := Df.of F__law_forest B__law_forest g__law_forest G__law_forest
  have G_is_plain_int := ok_pi (P := l.prog) (w := w) (base := base) F_is_plain_int m_isinstance m_int m_bool
  have d_is_plain_int := Df.of F_is_plain_int B_is_plain_int g_is_plain_int G_is_plain_int
  have G_is_vertex := ok_iv (P := l.prog) (w := w) (base := base) F_is_vertex F_is_plain_int G_is_plain_int B_is_plain_int g_is_plain_int
  have d_is_vertex := Df.of F_is_vertex B_is_vertex g_is_vertex G_is_vertex
  have G_check_vertex := ok_check (P := l.prog) (w := w) (base := base) F_check_vertex F_is_vertex G_is_vertex B_is_vertex g_is_vertex ER m_len
  have d_check_vertex := Df.of F_check_vertex B_check_vertex g_check_vertex G_check_vertex
  have G_path_of := ok_path (P := l.prog) (w := w) (base := base) F_path_of F_check_vertex G_check_vertex B_check_vertex g_check_vertex m_tuple
  have d_path_of := Df.of F_path_of B_path_of g_path_of G_path_of
  have G_weights := ok_weights (P := l.prog) (w := w) (base := base) F_weights F_path_of G_path_of B_path_of g_path_of m_len m_range m_tuple
  have d_weights := Df.of F_weights B_weights g_weights G_weights
  have G_roots := ok_roots (P := l.prog) (w := w) (base := base) F_roots m_enumerate m_tuple
  have d_roots := Df.of F_roots B_roots g_roots G_roots
  have d_possible_joins := ok_poss (P := l.prog) (w := w) (base := base) M_possible_joins d_roots d_weights m_tuple
  have d_heavy_children := ok_heavy_children (P := l.prog) (w := w) (base := base) M_heavy_children (ok_dweights (P := l.prog) (w := w) (base := base) M_weights (ok_path_of (P := l.prog) (w := w) (base := base) M_path_of (ok_check_vertex (P := l.prog) (w := w) (base := base) M_check_vertex (ok_is_vertex (P := l.prog) (w := w) (base := base) M_is_vertex (ok_is_plain_int (P := l.prog) (w := w) (base := base) M_is_plain_int m_isinstance m_int m_bool)) m_len) m_tuple) m_len m_range m_tuple) (ok_children_of (P := l.prog) (w := w) (base := base) M_children_of (ok_check_vertex (P := l.prog) (w := w) (base := base) M_check_vertex (ok_is_vertex (P := l.prog) (w := w) (base := base) M_is_vertex (ok_is_plain_int (P := l.prog) (w := w) (base := base) M_is_plain_int m_isinstance m_int m_bool)) m_len) m_enumerate m_tuple) m_enumerate m_sum m_tuple
  have d_is_built := ok_is_built (P := l.prog) (w := w) (base := base) M_is_built d_heavy_children
  have D_w := (ok_dweights (P := l.prog) (w := w) (base := base) M_weights (ok_path_of (P := l.prog) (w := w) (base := base) M_path_of (ok_check_vertex (P := l.prog) (w := w) (base := base) M_check_vertex (ok_is_vertex (P := l.prog) (w := w) (base := base) M_is_vertex (ok_is_plain_int (P := l.prog) (w := w) (base := base) M_is_plain_int m_isinstance m_int m_bool)) m_len) m_tuple) m_len m_range m_tuple)
  have D_kids := ok_children_of (P := l.prog) (w := w) (base := base) M_children_of (ok_check_vertex (P := l.prog) (w := w) (base := base) M_check_vertex (ok_is_vertex (P := l.prog) (w := w) (base := base) M_is_vertex (ok_is_plain_int (P := l.prog) (w := w) (base := base) M_is_plain_int m_isinstance m_int m_bool)) m_len) m_enumerate m_tuple
  have D_isroot := ok_is_root (P := l.prog) (w := w) (base := base) M_is_root (ok_is_vertex (P := l.prog) (w := w) (base := base) M_is_vertex (ok_is_plain_int (P := l.prog) (w := w) (base := base) M_is_plain_int m_isinstance m_int m_bool)) m_len
  have D_two := ok_are_two_roots (P := l.prog) (w := w) (base := base) M_are_two_roots D_isroot
  have D_isjoin := ok_is_joinD (P := l.prog) (w := w) (base := base) M_is_join D_two D_w
  have D_withp := ok_with_parent (P := l.prog) (w := w) (base := base) M_with_parent
  have D_after := ok_after_joinD (P := l.prog) (w := w) (base := base) M_after_join D_isjoin D_withp
  have D_ren := ok_renamedD (P := l.prog) (w := w) (base := base) M_renamed m_enumerate m_len m_tuple
  have D_bes := ok_beside (P := l.prog) (w := w) (base := base) F_beside g_beside g_MAX_VERTICES m_len m_sum m_tuple
  have D_besX := ok_besideX (P := l.prog) (w := w) (base := base) F_beside g_beside g_MAX_VERTICES R_BadCount R_TooMany m_len m_sum m_tuple
  have D_poss := d_possible_joins.possD
  have D_ref := ok_refused (P := l.prog) (w := w) (base := base) M__law_refused ref_ok nb_TooMany R_BadCount.g R_TooMany.g D_besX m_range m_str m_tuple
  have e__law_well := d__law_well.imp (fun _ _ _ _ h => h)
  have e__law_pull := fun wa la => d__law_pull.pullW wa la
  have e__law_mixed := fun wa la => d__law_mixed.mixW wa la
  have e__law_forest := fun wa la => d__law_forest.forW wa la
  have e__law_item := fun wa la => ok_itemW (P := l.prog) (w := w) (base := base) M__law_item wa la (e__law_pull wa la) m_len
  have e_bright := fun wa la => ok_bright (P := l.prog) (w := w) (base := base) M__law_beside_right wa la (e__law_forest wa la) D_bes d_heavy_children d_is_built m_len m_tuple
  have D_eased := ok_eased (P := l.prog) (w := w) (base := base) M__law_eased_right D_w D_kids d_heavy_children m_len m_sum
  exact ok_law F_law e__law_well e__law_mixed e__law_forest e__law_item e_bright D_ref D_eased D_bes d_heavy_children d_is_built D_ren D_poss D_after m_len m_list m_range m_sorted m_tuple
end Lf
open PySem PySem.W PyProof.Rows
set_option maxRecDepth 100000 in
set_option maxHeartbeats 0 in
theorem PySem.Challenge.cw_linkforests_k12_whole_forests_changed_holds : PySem.Challenge.rw_linkforests_k12_whole_forests_changed.Holds := by
  w_on; o_law; k_head; (case hw => w_witness2)
  k_fill
  refine Lf.walk_g (l := PySem.Challenge.rw_linkforests_k12_whole_forests_changed) (n := 63) (k := 9) (x := "_law_script") (sp := Lf.spLaw) rfl (by decide) rfl ⟨rfl, by decide, by decide⟩ (by decide +kernel) (fun w h Y => PySem.W.kIn_of Y) ?F (fun _ _ a ns hl _ hS => ⟨a, ns, rfl, hS, hl, fun _ => rfl⟩)
  case F =>
    intro w mg fa h KX G xl hmg
    refine' Lf.all_mk KX G hmg ?u_aF_is_plain_int ?u_lF_is_plain_int ?u_cF_is_plain_int ?u_kF_is_plain_int ?u_aF_is_vertex ?u_lF_is_vertex ?u_cF_is_vertex ?u_kF_is_vertex ?u_aF_check_vertex ?u_lF_check_vertex ?u_cF_check_vertex ?u_kF_check_vertex ?u_aF_roots ?u_lF_roots ?u_cF_roots ?u_kF_roots ?u_aF_children_of ?u_lF_children_of ?u_cF_children_of ?u_kF_children_of ?u_aF_weights ?u_lF_weights ?u_cF_weights ?u_kF_weights ?u_aF_path_of ?u_lF_path_of ?u_cF_path_of ?u_kF_path_of ?u_aF_renamed ?u_lF_renamed ?u_cF_renamed ?u_kF_renamed ?u_aF_is_root ?u_lF_is_root ?u_cF_is_root ?u_kF_is_root ?u_aF_are_two_roots ?u_lF_are_two_roots ?u_cF_are_two_roots ?u_kF_are_two_roots ?u_aF_is_join ?u_lF_is_join ?u_cF_is_join ?u_kF_is_join ?u_aF_with_parent ?u_lF_with_parent ?u_cF_with_parent ?u_kF_with_parent ?u_aF_possible_joins ?u_lF_possible_joins ?u_cF_possible_joins ?u_kF_possible_joins ?u_aF_after_join ?u_lF_after_join ?u_cF_after_join ?u_kF_after_join ?u_aF_heavy_children ?u_lF_heavy_children ?u_cF_heavy_children ?u_kF_heavy_children ?u_aF_is_built ?u_lF_is_built ?u_cF_is_built ?u_kF_is_built ?u_aF_beside ?u_lF_beside ?u_cF_beside ?u_kF_beside ?u_aF__law_well ?u_lF__law_well ?u_cF__law_well ?u_kF__law_well ?u_aF__law_pull ?u_lF__law_pull ?u_cF__law_pull ?u_kF__law_pull ?u_aF__law_item ?u_lF__law_item ?u_cF__law_item ?u_kF__law_item ?u_aF__law_mixed ?u_lF__law_mixed ?u_cF__law_mixed ?u_kF__law_mixed ?u_aF__law_tops ?u_lF__law_tops ?u_cF__law_tops ?u_kF__law_tops ?u_aF__law_heft ?u_lF__law_heft ?u_cF__law_heft ?u_kF__law_heft ?u_aF__law_grown ?u_lF__law_grown ?u_cF__law_grown ?u_kF__law_grown ?u_aF__law_wild ?u_lF__law_wild ?u_cF__law_wild ?u_kF__law_wild ?u_aF__law_line ?u_lF__law_line ?u_cF__law_line ?u_kF__law_line ?u_aF__law_forest ?u_lF__law_forest ?u_cF__law_forest ?u_kF__law_forest ?u_aF__law_beside_right ?u_lF__law_beside_right ?u_cF__law_beside_right ?u_kF__law_beside_right ?u_aF__law_eased_right ?u_lF__law_eased_right ?u_cF__law_eased_right ?u_kF__law_eased_right ?u_aF__law_refused ?u_lF__law_refused ?u_cF__law_refused ?u_kF__law_refused ?u_aF_law ?u_lF_law ?u_cF_law ?u_kF_law ?u_z_abs ?u_z_bool ?u_z_enumerate ?u_z_int ?u_z_isinstance ?u_z_len ?u_z_list ?u_z_range ?u_z_sorted ?u_z_str ?u_z_sum ?u_z_tuple ?u_cg_NoVertex ?u_cg_TooMany ?u_cg_BadCount ?u_xL_NoVertex ?u_hb_NoVertex ?u_sa_NoVertex ?u_nb_NoVertex ?u_a_NoVertex ?u_t_NoVertex ?u_l_NoVertex ?u_c_NoVertex ?u_k_NoVertex ?u_eC_NoVertex ?u_tC_NoVertex ?u_kC_NoVertex ?u_xL_TooMany ?u_hb_TooMany ?u_sa_TooMany ?u_nb_TooMany ?u_a_TooMany ?u_t_TooMany ?u_l_TooMany ?u_c_TooMany ?u_k_TooMany ?u_eC_TooMany ?u_tC_TooMany ?u_kC_TooMany ?u_q0_BadCount ?u_eC_BadCount ?u_tC_BadCount ?u_kC_BadCount ?u_gc_MAX_VERTICES ?u_ref_ok
    (case u_aF_is_plain_int => k_is)
    (case u_lF_is_plain_int => k_is)
    (case u_cF_is_plain_int => k_is)
    (case u_kF_is_plain_int => k_is)
    (case u_aF_is_vertex => k_is)
    (case u_lF_is_vertex => k_is)
    (case u_cF_is_vertex => k_is)
    (case u_kF_is_vertex => k_is)
    (case u_aF_check_vertex => k_is)
    (case u_lF_check_vertex => k_is)
    (case u_cF_check_vertex => k_is)
    (case u_kF_check_vertex => k_is)
    (case u_aF_roots => k_is)
    (case u_lF_roots => k_is)
    (case u_cF_roots => k_is)
    (case u_kF_roots => k_is)
    (case u_aF_children_of => k_is)
    (case u_lF_children_of => k_is)
    (case u_cF_children_of => k_is)
    (case u_kF_children_of => k_is)
    (case u_aF_weights => k_is)
    (case u_lF_weights => k_is)
    (case u_cF_weights => k_is)
    (case u_kF_weights => k_is)
    (case u_aF_path_of => k_is)
    (case u_lF_path_of => k_is)
    (case u_cF_path_of => k_is)
    (case u_kF_path_of => k_is)
    (case u_aF_renamed => k_is)
    (case u_lF_renamed => k_is)
    (case u_cF_renamed => k_is)
    (case u_kF_renamed => k_is)
    (case u_aF_is_root => k_is)
    (case u_lF_is_root => k_is)
    (case u_cF_is_root => k_is)
    (case u_kF_is_root => k_is)
    (case u_aF_are_two_roots => k_is)
    (case u_lF_are_two_roots => k_is)
    (case u_cF_are_two_roots => k_is)
    (case u_kF_are_two_roots => k_is)
    (case u_aF_is_join => k_is)
    (case u_lF_is_join => k_is)
    (case u_cF_is_join => k_is)
    (case u_kF_is_join => k_is)
    (case u_aF_with_parent => k_is)
    (case u_lF_with_parent => k_is)
    (case u_cF_with_parent => k_is)
    (case u_kF_with_parent => k_is)
    (case u_aF_possible_joins => k_is)
    (case u_lF_possible_joins => k_is)
    (case u_cF_possible_joins => k_is)
    (case u_kF_possible_joins => k_is)
    (case u_aF_after_join => k_is)
    (case u_lF_after_join => k_is)
    (case u_cF_after_join => k_is)
    (case u_kF_after_join => k_is)
    (case u_aF_heavy_children => k_is)
    (case u_lF_heavy_children => k_is)
    (case u_cF_heavy_children => k_is)
    (case u_kF_heavy_children => k_is)
    (case u_aF_is_built => k_is)
    (case u_lF_is_built => k_is)
    (case u_cF_is_built => k_is)
    (case u_kF_is_built => k_is)
    (case u_aF_beside => k_is)
    (case u_lF_beside => k_is)
    (case u_cF_beside => k_is)
    (case u_kF_beside => k_is)
    (case u_aF__law_well => k_is)
    (case u_lF__law_well => k_is)
    (case u_cF__law_well => k_is)
    (case u_kF__law_well => k_is)
    (case u_aF__law_pull => k_is)
    (case u_lF__law_pull => k_is)
    (case u_cF__law_pull => k_is)
    (case u_kF__law_pull => k_is)
    (case u_aF__law_item => k_is)
    (case u_lF__law_item => k_is)
    (case u_cF__law_item => k_is)
    (case u_kF__law_item => k_is)
    (case u_aF__law_mixed => k_is)
    (case u_lF__law_mixed => k_is)
    (case u_cF__law_mixed => k_is)
    (case u_kF__law_mixed => k_is)
    (case u_aF__law_tops => k_is)
    (case u_lF__law_tops => k_is)
    (case u_cF__law_tops => k_is)
    (case u_kF__law_tops => k_is)
    (case u_aF__law_heft => k_is)
    (case u_lF__law_heft => k_is)
    (case u_cF__law_heft => k_is)
    (case u_kF__law_heft => k_is)
    (case u_aF__law_grown => k_is)
    (case u_lF__law_grown => k_is)
    (case u_cF__law_grown => k_is)
    (case u_kF__law_grown => k_is)
    (case u_aF__law_wild => k_is)
    (case u_lF__law_wild => k_is)
    (case u_cF__law_wild => k_is)
    (case u_kF__law_wild => k_is)
    (case u_aF__law_line => k_is)
    (case u_lF__law_line => k_is)
    (case u_cF__law_line => k_is)
    (case u_kF__law_line => k_is)
    (case u_aF__law_forest => k_is)
    (case u_lF__law_forest => k_is)
    (case u_cF__law_forest => k_is)
    (case u_kF__law_forest => k_is)
    (case u_aF__law_beside_right => k_is)
    (case u_lF__law_beside_right => k_is)
    (case u_cF__law_beside_right => k_is)
    (case u_kF__law_beside_right => k_is)
    (case u_aF__law_eased_right => k_is)
    (case u_lF__law_eased_right => k_is)
    (case u_cF__law_eased_right => k_is)
    (case u_kF__law_eased_right => k_is)
    (case u_aF__law_refused => k_is)
    (case u_lF__law_refused => k_is)
    (case u_cF__law_refused => k_is)
    (case u_kF__law_refused => k_is)
    (case u_aF_law => k_is)
    (case u_lF_law => k_is)
    (case u_cF_law => k_is)
    (case u_kF_law => k_is)
    (case u_z_abs => k_is)
    (case u_z_bool => k_is)
    (case u_z_enumerate => k_is)
    (case u_z_int => k_is)
    (case u_z_isinstance => k_is)
    (case u_z_len => k_is)
    (case u_z_list => k_is)
    (case u_z_range => k_is)
    (case u_z_sorted => k_is)
    (case u_z_str => k_is)
    (case u_z_sum => k_is)
    (case u_z_tuple => k_is)
    (case u_cg_NoVertex => k_is)
    (case u_cg_TooMany => k_is)
    (case u_cg_BadCount => k_is)
    (case u_xL_NoVertex => k_is)
    (case u_hb_NoVertex => rfl)
    (case u_sa_NoVertex => k_is)
    (case u_nb_NoVertex => k_is)
    (case u_a_NoVertex => k_is)
    (case u_t_NoVertex => k_is)
    (case u_l_NoVertex => k_is)
    (case u_c_NoVertex => k_is)
    (case u_k_NoVertex => k_is)
    (case u_eC_NoVertex => k_is)
    (case u_tC_NoVertex => k_is)
    (case u_kC_NoVertex => k_is)
    (case u_xL_TooMany => k_is)
    (case u_hb_TooMany => rfl)
    (case u_sa_TooMany => k_is)
    (case u_nb_TooMany => k_is)
    (case u_a_TooMany => k_is)
    (case u_t_TooMany => k_is)
    (case u_l_TooMany => k_is)
    (case u_c_TooMany => k_is)
    (case u_k_TooMany => k_is)
    (case u_eC_TooMany => k_is)
    (case u_tC_TooMany => k_is)
    (case u_kC_TooMany => k_is)
    (case u_q0_BadCount => kernel_rfl)
    (case u_eC_BadCount => k_is)
    (case u_tC_BadCount => k_is)
    (case u_kC_BadCount => k_is)
    (case u_gc_MAX_VERTICES => k_is)
    (case u_ref_ok => kernel_rfl)
