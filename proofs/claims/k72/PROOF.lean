import PyProof.Rows.All
import Wide.All
import OpenK.AllK
import Wide.FinOn
import HandS.ForMost
import HandS.Style
import HandS.Wide
import HandS.NoneIn
import HandS.Walk
import HandS.ExcInit
import HandS.ExcValue
import HandS.ExcOwn
import HandS.IsInst
import KE.KExcIs
import HandS.TupAny
import HandS.Conv
import HandS.Sort
import HandS.Flow
import HandS.Codes
import KE.GoesEnum
import KE.KRevSl
import PyProof.ReprLen
import HandS.ExcField
import HandS.WordsExc
import HandS.Strs
import HandS.List
import HandS.Deep
import HandS.TupMul
import PyProof.Rows.SortShellAny
import HandS.SortInts
import KE.KTupSum
import KE.DataMinMax
import HandS.More
import HandS.Iter
import HandS.TryOnly
import HandS.WideBits
import HandS.Dict
import HandS.FStr
import HandS.StrMore
import HandS.Text
import HandS.Exc
import PyProof.StrOps2
import KE.IntTextLaws
import HandS.SortRule
import KE.SortData
import KE.SortKeyHeap
import HandS.SortKw
import HandS.CallLocal
import HandS.ExcInitHot
import HandS.SuiteRaise
import PyProof.EqKinds
import PyProof.NeKinds
import PyProof.StrLawsRepr
import PyProof.Rows.ReprOcc
import PySem.Challenge.RW_linkforests_k72_other_texts_refused
set_option Elab.async false
set_option linter.all false
set_option maxRecDepth 100000
set_option maxHeartbeats 2000000
namespace Lf
open PySem PySem.Spec PyProof.Rows L2

/-! ### data that repr shows -/
def keyD : Key → PyData
  | .inl i => .int i
  | .inr x => .str x
mutual
inductive Rp (H : Hp) : V → PyData → Prop
  | non : Rp H .non .none
  | bl (b : Bool) : Rp H (.bl b) (.bool b)
  | int (i : Int) : Rp H (.int i) (.int i)
  | str (x : Str) : Rp H (.str x) (.str x)
  | lst {a : Addr} {xs : List V} {ds : List PyData} : H a = some (.lst xs) → RpAll H xs ds → Rp H (.ref a) (.list ds)
  | tup {a : Addr} {xs : List V} {ds : List PyData} : H a = some (.tup xs) → RpAll H xs ds → Rp H (.ref a) (.tuple ds)
  | ftp {a : Addr} {o : Obj} {xs : List V} {ds : List PyData} : H a = some (.frz o (.tup xs)) → RpAll H xs ds → Rp H (.ref a) (.tuple ds)
  | dct {a : Addr} {kvs : List (Key × V)} {es : List (PyData × PyData)} : H a = some (.dK kvs) → RpKv H kvs es → Rp H (.ref a) (.dict es)
inductive RpAll (H : Hp) : List V → List PyData → Prop
  | nil : RpAll H [] []
  | cons {v : V} {vs : List V} {d : PyData} {ds : List PyData} : Rp H v d → RpAll H vs ds → RpAll H (v :: vs) (d :: ds)
inductive RpKv (H : Hp) : List (Key × V) → List (PyData × PyData) → Prop
  | nil : RpKv H [] []
  | cons {k : Key} {v : V} {r : List (Key × V)} {d : PyData} {es : List (PyData × PyData)} : Rp H v d → RpKv H r es → RpKv H ((k, v) :: r) ((keyD k, d) :: es)
end

theorem reads_key {h : Heap} {k : Key} {v : Value} (e : keyIs k v = true) : Reads h v (keyD k) [] := by
  rcases keyIs_shape e with ⟨i, t, rfl, rfl⟩ | ⟨x, t, rfl, rfl⟩
  · exact Reads.int i t
  · exact Reads.str x t

section
variable {X : Cx} {pins : List (Addr × Obj)} {σ : L2.St} {H : Hp} {s : Shared}
theorem not_sys (I : Inv X pins σ H s) (hs : ∃ o, X.base.get? sysModules = some o) {a : Addr} {o : HO} (e : H a = some o) : sysModules ≠ a := by
  obtain ⟨o', h1⟩ := hs
  intro z
  have q := (I.bs _ _ h1).2
  rw [z, e] at q
  cases q
mutual
theorem Rp.reads (I : Inv X pins σ H s) (hs : ∃ o, X.base.get? sysModules = some o) : ∀ {v : V} {d : PyData}, Rp H v d → ∀ u, RelV v u → ∃ as, Reads s.heap u d as ∧ sysModules ∉ as
  | _, _, .non, u, r => by
    cases r
    exact ⟨[], Reads.none, List.not_mem_nil⟩
  | _, _, .bl b, u, r => by
    cases r
    exact ⟨[], Reads.bool b, List.not_mem_nil⟩
  | _, _, .int i, u, r => by
    obtain ⟨t, rfl⟩ := r
    exact ⟨[], Reads.int i t, List.not_mem_nil⟩
  | _, _, .str x, u, r => by
    obtain ⟨t, rfl⟩ := r
    exact ⟨[], Reads.str x t, List.not_mem_nil⟩
  | _, _, .lst (a := a) (xs := xs) e q, u, r => by
    cases r
    obtain ⟨_, its, n, rv, ho⟩ := (show ObjOk X.prog X.w H s.heap a (.lst xs) from I.hok a _ e)
    obtain ⟨as, h1, h2⟩ := RpAll.reads I hs q its rv
    refine ⟨a :: as, Reads.list ho rfl rfl h1, fun z => ?_⟩
    rcases List.mem_cons.mp z with z | z
    · exact not_sys I hs e z
    · exact h2 z
  | _, _, .tup (a := a) (xs := xs) e q, u, r => by
    cases r
    obtain ⟨_, its, rv, o, ho, hc, n, hd⟩ := (show ObjOk X.prog X.w H s.heap a (.tup xs) from I.hok a _ e)
    obtain ⟨as, h1, h2⟩ := RpAll.reads I hs q its rv
    exact ⟨as, Reads.tuple ho hc hd h1, h2⟩
  | _, _, .ftp (a := a) (o := ob) (xs := xs) e q, u, r => by
    cases r
    obtain ⟨_, _, its, rv, o, ho, hc, n, hd⟩ := (show ObjOk X.prog X.w H s.heap a (.frz ob (.tup xs)) from I.hok a _ e)
    obtain ⟨as, h1, h2⟩ := RpAll.reads I hs q its rv
    exact ⟨as, Reads.tuple ho hc hd h1, h2⟩
  | _, _, .dct (a := a) (kvs := kvs) e q, u, r => by
    cases r
    obtain ⟨_, _, vs, kv, o, es, ep, ho, hx, hd, hko, hp, _⟩ := (show ObjOk X.prog X.w H s.heap a (.dK kvs) from I.hok a _ e)
    obtain ⟨as, h1, h2, h3⟩ := RpKv.reads I hs q vs kv es.toList hp
    refine ⟨a :: [] ++ as, Reads.dict ho hx.1 hd h1 h2, fun z => ?_⟩
    rcases List.mem_cons.mp z with z | z
    · exact not_sys I hs e z
    · exact h3 z
theorem RpAll.reads (I : Inv X pins σ H s) (hs : ∃ o, X.base.get? sysModules = some o) : ∀ {vs : List V} {ds : List PyData}, RpAll H vs ds → ∀ us, Vals vs us → ∃ as, ReadsAll s.heap us ds as ∧ sysModules ∉ as
  | _, _, .nil, us, r => by
    cases r
    exact ⟨[], ReadsAll.nil, List.not_mem_nil⟩
  | _, _, .cons q1 q2, us, r => by
    cases r with
    | cons r1 r2 =>
      obtain ⟨as, h1, h2⟩ := Rp.reads I hs q1 _ r1
      obtain ⟨bs, h3, h4⟩ := RpAll.reads I hs q2 _ r2
      exact ⟨as ++ bs, ReadsAll.cons h1 h3, fun z => (List.mem_append.mp z).elim h2 h4⟩
theorem RpKv.reads (I : Inv X pins σ H s) (hs : ∃ o, X.base.get? sysModules = some o) : ∀ {kvs : List (Key × V)} {es : List (PyData × PyData)}, RpKv H kvs es → ∀ vs, KV kvs vs → ∀ ens, Pairs (mixKind X.prog X.w) ens vs →
    ∃ as, ReadsAll s.heap (ens.map (·.key)) (es.map (·.1)) [] ∧ ReadsAll s.heap (ens.map (·.val)) (es.map (·.2)) as ∧ sysModules ∉ as
  | _, _, .nil, vs, kv, ens, p => by
    cases kv
    cases p
    exact ⟨[], ReadsAll.nil, ReadsAll.nil, List.not_mem_nil⟩
  | _, _, .cons q1 q2, vs, kv, ens, p => by
    cases kv with
    | cons k1 k2 =>
      cases p with
      | cons p1 p2 p3 =>
        obtain ⟨e1, e2⟩ := k1
        rw [← p2] at e2
        obtain ⟨as, h1, h2⟩ := Rp.reads I hs q1 _ e2
        obtain ⟨bs, h3, h4, h5⟩ := RpKv.reads I hs q2 _ k2 _ p3
        refine ⟨as ++ bs, ReadsAll.cons (as := []) ?_ h3, ReadsAll.cons h1 h4, fun z => (List.mem_append.mp z).elim h2 h5⟩
        rw [← e1] at p1
        exact reads_key p1
end
end

/-! what stood stands: the same data reads the same -/
mutual
theorem Rp.mono {H H' : Hp} (k : ∀ b o, H b = some o → H' b = some o) : ∀ {v : V} {d : PyData}, Rp H v d → Rp H' v d
  | _, _, .non => .non
  | _, _, .bl b => .bl b
  | _, _, .int i => .int i
  | _, _, .str x => .str x
  | _, _, .lst e q => .lst (k _ _ e) (RpAll.mono k q)
  | _, _, .tup e q => .tup (k _ _ e) (RpAll.mono k q)
  | _, _, .ftp e q => .ftp (k _ _ e) (RpAll.mono k q)
  | _, _, .dct e q => .dct (k _ _ e) (RpKv.mono k q)
theorem RpAll.mono {H H' : Hp} (k : ∀ b o, H b = some o → H' b = some o) : ∀ {vs : List V} {ds : List PyData}, RpAll H vs ds → RpAll H' vs ds
  | _, _, .nil => .nil
  | _, _, .cons q1 q2 => .cons (Rp.mono k q1) (RpAll.mono k q2)
theorem RpKv.mono {H H' : Hp} (k : ∀ b o, H b = some o → H' b = some o) : ∀ {kvs : List (Key × V)} {es : List (PyData × PyData)}, RpKv H kvs es → RpKv H' kvs es
  | _, _, .nil => .nil
  | _, _, .cons q1 q2 => .cons (Rp.mono k q1) (RpKv.mono k q2)
end

section
variable {X : Cx}
/-- repr of a list or a tuple -/
theorem call_repr (hs : ∃ o, X.base.get? sysModules = some o) (hg : X.A.guards = some []) (hu : X.A.units + 200 < cLine) :
    CallR X (.builtin "repr") (fun xs H Q => ∃ (a : Addr) (d : PyData), xs = [.ref a] ∧ Rp H (.ref a) d ∧ d.showable = true ∧ d.depth ≤ 100 ∧ d.shown.length ≤ sizeLine ∧ Q (.str d.shown) H) := by
  intro pins s σ H xs us Q I r h
  obtain ⟨a, d, rfl, hr, h1, h2, h3, q⟩ := h
  obtain ⟨u, rfl, r1⟩ := vals1 r
  cases (show u = Value.ref a from r1)
  obtain ⟨as, rd, na⟩ := Rp.reads I hs hr _ rfl
  exact repr_of_reads' rd h1 (fun _ => na) hg (by omega) (fun _ _ e => e) (fun h' t tk k => ⟨.str d.shown, H, I.kept k, ⟨t, rfl⟩, q⟩) h3
end
end Lf
namespace Lf
open PySem PySem.Spec PyProof.Rows L2

/-! ### the law's own call: nothing is being shown around it (repr's guard is empty), the modules' table stands below all -/
/-- a promise of the def at f for a caller whose repr guard is empty -/
def RunG (P : Program) (w : World) (K : PySem.W.Frag) (mg : Str → Option Value) (base : Heap) (k : Nat) (f : Addr) (fd : FuncData) (ps : List Str) (sp : Sp) : Prop :=
  ∀ (A : Around) (outer : List Env) (s : Shared) (H : Hp) (args : Args) (us : List Value) (vs : List V) (Q : VK) (E : XK), A.guards = some [] →
    Room k A → Env0 P w K mg base A outer s H → BindsTo s fd args (ps.zip us) → Vals vs us → sp vs H Q E → codeAny (model P w) A (.call (.ref f) args) (CR CX0 outer P w H s Q E) s

theorem runG_of {P : Program} {w : World} {K : PySem.W.Frag} {mg : Str → Option Value} {base : Heap} {name qual : Str} {st : Stmt} {f : Addr} {fd : FuncData} {N ps : List Str} {k : Nat} {sp : Sp}
    (Fn : Fun K name qual st f fd) (Sc : FnScope N ps (defScope st)) (lens : ∀ vs H Q E, sp vs H Q E → vs.length = ps.length)
    (bd : ∀ (cdv : Value) (A : Around) (outer : List Env) (s : Shared) (H : Hp) (vs : List V) (Q : VK) (E : XK), A.guards = some [] → Room k (A.deeper (envOfC qual (defScope st) s.heap.objs.size f cdv)) → sp vs H Q E →
      ∃ t, PSs (cxOf CX0 P w K mg base N qual (defScope st) f cdv A outer s H E).nox (defBody st) t ∧ t { nx := fun _ H' => Q .non H', rt := Q } (start N vs) H) :
    RunG P w K mg base (k + 1) f fd ps sp := by
  obtain ⟨oc, od, kV, doc, pm, an, cdv, ct, osl, rfl, look, code⟩ := Fn.ex
  intro A outer s H args us vs Q E gu room env bind vals want
  have within : K.In s.heap := env.mod.kin.keeps fun b o z => (env.bs b o z).1
  have free : s.heap.NoLimit := env.mod.nolimit.keeps fun b o z => (env.bs b o z).1
  have kinds : ∀ y ∈ ps.zip us, (defScope st).names.lookup y.1 = some .local ∨ ((defScope st).names.lookup y.1 = some .cell ∧ ((cellsFrom (s.heap.objs.size + 1) (defScope st).names []).lookup y.1).isSome = true) := by
    rintro ⟨n, v⟩ mem
    exact (Sc.par n (List.of_mem_zip mem).1).imp id fun z => ⟨z, PySem.W.cellsFrom_some _ _ _ (.inl z)⟩
  apply codeAny_call_function room.depth (within _ _ look) rfl Sc.co Sc.gen rfl (PySem.W.codeRec_of within code)
  apply bind
  apply wpAny_newFunctionEnv_cells Sc.kind kinds
  rintro env' rfl s1 called
  refine ⟨free.keeps called.toInCall.keep, codeAny_func ?_⟩
  obtain ⟨t, walk, read⟩ := bd cdv A outer s H vs Q E gu (room.deeper _) want
  have inv : Inv (cxOf CX0 P w K mg base N qual (defScope st) f cdv A outer s H E) [] (start N vs) H s1 := inv_start Sc room.hd env (lens _ _ _ _ want) vals called
  refine wpAny_mono (walk.nox.run [] s1 (start N vs) H _ inv read) ?_ (fun _ _ z => z)
  rintro (_ | u | _ | _) s' got
  · obtain ⟨σ', H', J, q⟩ := got
    exact ⟨.non, H', J.os, J.bare, J.base, J.hok, rfl, q⟩
  all_goals first
    | (obtain ⟨v, σ', H', J, rv, q⟩ := got; exact ⟨v, H', J.os, J.bare, J.base, J.hok, rv, q⟩)
    | (obtain ⟨_, _, _, q⟩ := got; exact q.elim)

/-- from the law's promise to the goal that k_head leaves; F may use the loose names' values and the modules' table -/
theorem walk_g {l : PySem.W.OpenLaw} {n k : Nat} {q : Program} {loose : List Str} {XP : (Str → Option Value) → Heap → Prop} {YP : World → Heap → Prop} {d : DefRec} {K : Params → PySem.W.Frag} {sp : PySem.W.Frag → Sp} {x : Str}
    (most : l.most = some n) (fits : n ≤ sizeLine) (plain : d.params.defaults = []) (room : Room k callerA) (noimp : importsNone q = true)
    (hY : ∀ (w : World) (h : Heap), YP w h → (K w.params).In h)
    (F : ∀ (w : World) (mg : Str → Option Value) (fa : Addr) (h : Heap), (K w.params).In h → h.Ns mainGlobals mg → XP mg h → mg d.name = some (.ref fa) →
      ∃ fd : FuncData, (∀ (s : Shared) (u : Value), BindsTo s fd ⟨[u], []⟩ [(x, u)]) ∧
        ∀ base : Heap, (K w.params).In base → base.Ns mainGlobals mg → (∃ o, base.get? sysModules = some o) → RunG l.prog w (K w.params) mg base k fa fd [x] (sp (K w.params)))
    (hsp : ∀ (K : PySem.W.Frag) (H : Hp) (a : Addr) (ns : List Int), ns.length ≤ n → Only H → SqL K H a (ns.map V.int) → sp K [.ref a] H (fun v _ => v = .bl true) fun _ _ _ => False) :
    PySem.W.WalkO q loose XP YP l.row.toRowW d [] (fun f vs => PySem.call f vs) := by
  refine Att.attach_call most plain ?_
  intro w s₀ s₁ mg mb fa o pm cd doc a vs ns Gr Y _ _ _ named script areInts short gens
  have KX := hY w _ Y
  obtain ⟨fd, binds, FB⟩ := F w mg fa _ KX Gr.T.g Gr.X named
  obtain ⟨mm, hmm, _⟩ := (Gr.T.seer noimp).mods
  have pairs := vals_ints areInts
  have size := areInts.length
  have long : ns.length ≤ sizeLine := Nat.le_trans short fits
  -- whatever of the script is tracked
  have go : ∀ H : Hp, Only H → SqL (K w.params) H a (ns.map V.int) → HOk l.prog w H s₁.heap → (∀ b, H b ≠ none → b = a) → (H a ≠ none → (K w.params).lookup a = none) →
      codeAny (model l.prog w) callerA (.call (.ref fa) ⟨[.ref a], []⟩) (fun r s' => r = .ok (.ret (.bool true)) ∧ OldK s₁.heap s'.heap ∧ s'.os = s₁.os ∧ AllBare s'.gens) s₁ := by
    intro H only listed held lone off
    have low : ∀ {b : Addr} {m : Str → Option Value}, s₁.heap.Ns b m → (hidT s₁.heap H).Ns b m := by
      rintro b m ⟨ob, es, ep, z, dz, rz⟩
      refine ⟨ob, es, ep, hidT_get z ?_, dz, rz⟩
      cases hb : H b with
      | none => rfl
      | some u =>
        obtain rfl := lone b (by rw [hb]; exact fun z => nomatch z)
        rw [script] at z
        cases z
        cases dz
    have inb : (K w.params).In (hidT s₁.heap H) := by
      intro b ob z
      refine hidT_get (KX b ob z) ?_
      cases hb : H b with
      | none => rfl
      | some u =>
        obtain rfl := lone b (by rw [hb]; exact fun z => nomatch z)
        rw [off (by rw [hb]; exact fun z => nomatch z)] at z
        cases z
    have modu : Mod (K w.params) mg (hidT s₁.heap H) := by
      obtain ⟨mc, c1, c2⟩ := Gr.T.nolimit
      exact ⟨inb, low Gr.T.g, ⟨mb, low Gr.T.b, Gr.T.builtins⟩, ⟨mc, low c1, c2⟩⟩
    have e0 : Env0 l.prog w (K w.params) mg (hidT s₁.heap H) callerA [] s₁ H :=
      ⟨rfl, modu, fun b ob z => of_hidT z, Nat.le_of_eq (hidT_size _ _), trivial, (fun b z => nomatch z), held, AllBare.of_eq gens⟩
    have sys : ∃ ob, (hidT s₁.heap H).get? sysModules = some ob := by
      obtain ⟨ob, _, _, z, _⟩ := low hmm
      exact ⟨ob, z⟩
    have done := FB _ inb (low Gr.T.g) sys callerA [] s₁ H ⟨[.ref a], []⟩ [.ref a] [.ref a] _ _ rfl room e0 (binds s₁ (.ref a)) (.cons rfl .nil) (hsp _ H a ns short only listed)
    refine codeAny_mono done ?_
    intro r s' got
    cases r with
    | error er => exact False.elim got
    | ok fl =>
      cases fl with
      | next => exact False.elim got
      | brk => exact False.elim got
      | cont => exact False.elim got
      | ret u =>
        obtain ⟨v, H', hos, bare, un, held', rv, hv⟩ := got
        cases (show v = .bl true from hv)
        cases (show u = Value.bool true from rv)
        refine ⟨rfl, OldK.of_keep ?_, hos, bare⟩
        intro b ob z
        rcases only b with hb | ⟨o2, xs, hb⟩
        · exact un.keep b ob z hb (fun y => nomatch y) (fun y => nomatch y)
        · have z1 := (held b _ hb).1
          have z2 := (held' b _ (un.frzs b o2 _ hb)).1
          rw [z] at z1
          cases z1
          exact z2
  cases lk : (K w.params).lookup a with
  | none =>
    refine go (fun b => if b = a then some (.frz { cls := .type "list", data := .seq vs.toArray } (.lst (ns.map V.int))) else none) ?_ (.inl (.inr ⟨_, if_pos rfl⟩)) ?_ ?_ (fun _ => lk)
    · intro b
      by_cases hb : b = a
      · exact .inr ⟨_, _, if_pos hb⟩
      · exact .inl (if_neg hb)
    · intro b u z
      by_cases hb : b = a
      · subst hb
        have z := (if_pos rfl).symm.trans z
        cases z
        exact ⟨script, by rw [List.length_map]; exact long, vs, _, pairs, script⟩
      · have z := (if_neg hb).symm.trans z
        cases z
    · intro b z
      by_cases hb : b = a
      · exact hb
      · exact absurd (if_neg hb) z
  | some ob =>
    have z := KX a ob lk
    rw [script] at z
    cases z
    exact go (fun _ => none) (fun _ => .inl rfl) (.inr ⟨_, vs.toArray, _, lk, rfl, rfl, rfl, by rw [List.size_toArray, size]; exact long, by simpa using pairs⟩) (fun b u z => nomatch z) (fun b z => absurd rfl z) (fun z => absurd rfl z)
end Lf
/-! ### forests: plain mathematics -/
namespace Lf
/-- the parent of v -/
def par (fs : List Nat) (v : Nat) : Nat := fs.getD v 0
/-- k steps lead from v to a root, no fewer -/
inductive Rch (fs : List Nat) : Nat → Nat → Prop
  | root {v : Nat} : par fs v = v → Rch fs 0 v
  | step {k v : Nat} : par fs v ≠ v → Rch fs k (par fs v) → Rch fs (k + 1) v
/-- the way from v to its root -/
inductive Pth (fs : List Nat) : Nat → List Nat → Prop
  | root {v : Nat} : par fs v = v → Pth fs v [v]
  | step {v : Nat} {l : List Nat} : par fs v ≠ v → Pth fs (par fs v) l → Pth fs v (v :: l)
/-- v lies on the way of u -/
inductive Bel (fs : List Nat) (v : Nat) : Nat → Prop
  | refl : Bel fs v v
  | step {u : Nat} : par fs u ≠ u → Bel fs v (par fs u) → Bel fs v u
structure Forest (fs : List Nat) : Prop where
  pos : 0 < fs.length
  few : fs.length ≤ 24
  rng : ∀ v, v < fs.length → par fs v < fs.length
  rch : ∀ v, v < fs.length → ∃ k, Rch fs k v
theorem Rch.inj {fs : List Nat} {j k v : Nat} (a : Rch fs j v) (b : Rch fs k v) : j = k := by
  induction a generalizing k with
  | root h =>
    cases b with
    | root _ => rfl
    | step h' _ => exact absurd h h'
  | step h _ ih =>
    cases b with
    | root h' => exact absurd h' h
    | step _ r => rw [ih r]
theorem Bel.le {fs : List Nat} {v u j k : Nat} (b : Bel fs v u) (a : Rch fs j u) (c : Rch fs k v) : k ≤ j := by
  induction b generalizing j with
  | refl => rw [a.inj c]; exact Nat.le_refl _
  | step h _ ih =>
    cases a with
    | root h' => exact absurd h' h
    | step _ r => exact Nat.le_succ_of_le (ih r)
/-- nobody lies below himself -/
theorem Bel.no {fs : List Nat} {v : Nat} (f : ∃ k, Rch fs k v) (h : par fs v ≠ v) : ¬ Bel fs v (par fs v) := fun b => by
  obtain ⟨k, r⟩ := f
  cases r with
  | root h' => exact h h'
  | step _ r' =>
    have := b.le r' (.step h r')
    omega
theorem Pth.of {fs : List Nat} {k v : Nat} (a : Rch fs k v) : ∃ l, Pth fs v l ∧ l.length = k + 1 := by
  induction a with
  | root h => exact ⟨_, .root h, rfl⟩
  | step h _ ih =>
    obtain ⟨l, h1, h2⟩ := ih
    exact ⟨_, .step h h1, by rw [List.length_cons, h2]⟩
theorem Pth.inj {fs : List Nat} {v : Nat} {l m : List Nat} (a : Pth fs v l) (b : Pth fs v m) : l = m := by
  induction a generalizing m with
  | root h =>
    cases b with
    | root _ => rfl
    | step h' _ => exact absurd h h'
  | step h _ ih =>
    cases b with
    | root h' => exact absurd h' h
    | step _ r => rw [ih r]
theorem Pth.bel {fs : List Nat} {u : Nat} {l : List Nat} (a : Pth fs u l) (v : Nat) : v ∈ l ↔ Bel fs v u := by
  induction a with
  | root h =>
    refine ⟨fun z => ?_, fun z => ?_⟩
    · rw [List.mem_singleton.mp z]
      exact .refl
    · cases z with
      | refl => exact List.mem_singleton.mpr rfl
      | step h' _ => exact absurd h h'
  | step h _ ih =>
    refine ⟨fun z => ?_, fun z => ?_⟩
    · rcases List.mem_cons.mp z with z | z
      · rw [z]
        exact .refl
      · exact .step h (ih.mp z)
    · cases z with
      | refl => exact List.mem_cons_self
      | step _ b => exact List.mem_cons_of_mem _ (ih.mpr b)
theorem Bel.lt {fs : List Nat} (rng : ∀ v, v < fs.length → par fs v < fs.length) {v u : Nat} (b : Bel fs v u) (h : u < fs.length) : v < fs.length := by
  induction b with
  | refl => exact h
  | step _ _ ih => exact ih (rng _ h)
theorem Pth.nodup {fs : List Nat} (rch : ∀ v, v < fs.length → ∃ k, Rch fs k v) (rng : ∀ v, v < fs.length → par fs v < fs.length) {u : Nat} {l : List Nat} (a : Pth fs u l) (h : u < fs.length) : l.Nodup := by
  induction a with
  | root _ => exact List.nodup_cons.mpr ⟨List.not_mem_nil, List.nodup_nil⟩
  | step hn p ih => exact List.nodup_cons.mpr ⟨fun z => Bel.no (rch _ h) hn ((p.bel _).mp z), ih (rng _ h)⟩
/-- a list without repetition of numbers below n has at most n items -/
theorem nodup_le : ∀ {n : Nat} {l : List Nat}, l.Nodup → (∀ x ∈ l, x < n) → l.length ≤ n
  | 0, [], _, _ => Nat.le_refl _
  | 0, x :: _, _, hb => absurd (hb x List.mem_cons_self) (Nat.not_lt_zero _)
  | n + 1, l, h, hb => by
    by_cases hn : n ∈ l
    · have h2 := List.length_erase_of_mem hn
      have h3 : (l.erase n).length ≤ n := nodup_le (h.erase n) fun x hx => by
        have h4 := (List.Nodup.mem_erase_iff h).mp hx
        have := hb x h4.2
        have := h4.1
        omega
      have h5 : 0 < l.length := List.length_pos_of_mem hn
      omega
    · refine Nat.le_succ_of_le (nodup_le h fun x hx => ?_)
      have := hb x hx
      have : x ≠ n := fun e => hn (e ▸ hx)
      omega
theorem Forest.path {fs : List Nat} (F : Forest fs) {v : Nat} (h : v < fs.length) : ∃ l, Pth fs v l ∧ l.Nodup ∧ l.length ≤ fs.length ∧ (∀ x ∈ l, x < fs.length) ∧ Rch fs (l.length - 1) v ∧ 0 < l.length := by
  obtain ⟨k, r⟩ := F.rch v h
  obtain ⟨l, p, e⟩ := Pth.of r
  have nd := p.nodup F.rch F.rng h
  have lt : ∀ x ∈ l, x < fs.length := fun x hx => ((p.bel x).mp hx).lt F.rng h
  refine ⟨l, p, nd, nodup_le nd lt, lt, ?_, by omega⟩
  rw [e]
  exact r
/-! new forests of old ones -/
theorem par_set {fs : List Nat} {a b v : Nat} (h : a < fs.length) : par (fs.set a b) v = if v = a then b else par fs v := by
  unfold par
  rw [List.getD_eq_getElem?_getD, List.getD_eq_getElem?_getD, List.getElem?_set]
  by_cases e : a = v
  · subst e
    rw [if_pos rfl, if_pos rfl, if_pos h]
    rfl
  · rw [if_neg e, if_neg (fun z => e z.symm)]
/-- reaching a root, without a count -/
def Up (fs : List Nat) (v : Nat) : Prop := ∃ k, Rch fs k v
theorem Up.root {fs : List Nat} {v : Nat} (h : par fs v = v) : Up fs v := ⟨0, .root h⟩
theorem Up.step {fs : List Nat} {v : Nat} (h : Up fs (par fs v)) : Up fs v := by
  obtain ⟨k, r⟩ := h
  by_cases e : par fs v = v
  · exact .root e
  · exact ⟨k + 1, .step e r⟩
/-- v is put below w, on whose way it does not lie -/
theorem Forest.moved {fs : List Nat} (F : Forest fs) {v w : Nat} (hv : v < fs.length) (hw : w < fs.length) (nb : ¬ Bel fs v w) : Forest (fs.set v w) := by
  have key : ∀ {k u : Nat}, Rch fs k u → ¬ Bel fs v u → Up (fs.set v w) u := by
    intro k u r
    induction r with
    | root h =>
      rename_i u
      intro z
      have ne : ¬ u = v := fun e => z (e ▸ .refl)
      exact .root (by rw [par_set hv, if_neg ne]; exact h)
    | step h r ih =>
      rename_i k u
      intro z
      have ne : ¬ u = v := fun e => z (e ▸ .refl)
      refine .step ?_
      rw [par_set hv, if_neg ne]
      exact ih fun b => z (.step h b)
  obtain ⟨kw, rw'⟩ := F.rch w hw
  have upw := key rw' nb
  refine ⟨by rw [List.length_set]; exact F.pos, by rw [List.length_set]; exact F.few, fun u hu => ?_, fun u hu => ?_⟩
  · rw [List.length_set] at hu ⊢
    rw [par_set hv]
    by_cases e : u = v
    · rw [if_pos e]
      exact hw
    · rw [if_neg e]
      exact F.rng u hu
  · rw [List.length_set] at hu
    obtain ⟨k, r⟩ := F.rch u hu
    clear hu
    show Up _ _
    induction r with
    | root h =>
      rename_i u
      by_cases e : u = v
      · refine .step ?_
        rw [par_set hv, if_pos e]
        exact upw
      · exact .root (by rw [par_set hv, if_neg e]; exact h)
    | step h _ ih =>
      rename_i k u _
      by_cases e : u = v
      · refine .step ?_
        rw [par_set hv, if_pos e]
        exact upw
      · refine .step ?_
        rw [par_set hv, if_neg e]
        exact ih
theorem par_range {n v : Nat} (h : v < n) : par (List.range n) v = v := by
  unfold par
  rw [List.getD_eq_getElem?_getD, List.getElem?_range h]
  rfl
theorem Forest.range {n : Nat} (h0 : 0 < n) (h1 : n ≤ 24) : Forest (List.range n) := by
  refine ⟨by rw [List.length_range]; exact h0, by rw [List.length_range]; exact h1, fun v hv => ?_, fun v hv => ?_⟩
  · rw [List.length_range] at hv
    rw [par_range hv, List.length_range]
    exact hv
  · rw [List.length_range] at hv
    exact Up.root (par_range hv)
def tops (fs : List Nat) : List Nat := (List.range fs.length).filter fun v => decide (par fs v = v)
theorem mem_tops {fs : List Nat} {v : Nat} : v ∈ tops fs ↔ v < fs.length ∧ par fs v = v := by
  unfold tops
  rw [List.mem_filter, List.mem_range, decide_eq_true_iff]
theorem tops_nodup (fs : List Nat) : (tops fs).Nodup := List.Pairwise.filter _ List.nodup_range
/-- one root below another: one root fewer -/
theorem tops_moved {fs : List Nat} {a b : Nat} (ha : a ∈ tops fs) (hb : b ∈ tops fs) (ne : a ≠ b) : (tops (fs.set a b)).length + 1 = (tops fs).length := by
  have h1 := mem_tops.mp ha
  have e : tops (fs.set a b) = (tops fs).filter fun v => decide (v ≠ a) := by
    unfold tops
    rw [List.length_set, List.filter_filter]
    refine List.filter_congr fun v hv => ?_
    rw [par_set h1.1]
    by_cases z : v = a
    · subst z
      rw [if_pos rfl]
      simp [Ne.symm ne]
    · rw [if_neg z]
      simp [z]
  have e2 : (tops fs).filter (fun v => decide (v ≠ a)) = (tops fs).erase a := by
    rw [List.Nodup.erase_eq_filter (tops_nodup fs)]
    refine List.filter_congr fun v _ => ?_
    by_cases z : v = a <;> simp [z]
  rw [e, e2, List.length_erase_of_mem ha]
  have := List.length_pos_of_mem ha
  omega
end Lf
namespace Lf
/-! ### all that lies below v, found from children to children -/
def kids (fs : List Nat) (y : Nat) : List Nat := (List.range fs.length).filter fun u => decide (par fs u = y) && decide (u ≠ par fs u)
theorem mem_kids {fs : List Nat} {y u : Nat} : u ∈ kids fs y ↔ u < fs.length ∧ par fs u = y ∧ u ≠ par fs u := by
  unfold kids
  rw [List.mem_filter, List.mem_range, Bool.and_eq_true_iff, decide_eq_true_iff, decide_eq_true_iff]
structure Bfs (fs : List Nat) (v : Nat) (ins : List Nat) (c : Nat) : Prop where
  nd : ins.Nodup
  bel : ∀ u ∈ ins, u < fs.length ∧ Bel fs v u
  top : v ∈ ins
  cnt : c ≤ ins.length
  cls : ∀ j u, j < c → ins[j]? = some (par fs u) → u < fs.length → par fs u ≠ u → u ∈ ins
  org : ∀ u ∈ ins, u = v ∨ (par fs u ≠ u ∧ ∃ j, j < c ∧ ins[j]? = some (par fs u))
theorem Bfs.start {fs : List Nat} {v : Nat} (h : v < fs.length) : Bfs fs v [v] 0 :=
  ⟨List.nodup_cons.mpr ⟨List.not_mem_nil, List.nodup_nil⟩, fun u hu => by rw [List.mem_singleton.mp hu]; exact ⟨h, .refl⟩, List.mem_singleton.mpr rfl, Nat.zero_le _, fun j u hj => absurd hj (Nat.not_lt_zero _), fun u hu => .inl (List.mem_singleton.mp hu)⟩
theorem Bfs.le {fs : List Nat} {v c : Nat} {ins : List Nat} (B : Bfs fs v ins c) : ins.length ≤ fs.length := nodup_le B.nd fun u hu => (B.bel u hu).1
theorem Bfs.next {fs : List Nat} (rch : ∀ v, v < fs.length → ∃ k, Rch fs k v) {v c y : Nat} {ins : List Nat} (B : Bfs fs v ins c) (hy : ins[c]? = some y) : Bfs fs v (ins ++ kids fs y) (c + 1) := by
  have hc : c < ins.length := by
    rcases Nat.lt_or_ge c ins.length with z | z
    · exact z
    · rw [List.getElem?_eq_none z] at hy
      cases hy
  have ym : y ∈ ins := List.mem_of_getElem? hy
  have yb := B.bel y ym
  refine ⟨?_, ?_, ?_, ?_, ?_, ?_⟩
  · refine List.nodup_append.mpr ⟨B.nd, List.Pairwise.filter _ List.nodup_range, ?_⟩
    intro u hu w hw e
    subst e
    obtain ⟨k1, k2, k3⟩ := mem_kids.mp hw
    rcases B.org u hu with z | ⟨_, j, hj, ej⟩
    · subst z
      exact Bel.no (rch _ k1) (Ne.symm k3) (k2 ▸ yb.2)
    · rw [k2] at ej
      have e2 : j = c := (List.getElem?_inj (Nat.lt_trans hj hc) B.nd).mp (ej.trans hy.symm)
      omega
  · intro u hu
    rcases List.mem_append.mp hu with z | z
    · exact B.bel u z
    · obtain ⟨k1, k2, k3⟩ := mem_kids.mp z
      exact ⟨k1, .step (Ne.symm k3) (k2 ▸ yb.2)⟩
  · exact List.mem_append_left _ B.top
  · rw [List.length_append]
    omega
  · intro j u hj ej hu hn
    by_cases z : j < c
    · rw [List.getElem?_append_left (by omega)] at ej
      exact List.mem_append_left _ (B.cls j u z ej hu hn)
    · have z2 : j = c := by omega
      subst z2
      rw [List.getElem?_append_left hc, hy] at ej
      exact List.mem_append_right _ (mem_kids.mpr ⟨hu, (Option.some.inj ej).symm, Ne.symm hn⟩)
  · intro u hu
    rcases List.mem_append.mp hu with z | z
    · rcases B.org u z with z | ⟨h1, j, hj, ej⟩
      · exact .inl z
      · exact .inr ⟨h1, j, by omega, by rw [List.getElem?_append_left (by omega)]; exact ej⟩
    · obtain ⟨k1, k2, k3⟩ := mem_kids.mp z
      exact .inr ⟨Ne.symm k3, c, Nat.lt_succ_self _, by rw [List.getElem?_append_left hc, hy, k2]⟩
theorem Bfs.done {fs : List Nat} (rng : ∀ v, v < fs.length → par fs v < fs.length) {v : Nat} {ins : List Nat} (B : Bfs fs v ins ins.length) (u : Nat) : u ∈ ins ↔ u < fs.length ∧ Bel fs v u := by
  refine ⟨B.bel u, fun hh => ?_⟩
  obtain ⟨h, b⟩ := hh
  induction b with
  | refl => exact B.top
  | step hn _ ih =>
    obtain ⟨j, hj, ej⟩ := List.getElem_of_mem (ih (rng _ h))
    exact B.cls j _ hj (by rw [List.getElem?_eq_getElem hj, ej]) h hn
end Lf
namespace Lf
open PySem PySem.Spec PyProof.Rows L2
/-! ### rules -/
/-- a list or a tuple -/
def SqQ (K : PySem.W.Frag) (H : Hp) (p : Addr) (xs : List V) : Prop := SqL K H p xs ∨ SqT K H p xs
theorem same_seqT {K : PySem.W.Frag} {H H' : Hp} {a : Addr} {xs : List V} (e : Same H H') (h : SqT K H a xs) : SqT K H' a xs := by
  rcases h with (h | ⟨o, h⟩) | h
  · exact .inl (.inl (e _ _ h))
  · exact .inl (.inr ⟨o, e _ _ h⟩)
  · exact .inr h
theorem SqQ.same {K : PySem.W.Frag} {H H' : Hp} {p : Addr} {xs : List V} (s : Same H H') : SqQ K H p xs → SqQ K H' p xs
  | .inl h => .inl (s.seq h)
  | .inr h => .inr (same_seqT s h)
def rIxQ (K : PySem.W.Frag) : R2 := fun x y H Q => ∃ (p : Addr) (xs : List V) (i : Int) (v : V), x = .ref p ∧ y = .int i ∧ SqQ K H p xs ∧ atI xs i = some v ∧ Q v H
section
variable {X : Cx}
theorem ix_q : IxR X (rIxQ X.K) := by
  intro value slice pins s σ H x y v u Q I rx ry q hs
  obtain ⟨p, xs, i, z, h1, h2, h3, h4, h5⟩ := q
  rcases h3 with h3 | h3
  · exact ix_list value slice pins s σ H x y v u Q I rx ry ⟨p, xs, i, z, h1, h2, h3, h4, h5⟩ hs
  · exact ix_tup value slice pins s σ H x y v u Q I rx ry ⟨p, xs, i, z, h1, h2, h3, h4, h5⟩ hs
end
/-! ### xs[::k], k one or minus one -/
def tStepL (K : PySem.W.Frag) (te ts : TE) : TE := fun σ H Q => te σ H fun x H1 => ts σ H1 fun y H2 => ∃ (a : Addr) (xs : List V) (k : Int), x = .ref a ∧ y = .int k ∧ SqL K H2 a xs ∧ (k = 1 ∨ k = -1) ∧ ∀ p, H2 p = none → ∀ zs, (zs = xs ∨ zs = xs.reverse) → Q (.ref p) (upd H2 p (.lst zs))
theorem pick_one (its : Array Value) : slicePick its none none (some 1) = its := slicePick_all its
section
variable {X : Cx} {e st : Expr} {te ts : TE} {p3 pos : Pos}
theorem pe_stepL (he : PE X e te) (hst : PE X st ts) (tl : ∀ (a b : Addr), subscripted (.Slice none none (some st) p3) false (.ref a) (.ref b) = operate [.ref a, .ref b] (getItem (.ref a) (.ref b)) := by intros; with_unfolding_all rfl) :
    PE X (.Subscript e (.Slice none none (some st) p3) pos) (tStepL X.K te ts) := by
  refine ⟨fun pins s σ H Q I h => ?_⟩
  refine Subscript_ (thn (he.run pins s σ H _ I h) ?_)
  rintro v s1 ⟨x, H1, I1, r1, q1⟩
  refine wpAny_Slice (thn (po_none.run pins s1 σ H1 (fun o G => o = none ∧ G = H1) I1 ⟨rfl, rfl⟩) ?_)
  rintro vl s2 ⟨ol, G2, I2, pl, rfl, rfl⟩
  refine thn (po_none.run pins s2 σ G2 (fun o G => o = none ∧ G = G2) I2 ⟨rfl, rfl⟩) ?_
  rintro vu s3 ⟨ou, G3, I3, pu, rfl, rfl⟩
  rw [evalPart_some]
  refine thn (hst.run pins s3 σ G3 _ I3 q1) ?_
  rintro vs s4 ⟨y, H4, I4, ry, a, xs, k, rfl, rfl, hx, hk, q⟩
  cases (show v = Value.ref a from r1)
  obtain ⟨tk, rfl⟩ := ry
  have I5 : Inv X pins σ H4 { s4 with heap := s4.heap.push { cls := .type "slice", data := .fields #[vl, vu, .int k tk] } } := I4.kept (t' := s4.toks) fun b ob z => Heap.get?_push_of_some _ z
  obtain ⟨its, rv, plain, small⟩ := I5.list hx
  have same := rv.length
  show wpAny (model X.prog X.w) X.A (subscriptTail e (.Slice none none (some st) p3) (.ref a) (.ref s4.heap.objs.size)) (EP X pins σ Q) X.xe { s4 with heap := s4.heap.push { cls := .type "slice", data := .fields #[vl, vu, .int k tk] } }
  refine tail_any (ops := [.ref a, .ref s4.heap.objs.size]) plain.isList.typeIs (PySem.slot_list_getitem.lookup) ?_ (tl a _)
  rcases hk with rfl | rfl
  · refine wpAny_getItem_list_slice plain.isList (Heap.IsSliceOf.new _ vl vu _) pl pu (IsPart.int 1 tk) (by decide) ?_ (by rw [List.size_toArray]; omega)
    rw [pick_one]
    refine ⟨.ref _, _, I5.laid (t' := s4.toks) (o := .lst xs) (fun b ob z => Heap.get?_push_of_some _ z) (Nat.le_refl _) ?_, rfl, q _ (I5.hok.fresh (Nat.le_refl _)) xs (.inl rfl)⟩
    exact ⟨small, its, 0, rv, Heap.get?_push_size _ rfl⟩
  · refine wpAny_getItem_list_slice plain.isList (Heap.IsSliceOf.new _ vl vu _) pl pu (IsPart.int (-1) tk) (by decide) ?_ (by rw [List.size_toArray]; omega)
    rw [PySem.W.krv_pick]
    refine ⟨.ref _, _, I5.laid (t' := s4.toks) (o := .lst xs.reverse) (fun b ob z => Heap.get?_push_of_some _ z) (Nat.le_refl _) ?_, rfl, q _ (I5.hok.fresh (Nat.le_refl _)) xs.reverse (.inr rfl)⟩
    exact ⟨by rw [List.length_reverse]; exact small, _, 0, rv.reverse, Heap.get?_push_size _ rfl⟩
end
/-- numbers as values -/
def nv (l : List Nat) : List V := l.map fun x => V.int (x : Nat)
theorem nv_length (l : List Nat) : (nv l).length = l.length := List.length_map ..
theorem nv_get {l : List Nat} {i : Nat} (h : i < l.length) : (nv l)[i]? = some (.int ((l.getD i 0 : Nat) : Int)) := by
  unfold nv
  rw [List.getElem?_map, List.getD_eq_getElem?_getD, List.getElem?_eq_getElem h]
  rfl
theorem nv_some {l : List Nat} {i : Nat} {v : V} (h : (nv l)[i]? = some v) : i < l.length ∧ v = .int ((l.getD i 0 : Nat) : Int) := by
  have hi : i < l.length := by
    rcases Nat.lt_or_ge i l.length with z | z
    · exact z
    · rw [List.getElem?_eq_none (by rw [nv_length]; exact z)] at h
      cases h
  rw [nv_get hi] at h
  exact ⟨hi, (Option.some.inj h).symm⟩
theorem nv_append (l m : List Nat) : nv (l ++ m) = nv l ++ nv m := List.map_append ..
theorem dpNv {K : PySem.W.Frag} {H : Hp} : ∀ l : List Nat, DpAll K H (nv l) ((l.map fun x => ((x : Nat) : Int)).map PyData.int)
  | [] => .nil
  | x :: l => .cons (.int _) (dpNv l)
end Lf
namespace Lf
open PySem PySem.Spec PyProof.Rows L2
/-! ### enumerate of a tuple -/
theorem enumNew {v : Value} {o : Obj} {G : Heap → Prop} (B : Begins v o G) :
    Meets (Builtin.«enumerate.__new__» ⟨[.type "enumerate", v], []⟩) (fun _ R s => G s.heap ∧
      R (.ok (.ret (.ref (s.heap.push o).objs.size))) { s with heap := (s.heap.push o).push { cls := .type "enumerate", data := .fields #[.none, .bool false, .ref s.heap.objs.size, rawInt 0, .none, .none] } }) :=
  .of_wp fun prog w A R s want => by
    obtain ⟨hp, gens, drawn, tok, os⟩ := s
    obtain ⟨first, want⟩ := want
    have subE := sub_enumerate
    have it0 : ∀ {A' : Around} {E : Value → Shared → Prop} {Q : Value → Shared → Prop}, Q (.ref hp.objs.size) ⟨hp.push o, gens, drawn, tok, os⟩ → wpAny (model prog w) A' (pyIter v) Q E ⟨hp, gens, drawn, tok, os⟩ := fun z => B.iter prog w _ _ ⟨hp, gens, drawn, tok, os⟩ _ first z
    wp_walk using it0
    refine wpAny_stack_any fun st => wpAny_pure ?_
    split
    · rename_i c _ _ _ _ _
      cases (c == Value.type "enumerate") <;> (wp_walk using it0; exact ⟨_, rfl, want⟩)
    · wp_walk using it0
      exact ⟨_, rfl, want⟩
theorem enumMade {prog : Program} {w : World} {A : Around} {E : Value → Shared → Prop} {s : Shared} {v : Value} {o : Obj} {G : Heap → Prop} {Q : Value → Shared → Prop} (B : Begins v o G) (first : G s.heap)
    (want : ∀ h', IsEnum h' (s.heap.objs.size + 1) s.heap.objs.size 0 .none → h'.get? s.heap.objs.size = some o → (∀ b u, s.heap.get? b = some u → h'.get? b = some u) → Q (.ref (s.heap.objs.size + 1)) { s with heap := h' }) :
    wpAny (model prog w) A (call (.type "enumerate") [v]) Q E s := by
  refine callType_new F.called_enumerate (by decide) (F.typeCall_enumerate_1 _) (F.newCall_enumerate_1 _) (fun obj => F.args_object_init_2 obj _) F.entry_enumerate_new (enumNew B) ⟨first, ?_⟩
  have size : (s.heap.push o).objs.size = s.heap.objs.size + 1 := Heap.size_push ..
  show _ ∧ _
  rw [size]
  have isE : IsEnum ((s.heap.push o).push { cls := .type "enumerate", data := .fields #[.none, .bool false, .ref s.heap.objs.size, rawInt 0, .none, .none] }) (s.heap.objs.size + 1) s.heap.objs.size 0 .none := by
    have z := Heap.get?_push_size (s.heap.push o) (o := { cls := .type "enumerate", data := .fields #[.none, .bool false, .ref s.heap.objs.size, rawInt 0, .none, .none] }) rfl
    rw [size] at z
    exact z
  exact ⟨⟨_, isE, rfl⟩, want _ isE (Heap.get?_push_of_some _ (Heap.get?_push_size _ B.free)) fun b u z => Heap.get?_push_of_some _ (Heap.get?_push_of_some _ z)⟩
/-- the tuple at a, its items in new pairs -/
def ItT (K : PySem.W.Frag) (a : Addr) : It :=
  ⟨fun i H => ∃ (xs : List V) (x : V), SqT K H a xs ∧ xs[i]? = some x, fun i H v H' => ∃ T x, v = .ref T ∧ H T = none ∧ H' = upd H T (.tup [.int (i : Nat), x]) ∧ ∀ xs, SqT K H a xs → xs[i]? = some x, fun i H => ∃ xs : List V, SqT K H a xs ∧ xs.length = i⟩
theorem walkT {K : PySem.W.Frag} {a : Addr} {xs : List V} : Walk (ItT K a) xs.length (fun H => SqT K H a xs) (YPair (fun i => some (.int (i : Nat))) (fun i => xs[i]?)) := by
  refine ⟨fun i _ hi z => ⟨xs, xs[i], z, List.getElem?_eq_getElem hi⟩, fun _ z => ⟨xs, z, rfl⟩, ?_⟩
  rintro i H v H' _ z ⟨T, x, h1, h2, h3, h4⟩
  exact ⟨T, .int (i : Nat), x, h1, h2, h3, rfl, h4 xs z⟩
theorem turnT {P : Program} {w : World} {K : PySem.W.Frag} {elts : List Expr} {kk : Nat} {tpos : Pos} (a e it : Addr) :
    Turn P w K (.Tuple elts kk tpos) (ItT K a) [e, it] e (fun i h => (∃ old, IsEnum h e it ((i : Nat) : Int) old) ∧ h.IsTupleIter it a i ∧ e ≠ it ∧ a ≠ it ∧ e ≠ a) where
  mem := List.mem_cons_self
  obj := by
    rintro i h ⟨⟨old, he⟩, ⟨o, ho, hc, hd⟩, _⟩ b hb
    rcases List.mem_cons.mp hb with rfl | hb
    · exact ⟨_, he, fun v z => nomatch z⟩
    · rw [List.mem_singleton.mp hb]
      exact ⟨o, ho, fun v z => by rw [hd] at z; cases z⟩
  keep := by
    rintro i h h' ⟨⟨old, he⟩, hi, r⟩ k
    exact ⟨⟨old, k e List.mem_cons_self _ he⟩, hi.at fun o z => k it (List.mem_cons_of_mem _ List.mem_cons_self) o z, r⟩
  item := by
    intro X hP hw hK hc i pins s σ H E I hf st hg
    subst hP hw hK
    obtain ⟨⟨old, he⟩, hit, hne, hai, hea⟩ := st
    obtain ⟨xs, x, hq, hx⟩ := hg
    obtain ⟨its, rv, tp, hz⟩ := I.tuple hq
    obtain ⟨u, hu, ru⟩ := rv.get hx
    have inb : i < its.toArray.size := by
      rw [List.size_toArray]
      rcases Nat.lt_or_ge i its.length with z | z
      · exact z
      · rw [List.getElem?_eq_none z] at hu
        cases hu
    have isT : s.heap.IsTuple a its.toArray := by
      obtain ⟨o, ho, ht, n, hd⟩ := tp
      exact ⟨o, ho, ht, n, hd⟩
    have el : e < s.heap.objs.size := Heap.lt_size he
    have il : it < s.heap.objs.size := by
      obtain ⟨_, z, _⟩ := hit
      exact Heap.lt_size z
    refine wpAny_pyNext_enum_itemD (Draws.tuple (A := X.A.in1) (I.ok.hd hc) it a hai its.toArray) he ⟨hit, isT⟩ inb hne (by simp [hne, hea]) ?_
    rintro y h1 tk hy out ⟨hit1, _⟩ pair _ kept
    have ey : y = u := by
      have z : its[i]? = some y := by simpa using hy
      rw [hu] at z
      exact (Option.some.inj z).symm
    subst ey
    refine ⟨_, rfl, wpAny_letOwnedTupleGo_enum (s := { s with heap := h1, toks := tk + 1 }) out ?_⟩
    intro h2 he2 same
    have pair2 : h2.get? s.heap.objs.size = some { cls := .type "tuple", data := .seq #[.int i tk, y] } := (same.2 _ (Nat.ne_of_gt el)).trans pair
    have new : ObjOk X.prog X.w (upd H s.heap.objs.size (.tup [.int (i : Nat), x])) h2 s.heap.objs.size (.tup [.int (i : Nat), x]) :=
      ⟨by show 2 ≤ sizeLine; decide, [.int i tk, y], .cons ⟨_, rfl⟩ (.cons ru .nil), ⟨_, pair2, rfl, _, rfl⟩⟩
    have J : Inv X pins σ (upd H s.heap.objs.size (.tup [.int (i : Nat), x])) { s with heap := h2, toks := tk + 1 } := by
      refine I.turnedNew (ch := [e, it]) ?_ hf (Nat.le_refl _) new
      intro b ob hb z
      have be : b ≠ e := fun y => hb (by simp [y])
      have bi : b ≠ it := fun y => hb (by simp [y])
      exact (same.2 b be).trans (kept b ob be bi z)
    refine ⟨.ref s.heap.objs.size, _, J, rfl, ⟨_, x, rfl, I.hok.fresh (Nat.le_refl _), rfl, fun ys hys => ?_⟩, ⟨⟨y, ?_⟩, hit1.at fun o z => (same.2 it (Ne.symm hne)).trans z, hne, hai, hea⟩, fun b hb => ?_⟩
    · rw [I.tuple_inj hys hq]
      exact hx
    · have z : ((i + 1 : Nat) : Int) = (i : Int) + 1 := by omega
      rw [z]
      exact he2
    · have bl : b < s.heap.objs.size := by
        rcases List.mem_cons.mp hb with rfl | hb
        · exact el
        · rw [List.mem_singleton.mp hb]
          exact il
      rw [upd_ne (Nat.ne_of_lt bl)]
      exact (hf b hb).1
  done := by
    intro X hP hw hK hc i pins s σ H E I hf st hg
    subst hP hw hK
    obtain ⟨⟨old, he⟩, hit, hne, hai, hea⟩ := st
    obtain ⟨xs, hq, hx⟩ := hg
    obtain ⟨its, rv, tp, hz⟩ := I.tuple hq
    have isT : s.heap.IsTuple a its.toArray := by
      obtain ⟨o, ho, ht, n, hd⟩ := tp
      exact ⟨o, ho, ht, n, hd⟩
    obtain ⟨f0, f1, f2, f3, f4, f5⟩ := hf it (List.mem_cons_of_mem _ List.mem_cons_self)
    have same := rv.length
    have size : its.toArray.size = i := by
      rw [List.size_toArray]
      omega
    have last : s.heap.IsTupleIter it a its.toArray.size ∧ s.heap.IsTuple a its.toArray := ⟨by rw [size]; exact hit, isT⟩
    refine wpAny_pyNext_enum_endD (Draws.tuple (A := X.A.in1) (I.ok.hd hc) it a hai its.toArray) he last ?_
    intro h1 ext
    exact ⟨rfl, I.turned (t' := s.toks) (fun b o hb z => ext b o hb z) f0 f1 f3 f4 f5⟩
  self := fun A i s Q E st h => by
    obtain ⟨⟨_, he⟩, _⟩ := st
    exact wpAny_pyIter_enum he h
def iEnT (K : PySem.W.Frag) (ta : TA) : TI := fun σ H R => ta σ H fun vs H1 => ∃ a xs, vs = [.ref a] ∧ SqT K H1 a xs ∧ R (ItT K a) H1
theorem pi_enumT {X : Cx} {e : Expr} {ta : TA} {p pos tpos : Pos} {elts : List Expr} {kk : Nat} (hg : Gl X "enumerate") (hm : X.mg "enumerate" = none) (ha : PA X [e] ta) (hs : starEach [e] X.env = [(false, eval e X.env)] := by rfl) :
    PI X (.Tuple elts kk tpos) (.Call (.Name "enumerate" p) [e] [] pos) (iEnT X.K ta) := by
  refine ⟨fun pins s σ H R I h => ?_⟩
  refine Call_ (ld_blt I hg hm boot_enumerate (PyProof.Rows.callWith_type1 (thn (ha.run pos pins s σ H _ I h) ?_) hs rfl))
  rintro us s1 ⟨vs, H1, I1, r1, a, xs, rfl, hq, q⟩
  obtain ⟨u, rfl, r⟩ := vals1 r1
  cases (show u = Value.ref a from r)
  obtain ⟨its, rv, tp, hz⟩ := I1.tuple hq
  have isT : s1.heap.IsTuple a its.toArray := by
    obtain ⟨o, ho, ht, n, hd⟩ := tp
    exact ⟨o, ho, ht, n, hd⟩
  have al : a < s1.heap.objs.size := by
    obtain ⟨o, ho, _⟩ := tp
    exact Heap.lt_size ho
  refine enumMade (begins_tuple a its.toArray) isT ?_
  intro h1 isE isI kept
  refine wpAny_pyIter_enum isE ?_
  have I2 : Inv X pins σ H1 { s1 with heap := h1 } := I1.kept (t' := s1.toks) kept
  refine ⟨s1.heap.objs.size + 1, [s1.heap.objs.size + 1, s1.heap.objs.size], _, _, H1, rfl, I2, turnT a (s1.heap.objs.size + 1) s1.heap.objs.size, ⟨⟨.none, isE⟩, ⟨_, isI, rfl, rfl⟩, Nat.succ_ne_self _, Nat.ne_of_lt al, Nat.ne_of_gt (Nat.lt_succ_of_lt al)⟩, fun b hb => ?_, q⟩
  have le : s1.heap.objs.size ≤ b := by
    rcases List.mem_cons.mp hb with rfl | hb
    · exact Nat.le_succ _
    · rw [List.mem_singleton.mp hb]
      exact Nat.le_refl _
  exact I1.fpOk le (I1.hok.fresh le)
end Lf
namespace Lf
open PySem PySem.Spec PyProof.Rows L2
/-! ### tuples of any kind: slices, sums, the reverse of a short one, == () -/
theorem same_newT {H : Hp} {p : Addr} {o : HO} (h : H p = none) : Same H (upd H p o) := fun b u e => by
  rw [upd_ne (ne_of_none e h)]
  exact e
section
variable {prog : Program} {w : World} {A : Around} {E : Value → Shared → Prop} {s : Shared}
theorem adjBack (n : Nat) : Builtin.Slice.sliceAdjust none none (-1) (n : Int) = ((n : Int) - 1, -1) := by
  unfold Builtin.Slice.sliceAdjust
  simp
theorem plBack (n : Nat) : Builtin.Slice.slicePlaces ((n : Int) - 1) (-1) (-1) = n := by
  unfold Builtin.Slice.slicePlaces
  have h1 : ¬ ((-1 : Int) > 0) := by decide
  simp only [h1, if_false]
  split <;> simp_all <;> omega
theorem appBack {sl : Addr} {t : Tok} {n : Nat} {Q : Int × Int × Nat → Shared → Prop} (hs : s.heap.IsSliceOf sl .none .none (.int (-1) t)) (h : Q ((n : Int) - 1, -1, n) s) :
    wpAny (model prog w) A (Builtin.Slice.sliceApplied (.ref sl) (pure (n : Int))) Q E s := by
  obtain ⟨os, hos, hcs, hds⟩ := id hs
  unfold Builtin.Slice.sliceApplied Builtin.Slice.sliceFields
  refine wpAny_bind (wpAny_bind (wpAny_field hos hds (x := .none) rfl (wpAny_bind (wpAny_field hos hds (x := .none) rfl (wpAny_bind (wpAny_field hos hds (x := .int (-1) t) rfl (wpAny_pure ?_)))))))
  refine wpAny_bind (HT.slicePart_ (IsPart.int (-1) t) ?_)
  show wpAny _ _ (if ((-1 : Int) == 0) = true then _ else _) _ _ s
  rw [if_neg (by decide)]
  refine wpAny_bind (HT.slicePart_ IsPart.none (wpAny_bind (HT.slicePart_ IsPart.none (wpAny_bind (wpAny_pure ?_)))))
  show wpAny _ _ (match Builtin.Slice.sliceAdjust none none (-1) (n : Int) with | (lo, hi) => pure (lo, (-1 : Int), Builtin.Slice.slicePlaces lo hi (-1))) _ _ s
  rw [adjBack]
  show wpAny _ _ (pure ((n : Int) - 1, (-1 : Int), Builtin.Slice.slicePlaces ((n : Int) - 1) (-1) (-1))) _ _ s
  rw [plBack]
  exact wpAny_pure h
theorem pickBack (xs : List Value) (h : xs.length ≤ 2) : ((List.range xs.toArray.size).filterMap fun (k : Nat) => xs.toArray[(((xs.toArray.size : Nat) : Int) - 1 + (k : Int) * (-1)).toNat]?).toArray = xs.reverse.toArray := by
  match xs, h with
  | [], _ => rfl
  | [a], _ => rfl
  | [a, b], _ => rfl
theorem getBack {t sl : Addr} {items : List Value} {tk : Tok} {Q : Value → Shared → Prop} (ht : IsTup s.heap t items.toArray) (hs : s.heap.IsSliceOf sl .none .none (.int (-1) tk)) (few : items.length ≤ 2)
    (h : Q (.ref s.heap.objs.size) { s with heap := s.heap.push { cls := .type "tuple", data := .seq items.reverse.toArray } }) : wpAny (model prog w) A (getItem (.ref t) (.ref sl)) Q E s := by
  have fits : sizeOk (.seq items.reverse.toArray) := by
    show items.reverse.toArray.size ≤ sizeLine
    rw [List.size_toArray, List.length_reverse, sizeLine_eq]
    omega
  obtain ⟨os, hos, hcs, hds⟩ := id hs
  have isS : s.TypeIs (.ref sl) "slice" := ⟨os, hos, hcs⟩
  unfold getItem
  try with_reducible refine wpAny_holding ?_
  first | refine wpAny_bind (wpAny_pure ?_) | skip
  refine wpAny_bind (wpAny_sequenceKey ht.typeIs (by decide) ?_)
  refine wpAny_bind (wpAny_callSpecial?_slot (name := Str.ofString "__getitem__") ht.typeIs PyProof.Rows.slot_tuple_getitem (wpAny_call_entry PyProof.Rows.slot_tuple_getitem ht.typeIs entry_tuple_getitem ?_ (args_tuple_getitem _ _)))
  show wpAny _ _ (Builtin.Tuple.tupleItemsOf (.ref t) >>= _) _ _ s
  refine wpAny_bind (tupleItemsOf_ ht (wpAny_bind (wpAny_typeOf isS ?_)))
  rw [if_pos (by decide)]
  refine wpAny_bind (appBack hs ?_)
  have no : ¬ ((((((items.toArray.size : Nat) : Int) - 1) == 0) && ((-1 : Int) == 1) && (items.toArray.size == items.toArray.size)) = true) := by
    rw [show ((-1 : Int) == 1) = false from by decide, Bool.and_false, Bool.false_and]
    exact Bool.false_ne_true
  show wpAny _ _ (if (((((items.toArray.size : Nat) : Int) - 1) == 0) && ((-1 : Int) == 1) && (items.toArray.size == items.toArray.size)) = true then _ else _) _ _ s
  rw [if_neg no, pickBack items few]
  first
    | exact wpAny_bind (m := Builtin.Tuple.tupleExact _) (wpAny_newObj_type (wpAny_pure ⟨_, rfl, wpAny_pure h⟩) fits)
    | exact wpAny_bind (m := Builtin.Tuple.tupleExact _) (wpAny_newObj_type (wpAny_bind (wpAny_pure (wpAny_pure ⟨_, rfl, wpAny_pure h⟩))) fits)
    | exact wpAny_bind (wpAny_bind (m := Builtin.Tuple.tupleExact _) (wpAny_newObj_type (wpAny_pure (wpAny_pure ⟨_, rfl, wpAny_pure h⟩)) fits))
    | exact wpAny_bind (wpAny_bind (m := Builtin.Tuple.tupleExact _) (wpAny_newObj_type (wpAny_pure ⟨_, rfl, wpAny_pure h⟩) fits))
end
section
variable {X : Cx}
def tRevT (te : TE) : TE := fun σ H Q => te σ H fun x H1 => ∃ (a : Addr) (xs : List V), x = .ref a ∧ H1 a = some (.tup xs) ∧ xs.length ≤ 2 ∧ ∀ p, H1 p = none → Q (.ref p) (upd H1 p (.tup xs.reverse))
theorem pe_revT {e : Expr} {te : TE} {k : Nat} {p1 p2 p3 pos : Pos} (he : PE X e te) : PE X (.Subscript e (.Slice none none (some (.UnaryOp .USub (.Constant (.int 1) k p1) p2)) p3) pos) (tRevT te) := by
  refine ⟨fun pins s σ H Q I h => ?_⟩
  refine Subscript_ (thn (he.run pins s σ H _ I h) ?_)
  rintro v s1 ⟨x, H1, I1, r1, a, xs, rfl, hx, few, q⟩
  cases (show v = Value.ref a from r1)
  have hst : PE X (.UnaryOp .USub (.Constant (.int 1) k p1) p2) (tUn (rU fun i => .int (-i)) (tC (.int 1))) := pe_un un_neg pe_int
  refine wpAny_Slice (thn (po_none.run pins s1 σ H1 (fun o G => o = none ∧ G = H1) I1 ⟨rfl, rfl⟩) ?_)
  rintro vl s2 ⟨ol, G2, I2, pl, rfl, rfl⟩
  refine thn (po_none.run pins s2 σ G2 (fun o G => o = none ∧ G = G2) I2 ⟨rfl, rfl⟩) ?_
  rintro vu s3 ⟨ou, G3, I3, pu, rfl, rfl⟩
  cases pl
  cases pu
  rw [evalPart_some]
  refine thn (hst.run pins s3 σ G3 (fun y G => y = .int (-1) ∧ G = G3) I3 ⟨1, rfl, rfl, rfl⟩) ?_
  rintro vs s4 ⟨y, H4, I4, ry, rfl, rfl⟩
  obtain ⟨tk, rfl⟩ := ry
  have I5 : Inv X pins σ H4 { s4 with heap := s4.heap.push { cls := .type "slice", data := .fields #[.none, .none, .int (-1) tk] } } := I4.kept (t' := s4.toks) fun b ob z => Heap.get?_push_of_some _ z
  obtain ⟨its, rv, plain, small⟩ := I5.tuple (SqT.of hx)
  have same := rv.length
  show wpAny (model X.prog X.w) X.A (subscriptTail e (.Slice none none (some (.UnaryOp .USub (.Constant (.int 1) k p1) p2)) p3) (.ref a) (.ref s4.heap.objs.size)) (EP X pins σ Q) X.xe { s4 with heap := s4.heap.push { cls := .type "slice", data := .fields #[.none, .none, .int (-1) tk] } }
  refine tail_any (ops := [.ref a, .ref s4.heap.objs.size]) plain.typeIs (PyProof.Rows.slot_tuple_getitem.lookup) ?_ (by with_unfolding_all rfl)
  refine getBack plain (Heap.IsSliceOf.new _ _ _ _) (by omega) ?_
  refine ⟨.ref _, _, I5.laid (t' := s4.toks) (o := .tup xs.reverse) (fun b ob z => Heap.get?_push_of_some _ z) (Nat.le_refl _) ?_, rfl, q _ (I5.hok.fresh (Nat.le_refl _))⟩
  exact ⟨by rw [List.length_reverse]; exact small, its.reverse, rv.reverse, IsTup.new _ _⟩
/-- a slice of a tuple: some tuple of these items -/
def rSlW : V → Option Int → Option Int → Hp → VK → Prop := fun x lo hi H Q => ∃ (a : Addr) (xs : List V), x = .ref a ∧ H a = some (.tup xs) ∧ ∀ (r : Addr) (H' : Hp), Same H H' → H' r = some (.tup (cutV xs lo hi)) → Q (.ref r) H'
theorem sl_tupW : SlR X rSlW := by
  intro pins s σ H x v vl vu lo hi sl Q I rx hs pl pu h
  obtain ⟨a, xs, rfl, hx, q⟩ := h
  refine sl_tupA pins s σ H _ v vl vu lo hi sl Q I rx hs pl pu ⟨a, xs, rfl, SqT.of hx, fun hw => ?_, fun _ p np => q p _ (same_newT np) upd_same⟩
  refine q a H (Same.refl H) ?_
  unfold cutV
  rw [hw.1, hw.2, List.drop_zero, Nat.sub_zero, List.take_length]
  exact hx
/-- a sum of tuples: some tuple of these items -/
def rCatW : R2 := fun x y H Q => ∃ (a b : Addr) (xs ys : List V), x = .ref a ∧ y = .ref b ∧ H a = some (.tup xs) ∧ H b = some (.tup ys) ∧ xs.length + ys.length ≤ sizeLine ∧ ∀ (r : Addr) (H' : Hp), Same H H' → H' r = some (.tup (xs ++ ys)) → Q (.ref r) H'
theorem op_catW : OpR X (binaryOp .Add) rCatW := by
  intro pins s σ H x y v u Q I rx ry h
  obtain ⟨a, b, xs, ys, rfl, rfl, ha, hb, small, q⟩ := h
  refine op_catA pins s σ H _ _ v u Q I rx ry ⟨a, b, xs, ys, rfl, rfl, SqT.of ha, SqT.of hb, small, fun z => ?_, fun _ z => ?_, fun _ _ p np => q p _ (same_newT np) upd_same⟩
  · subst z
    exact q b H (Same.refl H) hb
  · subst z
    refine q a H (Same.refl H) ?_
    rw [List.append_nil]
    exact ha
/-- t == () -/
theorem op_eqE (hu : X.A.units < cLine) : OpR X (compareOp .Eq) (fun x y H Q => ∃ (a b : Addr) (xs : List V), x = .ref a ∧ y = .ref b ∧ SqT X.K H a xs ∧ H b = some (.tup []) ∧ Q (.bl xs.isEmpty) H) := by
  intro pins s σ H x y v u Q I rx ry h
  obtain ⟨a, b, xs, rfl, rfl, ha, hb, q⟩ := h
  cases (show v = Value.ref a from rx)
  cases (show u = Value.ref b from ry)
  obtain ⟨its, rv, ⟨o, ho, hc, n, hd⟩, _⟩ := I.tuple ha
  obtain ⟨jts, rw', ⟨o2, ho2, hc2, n2, hd2⟩, _⟩ := I.tuple (SqT.of hb)
  cases rw'
  have e : ((List.range (min its.toArray.size ([] : List Value).toArray.size)).all (fun _ => true) && its.toArray.size == ([] : List Value).toArray.size) = xs.isEmpty := by
    have same := rv.length
    cases xs with
    | nil =>
      cases rv
      rfl
    | cons x xs =>
      cases rv with
      | cons _ _ => rfl
  refine SeqAt.eq_tupleAt (e := fun _ => true) ⟨o, ho, hc, n, hd⟩ ⟨o2, ho2, hc2, n2, hd2⟩ hu (fun j _ h2 => absurd h2 (Nat.not_lt_zero j)) ?_
  rw [e]
  exact ⟨.bl _, H, I, rfl, q⟩
/-- repr of any data -/
theorem call_reprA (hs : ∃ o, X.base.get? sysModules = some o) (hg : X.A.guards = some []) (hu : X.A.units + 200 < cLine) :
    CallR X (.builtin "repr") (fun xs H Q => ∃ (v : V) (d : PyData), xs = [v] ∧ Rp H v d ∧ d.showable = true ∧ d.depth ≤ 100 ∧ d.shown.length ≤ sizeLine ∧ Q (.str d.shown) H) := by
  intro pins s σ H xs us Q I r h
  obtain ⟨v, d, rfl, hr, h1, h2, h3, q⟩ := h
  cases hr with
  | non =>
    obtain ⟨u, rfl, r1⟩ := vals1 r
    cases (show u = Value.none from r1)
    exact PySem.P.repr_of_none ⟨.str _, H, I.tok _, ⟨_, rfl⟩, q⟩
  | bl b =>
    obtain ⟨u, rfl, r1⟩ := vals1 r
    cases (show u = Value.bool b from r1)
    exact PySem.P.repr_of_bool ⟨.str _, H, I.tok _, ⟨_, rfl⟩, q⟩
  | int i =>
    obtain ⟨u, rfl, t, rfl⟩ := vals1 r
    exact PySem.P.repr_of_int (of_decide_eq_true h1) ⟨.str _, H, I.tok _, ⟨_, rfl⟩, q⟩
  | str x =>
    obtain ⟨u, rfl, t, rfl⟩ := vals1 r
    exact PySem.P.repr_of_str ⟨.str _, H, I.tok _, ⟨_, rfl⟩, q⟩ h3
  | lst e z => exact call_repr hs hg hu pins s σ H _ us Q I r ⟨_, _, rfl, .lst e z, h1, h2, h3, q⟩
  | tup e z => exact call_repr hs hg hu pins s σ H _ us Q I r ⟨_, _, rfl, .tup e z, h1, h2, h3, q⟩
  | ftp e z => exact call_repr hs hg hu pins s σ H _ us Q I r ⟨_, _, rfl, .ftp e z, h1, h2, h3, q⟩
  | dct e z => exact call_repr hs hg hu pins s σ H _ us Q I r ⟨_, _, rfl, .dct e z, h1, h2, h3, q⟩
end
/-! ### kinds -/
def tyD : PyData → String
  | .none => "NoneType"
  | .bool _ => "bool"
  | .int _ => "int"
  | .str _ => "str"
  | .list _ => "list"
  | .tuple _ => "tuple"
  | .dict _ => "dict"
theorem Rp.ty {K : PySem.W.Frag} {H : Hp} {v : V} {d : PyData} (h : Rp H v d) : TyX K H v (.type (tyD d)) := by
  cases h with
  | non => exact .base .non
  | bl b => exact .base (.bl b)
  | int i => exact .base (.int i)
  | str x => exact .base (.str x)
  | lst e _ => exact .base (.lst e)
  | tup e _ => exact .base (.tup e)
  | ftp e _ => exact .fTuple e
  | dct e _ => exact .base (.dK e)
theorem kInt {K : PySem.W.Frag} (d : PyData) : PySem.W.kitOne K (.type (tyD d)) (.type "int") = some (match d with | .int _ => true | .bool _ => true | _ => false) := by
  cases d with
  | none => exact kit_ty (show kitB "NoneType" "int" = some false by decide +kernel)
  | bool _ => exact kit_ty (show kitB "bool" "int" = some true by decide +kernel)
  | int _ => exact kit_ty (show kitB "int" "int" = some true by decide +kernel)
  | str _ => exact kit_ty (show kitB "str" "int" = some false by decide +kernel)
  | list _ => exact kit_ty (show kitB "list" "int" = some false by decide +kernel)
  | tuple _ => exact kit_ty (show kitB "tuple" "int" = some false by decide +kernel)
  | dict _ => exact kit_ty (show kitB "dict" "int" = some false by decide +kernel)
theorem kBool {K : PySem.W.Frag} (d : PyData) : PySem.W.kitOne K (.type (tyD d)) (.type "bool") = some (match d with | .bool _ => true | _ => false) := by
  cases d with
  | none => exact kit_ty (show kitB "NoneType" "bool" = some false by decide +kernel)
  | bool _ => exact kit_ty (show kitB "bool" "bool" = some true by decide +kernel)
  | int _ => exact kit_ty (show kitB "int" "bool" = some false by decide +kernel)
  | str _ => exact kit_ty (show kitB "str" "bool" = some false by decide +kernel)
  | list _ => exact kit_ty (show kitB "list" "bool" = some false by decide +kernel)
  | tuple _ => exact kit_ty (show kitB "tuple" "bool" = some false by decide +kernel)
  | dict _ => exact kit_ty (show kitB "dict" "bool" = some false by decide +kernel)
theorem kTup {K : PySem.W.Frag} (d : PyData) : PySem.W.kitOne K (.type (tyD d)) (.type "tuple") = some (match d with | .tuple _ => true | _ => false) := by
  cases d with
  | none => exact kit_ty (show kitB "NoneType" "tuple" = some false by decide +kernel)
  | bool _ => exact kit_ty (show kitB "bool" "tuple" = some false by decide +kernel)
  | int _ => exact kit_ty (show kitB "int" "tuple" = some false by decide +kernel)
  | str _ => exact kit_ty (show kitB "str" "tuple" = some false by decide +kernel)
  | list _ => exact kit_ty (show kitB "list" "tuple" = some false by decide +kernel)
  | tuple _ => exact kit_ty (show kitB "tuple" "tuple" = some true by decide +kernel)
  | dict _ => exact kit_ty (show kitB "dict" "tuple" = some false by decide +kernel)
end Lf
namespace Lf
open PySem PySem.Spec PyProof.Rows L2
/-! ### the first error: plain mathematics -/
def isInt : PyData → Bool
  | .int _ => true
  | _ => false
def isV (n : Nat) : PyData → Bool
  | .int i => decide (0 ≤ i) && decide (i < n)
  | _ => false
def unD : PyData → Nat
  | .int i => i.toNat
  | _ => 0
def it (fs : List Nat) : Nat → Nat → Nat
  | 0, v => v
  | k + 1, v => par fs (it fs k v)
def lead (fs : List Nat) (k v : Nat) : Bool := decide (par fs (it fs k v) = it fs k v)
def bad (ds : List PyData) (k : Nat) : Bool := !isV ds.length (ds.getD k .none)
def cyc (fs : List Nat) (v : Nat) : Bool := !lead fs fs.length v
def errD : PyData → PyData
  | .tuple ds => if ds.length = 0 ∨ 24 < ds.length then .tuple [.none, .str "length"] else
      match (List.range ds.length).find? (bad ds) with
      | some k => .tuple [.int (k : Nat), .str "parent"]
      | none => match (List.range ds.length).find? (cyc (ds.map unD)) with
        | some v => .tuple [.int (v : Nat), .str "cycle"]
        | none => .none
  | _ => .tuple [.none, .str "tuple"]
theorem find_first {p : Nat → Bool} {n i : Nat} (hi : i < n) (hp : p i = true) (h : ∀ j, j < i → p j = false) : (List.range n).find? p = some i := by
  rw [List.find?_range_eq_some]
  exact ⟨hp, List.mem_range.mpr hi, fun j hj => by rw [h j hj]; rfl⟩
theorem find_none {p : Nat → Bool} {n : Nat} (h : ∀ j, j < n → p j = false) : (List.range n).find? p = none := by
  rw [List.find?_eq_none]
  intro x hx
  rw [h x (List.mem_range.mp hx)]
  exact Bool.false_ne_true
theorem filter_find {p : Nat → Bool} {n : Nat} : ((List.range n).filter p)[0]? = (List.range n).find? p := by
  rw [← List.head?_filter, List.head?_eq_getElem?]
/-- steps taken the other way round -/
theorem it_par (fs : List Nat) (v : Nat) : ∀ k, it fs k (par fs v) = it fs (k + 1) v
  | 0 => rfl
  | k + 1 => by
    show par fs (it fs k (par fs v)) = par fs (it fs (k + 1) v)
    rw [it_par fs v k]
theorem lead_succ {fs : List Nat} {k v : Nat} : lead fs (k + 1) v = (lead fs k v || lead fs k (par fs v)) := by
  unfold lead
  rw [it_par]
  by_cases h : par fs (it fs k v) = it fs k v
  · have e : it fs (k + 1) v = it fs k v := h
    rw [e, decide_eq_true h]
    rfl
  · rw [decide_eq_false h]
    rfl
theorem it_lt {fs : List Nat} (rng : ∀ v, v < fs.length → par fs v < fs.length) {v : Nat} (h : v < fs.length) : ∀ k, it fs k v < fs.length
  | 0 => h
  | k + 1 => rng _ (it_lt rng h k)
end Lf
namespace Lf
open PySem PySem.Spec PyProof.Rows L2

/-! ### own errors as values -/
/-- C(e), C's own __init__ keeping its one argument under the name f -/
def spInit (K : PySem.W.Frag) (C : Addr) (f : Str) : Sp := fun vs H Q _ => ∃ (a : Addr) (v : V), vs = [.ref a, v] ∧ H a = some (exo a C none) ∧
  ∀ dx, H dx = none → dx ≠ a → Q .non (upd (upd H dx (exd dx [(f, v)])) a (exo a C (some dx)))
/-- what the class C must say, so that isinstance asks its instances rightly, and their fields are read -/
structure ExK (K : PySem.W.Frag) (C : Addr) : Prop where
  cl : (PySem.W.clsIn K C).isSome = true
  ga : PySem.W.findIn K (.ref C) "__getattribute__" = some (some (.builtin "BaseException.__getattribute__"))
  gg : PySem.W.findIn K (.ref C) "__getattr__" = some none
  sb : PySem.W.subIn K (.ref C) (.type "BaseException") = some true
  ca : PySem.W.findIn K (.ref C) "__class__" = some (some (.builtin "object.__class__"))
  cg : PySem.W.specialIn K (.builtin "object.__class__") "__get__" = some (some (.builtin "getset_descriptor.__get__"))
  ct : PySem.W.takesIn K (.builtin "object.__class__") = some true
  cm : PySem.W.mroIn K C (.type "object") = some true
  hd : PySem.W.hasDictIn K C = true
/-- an error of the class at C stands at a -/
def IsEx (H : Hp) (a C : Addr) : Prop := H a = some (exo a C none) ∨ ∃ (d : Addr) (fs : List (Str × V)), H a = some (exo a C (some d)) ∧ H d = some (exd d fs)
theorem IsEx.mono {H H' : Hp} {a C : Addr} (k : ∀ b o, H b = some o → H' b = some o) : IsEx H a C → IsEx H' a C
  | .inl h => .inl (k _ _ h)
  | .inr ⟨d, fs, h1, h2⟩ => .inr ⟨d, fs, k _ _ h1, k _ _ h2⟩
def rIsx (K : PySem.W.Frag) : List V → Hp → VK → Prop := fun xs H Q => ∃ (a C : Addr) (c : V) (u : Value) (b : Bool), xs = [.ref a, c] ∧ IsEx H a C ∧ ClsV c u ∧ ExK K C ∧ PySem.W.kitOne K (.ref C) u = some b ∧ Q (.bl b) H
section
variable {X : Cx} {x : Str} {p pos : Pos} {e : Expr} {te : TE}
/-- C(), an own error class without own __init__ -/
theorem pe_exc0 {C : Addr} {bmB : List Value} {B newId initId : String} (FB : ExcBaseFacts B newId initId bmB) (ex : PySem.W.excIn X.K C bmB newId = true) (gC : X.mg x = some (.ref C)) (kC : PySem.W.keepIn X.K (.ref C) = true) (hg : Gl X x)
    (hdb : (x == ("__debug__" : Str)) = false := by decide) :
    PE X (.Call (.Name x p) [] [] pos) (fun σ H Q => ∀ a, H a = none → Q (.ref a) (upd H a (exo a C none))) := by
  refine ⟨fun pins s σ H Q I h => ?_⟩
  refine wpAny_Call_Name_kw (ld_glob I hg gC ?_ hdb)
  apply PySem.W.callWith_K0 I.kIn kC
  obtain ⟨bm, N, nm, qn, bs, hdct, sn, sub, ab, col, dd, k0, k1, k2, k3, k5, mN, hC, hN, hni, tail⟩ := exc_obj I.kIn ex
  show wpAny _ _ (call (.ref C) []) _ _ _
  refine wpAny_call_exc_subT FB tail hC hN hni ?_ (by show 0 ≤ sizeLine; omega)
  intro h' a made
  have new : H a = none := I.hok.gone made.new
  obtain ⟨t, there, _, _⟩ := made.there
  exact ⟨.ref a, _, I.laidN made.keeps made.new new (exo_ok there), rfl, h a new⟩
/-- C(e): the new error and its own dict -/
theorem pe_excF {C fI : Addr} {k : Nat} {fd : FuncData} {f : Str} (T : OexC X.K C) (iC : PySem.W.findIn X.K (.ref C) "__init__" = some (some (.ref fI))) (tI : PySem.W.typeIn X.K (.ref fI) = some (.type "function"))
    (F1 : FnOk X.prog X.w X.K X.mg X.base CX0 k fI fd ["self", f] (spInit X.K C f)) (room : Room (k + 1) X.A) (hb : Binds X.K fd ["self", f] []) (hg : Gl X x) (hm : X.mg x = some (.ref C)) (he : PE X e te)
    (hdb : (x == ("__debug__" : Str)) = false := by decide) (hst : starEach [e] X.env = (false, eval e X.env) :: starEach [] X.env := by rfl) :
    PE X (.Call (.Name x p) [e] [] pos) (fun σ H Q => te σ H fun v H1 => ∀ a d, H1 a = none → H1 d = none → a ≠ d → Q (.ref a) (upd (upd H1 d (exd d [(f, v)])) a (exo a C (some d)))) := by
  refine ⟨fun pins s σ H Q I h => ?_⟩
  obtain ⟨nm, q, N, bs, bm, sn, sub, ab, col, dd, k0, k1, k2, k3, k5, hC, hbm⟩ := T.cls
  refine wpAny_Call_Name_kw (ld_glob I hg hm ?_ hdb)
  refine PySem.W.callWith_K (h₀ := X.base) I.ok.mod.kin T.kC ?_ hst (by rfl)
  rw [hst]
  show wpAny _ _ (spliced ((false, eval e X.env) :: backTo pos (starEach [] X.env))) _ _ s
  refine Calls.spliced_cons (thn (he.run pins s σ H _ I h) ?_)
  rintro u s1 ⟨v, H1, I1, r1, q1⟩
  refine Calls.spliced_nil ⟨I1.kIn, ?_⟩
  show wpAny _ _ (call (.ref C) [u]) _ _ _
  obtain ⟨hp, g, dr, tk, os⟩ := s1
  let a := hp.objs.size + 1
  let hp2 := (hp.push (PySem.W.kdv_tup [u])).push (PySem.HandSPX.excO C hp.objs.size)
  have up : hp.objs.size ≤ a := Nat.le_succ _
  have na : H1 a = none := I1.hok.fresh up
  have kept : ∀ b o, hp.get? b = some o → hp2.get? b = some o := fun b o z => Heap.get?_push_of_some _ (Heap.get?_push_of_some _ z)
  have there : hp2.get? a = some (PySem.HandSPX.excO C hp.objs.size) := by
    show ((hp.push (PySem.W.kdv_tup [u])).push (PySem.HandSPX.excO C hp.objs.size)).get? (hp.objs.size + 1) = _
    heap_get
  have I2 : Inv X pins σ (upd H1 a (exo a C none)) ⟨hp2, g, dr, tk, os⟩ := I1.laid (t' := tk) kept up (exo_ok there)
  have want : spInit X.K C f [.ref a, v] (upd H1 a (exo a C none)) (fun y H2 => y = .non ∧ ∃ d, H1 d = none ∧ a ≠ d ∧ H2 = upd (upd H1 d (exd d [(f, v)])) a (exo a C (some d))) (fun _ _ _ => False) := by
    refine ⟨a, v, rfl, upd_same, fun d hd hda => ⟨rfl, d, ?_, fun z => hda z.symm, ?_⟩⟩
    · rw [upd_ne hda] at hd
      exact hd
    · funext b
      by_cases h1 : b = a
      · rw [h1, upd_same, upd_same]
      · rw [upd_ne h1, upd_ne h1]
        by_cases h2 : b = d
        · rw [h2, upd_same, upd_same]
        · rw [upd_ne h2, upd_ne h2, upd_ne h1]
  have pairs : Vals [V.ref a, v] [Value.ref a, u] := .cons rfl (.cons r1 .nil)
  refine wpAny_call (PySem.HandSPX.call_own F.excBase_ValueError (fun Y => PySem.HandSPX.refsVE_contains Y bm hbm) (I1.kIn _ _ hC) (PySem.W.looks_findIn I1.kIn iC) (fun self => PySem.W.bind_fn I1.kIn self tI) (by show 1 ≤ sizeLine; rw [sizeLine_eq]; omega) ?_)
  have run := F1.run _ X.stack _ _ ⟨[Value.ref a, u], []⟩ [Value.ref a, u] _ _ (fun _ _ _ => False) (room.make C [u] []) (I2.env0.make C [u] []) (hb _ [Value.ref a, u] I2.kIn rfl) pairs want
  refine codeAny_mono run ?_
  intro r s' got
  cases r with
  | error er => exact False.elim got
  | ok fl =>
    cases fl with
    | next => exact False.elim got
    | brk => exact False.elim got
    | cont => exact False.elim got
    | ret y =>
      obtain ⟨yv, H2, hos, bare, un, held, ry, rfl, d, hd, had, rfl⟩ := got
      have U : Un (frs X.stack) [] H1 (upd (upd H1 d (exd d [(f, v)])) a (exo a C (some d))) hp s'.heap := (Un.laid kept up na).trans un
      refine ⟨ry, ⟨.ref a, _, I1.call' (ch := []) hos U held bare (fun b z => nomatch z), rfl, q1 a d na hd had⟩⟩
/-- isinstance(e, c), e an own error -/
theorem call_isx : CallR X (.builtin "isinstance") (rIsx X.K) := by
  intro pins s σ H xs us Q I r h
  obtain ⟨a, C, c, u, b, rfl, hx, hc, T, ek, q⟩ := h
  obtain ⟨u1, u2, rfl, r1, r2⟩ := vals2 r
  cases (show u1 = Value.ref a from r1)
  have e2 := hc.eq r2
  subst e2
  rcases hx with hx | ⟨d, fs, hx, hd⟩
  · obtain ⟨t1, ho⟩ := exo_at I.hok hx
    exact PySem.W.kia_one (PySem.W.kitx_exc (ox := { cls := .ref C, dict := none, data := .fields #[.ref t1, .none, .none, .none, .bool false, .none] }) (od := none) T.cl T.ga T.gg T.sb T.ca T.cg T.ct T.cm) I.kIn ⟨ho, rfl, rfl, trivial⟩ ek (fun z => nomatch z)
      fun tk => ⟨.bl b, H, I.tok tk, rfl, q⟩
  · obtain ⟨t1, ho⟩ := exo_at I.hok hx
    obtain ⟨mA, ⟨od, es, ep, hod, _⟩, _⟩ := exd_at I.hok hd
    exact PySem.W.kia_one (PySem.W.kitx_exc (ox := { cls := .ref C, dict := some d, data := .fields #[.ref t1, .none, .none, .none, .bool false, .none] }) (od := some od) T.cl T.ga T.gg T.sb T.ca T.cg T.ct T.cm) I.kIn ⟨ho, rfl, rfl, hod⟩ ek (fun z => nomatch z)
      fun tk => ⟨.bl b, H, I.tok tk, rfl, q⟩
/-- e.f, e an own error -/
theorem pe_exf {C : Addr} {f : Str} (T : ExK X.K C) (hno : PySem.W.findIn X.K (.ref C) f = some none) (he : PE X e te) (hb : attributeBase e f X.env (eval e X.env) = eval e X.env := by rfl) :
    PE X (.Attribute e f pos) (fun σ H Q => te σ H fun y H1 => ∃ (a d : Addr) (v : V), y = .ref a ∧ H1 a = some (exo a C (some d)) ∧ H1 d = some (exd d [(f, v)]) ∧ Q v H1) := by
  refine ⟨fun pins s σ H Q I h => ?_⟩
  refine attr_of hb (thn (he.run pins s σ H _ I h) ?_)
  rintro u s1 ⟨y, H1, I1, ry, a, d, v, rfl, ha, hd, q⟩
  cases (show u = Value.ref a from ry)
  obtain ⟨t1, ho⟩ := exo_at I1.hok ha
  obtain ⟨mA, hns, rel⟩ := exd_at I1.hok hd
  obtain ⟨od, hod, hl⟩ := lookIn_ns hns
  have lk : List.lookup f [(f, v)] = some v := by simp [List.lookup]
  obtain ⟨w, hw, rw'⟩ := RelO.some_of (v := v) (o := mA f) (by rw [← lk]; exact rel f)
  have J : PySem.W.InstAt s1.heap a { cls := .ref C, dict := some d, data := .fields #[.ref t1, .none, .none, .none, .bool false, .none] } C (some od) := ⟨ho, rfl, rfl, hod⟩
  exact HandSPX.exc_get I1.kIn J T.ga T.gg T.sb (PySem.W.findObj_own T.hd hno rfl (by rw [hl, hw])) (handed_of rw') ⟨v, H1, I1.tok _, rw', q⟩
end
/-- def __init__(self, f): self.f = f -/
theorem ok_init {P : Program} {w : World} {K : PySem.W.Frag} {mg : Str → Option Value} {base : Heap} {C fI : Addr} {fd : FuncData} {f qual : Str} {st : Stmt} (Fn : Fun K "__init__" qual st fI fd) (Sc : FnScope ["self", f] ["self", f] (defScope st)) (T : OexC K C) (hno : PySem.W.findIn K (.ref C) f = some none)
    (body : ∃ q1 q2 q3 q4, defBody st = [.Assign [.Attribute (.Name "self" q1) f q2] (.Name f q3) q4]) (v0 : Vis (defScope st) "self") (v1 : Vis (defScope st) f) (d1 : (f == Str.ofString "__debug__") = false) (d2 : (f == Str.ofString "__classdict__") = false) :
    FnOk P w K mg base CX0 1 fI fd ["self", f] (spInit K C f) := by
  refine Fn.ok Sc (fun vs H Q E h => ?_) (fun cdv A outer s H vs Q E hr h => ?_)
  · obtain ⟨a, v, rfl, _⟩ := h
    rfl
  · obtain ⟨a, v, rfl, ha, q⟩ := h
    obtain ⟨q1, q2, q3, q4, eb⟩ := body
    rw [eb]
    refine ⟨_, pss_one (ps_ost (pe_var (i := 0) rfl v0) (pe_var (i := 1) rfl v1 (hd := d1) (hcd := d2))), ?_⟩
    exact ⟨v, rfl, .ref a, rfl, a, C, rfl, T, hno, .inl ⟨ha, fun dx hd hne => q dx hd hne⟩⟩
end Lf
namespace Lf
open PySem PySem.Spec PyProof.Rows L2
/-! ### own errors with one field, raised and caught -/
section
variable {X : Cx}
theorem inst_caught {a D dd : Addr} {oe : Obj} {pn pins : List (Addr × Obj)} {σ : L2.St} {H : Hp} {s : Shared} {fs : List (Str × V)} (I : Inv (X.suite a ((a, oe) :: pn)) pins σ H s) (hz : Zc (.ref D) (some dd) oe) (hf : ∃ vs, oe.data = .fields vs) (hd : H dd = some (.xd fs)) :
    ∃ od, PySem.W.InstAt s.heap a oe D (some od) := by
  obtain ⟨ha, _⟩ := I.pin (a, oe) (List.mem_append_left _ List.mem_cons_self)
  obtain ⟨vs, hv⟩ := hf
  have hx : ObjOk X.prog X.w H s.heap dd (.xd fs) := I.hok dd _ hd
  obtain ⟨mA, hns, hr⟩ := hx
  obtain ⟨od, ho, hl⟩ := lookIn_ns hns
  exact ⟨od, ha, hz.1, by unfold PySem.W.notCls; rw [hv] <;> rfl, by rw [hz.2]; exact ho⟩
/-- isinstance(e, c), e the error that the suite holds, with its dict -/
def rIsD (K : PySem.W.Frag) (D a : Addr) (cls : Value) (d : Option Addr) : List V → Hp → VK → Prop := fun xs H Q => ∃ (c : V) (cv : Value) (b : Bool) (dd : Addr) (fs : List (Str × V)), xs = [.ref a, c] ∧ cls = .ref D ∧ d = some dd ∧ H dd = some (.xd fs) ∧ ClsV c cv ∧ PySem.W.kitOne K (.ref D) cv = some b ∧ Q (.bl b) H
theorem call_isD {a D : Addr} {cls : Value} {d : Option Addr} {oe : Obj} {pn : List (Addr × Obj)} (T : ExK X.K D) (hz : Zc cls d oe) (hf : ∃ vs, oe.data = .fields vs) : CallR (X.suite a ((a, oe) :: pn)) (.builtin "isinstance") (rIsD X.K D a cls d) := by
  intro pins s σ H xs us Q I r h
  obtain ⟨c, cv, b, dd, fs, rfl, rfl, rfl, hd, hc, ek, q⟩ := h
  obtain ⟨u1, u2, rfl, r1, r2⟩ := vals2 r
  cases (show u1 = Value.ref a from r1)
  have e2 := hc.eq r2
  subst e2
  obtain ⟨od, J⟩ := inst_caught I hz hf hd
  exact PySem.W.kia_one (PySem.W.kitx_exc T.cl T.ga T.gg T.sb T.ca T.cg T.ct T.cm) I.kIn J ek (fun z => nomatch z) fun tk => ⟨.bl b, H, I.kept (t' := tk) fun _ _ z => z, rfl, q⟩
/-- isinstance(e, (c1, c2, ..)) -/
def rIsDT (K : PySem.W.Frag) (D a : Addr) (cls : Value) (d : Option Addr) : List V → Hp → VK → Prop := fun xs H Q => ∃ (t : Addr) (cs : List V) (b : Bool) (dd : Addr) (fs : List (Str × V)), xs = [.ref a, .ref t] ∧ cls = .ref D ∧ d = some dd ∧ H dd = some (.xd fs) ∧ H t = some (.tup cs) ∧ (∀ its, Vals cs its → PySem.W.kitAny K (.ref D) its = some b) ∧ Q (.bl b) H
theorem call_isDT {a D : Addr} {cls : Value} {d : Option Addr} {oe : Obj} {pn : List (Addr × Obj)} (T : ExK X.K D) (hz : Zc cls d oe) (hf : ∃ vs, oe.data = .fields vs) : CallR (X.suite a ((a, oe) :: pn)) (.builtin "isinstance") (rIsDT X.K D a cls d) := by
  intro pins s σ H xs us Q I r h
  obtain ⟨t, cs, b, dd, fs, rfl, rfl, rfl, hd, ht, ek, q⟩ := h
  obtain ⟨u1, u2, rfl, r1, r2⟩ := vals2 r
  cases (show u1 = Value.ref a from r1)
  cases (show u2 = Value.ref t from r2)
  obtain ⟨od, J⟩ := inst_caught I hz hf hd
  obtain ⟨its, rv, ⟨⟨oc, odd, oda, osl⟩, ho, hc, n, hd'⟩, _⟩ := I.tuple (SqT.of ht)
  dsimp only at hc hd'
  subst hc hd'
  exact PySem.W.kia_tup (PySem.W.kitx_exc T.cl T.ga T.gg T.sb T.ca T.cg T.ct T.cm) I.kIn J ho (ek its rv) (fun z => nomatch z) fun tk => ⟨.bl b, H, I.kept (t' := tk) fun _ _ z => z, rfl, q⟩
/-- what raise C(v) leaves: some heap that keeps all, with the error's dict -/
theorem made_out {H H1 : Hp} {C : Addr} {f : Str} {v : V} {Q : XK} (sm : Same H H1) (q : ∀ (d : Addr) (H' : Hp), Same H H' → H d = none → H' d = some (.xd [(f, v)]) → Q (.ref C) (some d) H') (a : Addr) (na : H1 a = none) (d : Addr) (nd : (upd H1 a (exo a C none)) d = none) (ne : d ≠ a) :
    ∃ (d' : Addr) (fs : List (Str × V)), (upd (upd (upd H1 a (exo a C none)) d (exd d [(f, v)])) a (exo a C (some d))) a = some (exo a C (some d')) ∧ (upd (upd (upd H1 a (exo a C none)) d (exd d [(f, v)])) a (exo a C (some d))) d' = some (exd d' fs) ∧ H1 d' = none ∧
      Q (.ref C) (some d') (upd (del (upd (upd (upd H1 a (exo a C none)) d (exd d [(f, v)])) a (exo a C (some d))) a) d' (.xd fs)) := by
  have nd1 : H1 d = none := by
    rw [upd_ne ne] at nd
    exact nd
  refine ⟨d, [(f, v)], upd_same, by rw [upd_ne ne, upd_same], nd1, q d _ (fun b o e => ?_) (sm.free nd1) upd_same⟩
  have e1 := sm _ _ e
  have b1 : b ≠ a := ne_of_none e1 na
  have b2 : b ≠ d := ne_of_none e1 nd1
  rw [upd_ne b2, del_ne b1, upd_ne b1, upd_ne b2, upd_ne b1]
  exact e1
end
end Lf
namespace Lf
open PySem PySem.Spec PyProof.Rows L2
theorem flatNv : ∀ l : List Nat, (nv l).all flatV = true
  | [] => rfl
  | _ :: l => flatNv l
section
variable {X : Cx}
/-- xs[i] read ahead of xs[i] += e, i a place of the list -/
theorem get_listN : PGet X (fun x y H Q => ∃ (p : Addr) (xs : List V) (i : Nat) (v : V), x = .ref p ∧ y = .int (i : Nat) ∧ SqL X.K H p xs ∧ xs[i]? = some v ∧ Q v H) := by
  intro pins s σ H o i ov iv Q I ro ri h
  obtain ⟨p, xs, k, v, rfl, rfl, hq, hv, q⟩ := h
  cases (show ov = Value.ref p from ro)
  obtain ⟨t, rfl⟩ := ri
  obtain ⟨its, rv, plain, small⟩ := I.list hq
  obtain ⟨u, hu, ru⟩ := rv.get hv
  have same := rv.length
  have kl : k < its.length := by
    rcases Nat.lt_or_ge k its.length with z | z
    · exact z
    · rw [List.getElem?_eq_none z] at hu
      cases hu
  rw [sizeLine_eq] at small
  exact wpAny_getItem_list plain.isList (by omega) (by omega) (by simpa using hu) ⟨v, H, I, ru, q⟩
/-- t.index(x), a number's first place -/
theorem mt_tup_indexN : MtR X "tuple.index" (fun x xs H Q => ∃ (p : Addr) (ys : List Nat) (z j : Nat), x = .ref p ∧ xs = [.int (z : Nat)] ∧ SqT X.K H p (nv ys) ∧ ys[j]? = some z ∧ (∀ m, m < j → ys[m]? ≠ some z) ∧ Q (.int (j : Nat)) H) := by
  intro pins s σ H x xs v us Q I rx rs h
  obtain ⟨p, ys, z, j, rfl, rfl, hq, hy, hno, q⟩ := h
  cases (show v = Value.ref p from rx)
  obtain ⟨u, rfl, t, rfl⟩ := vals1 rs
  obtain ⟨its, rv, plain, small⟩ := I.tuple hq
  obtain ⟨⟨cls, dd, dt, sl⟩, ho, hc, n, hd⟩ := plain
  simp only at hc hd
  subst hc hd
  have size : its.toArray.size = ys.length := by rw [List.size_toArray, ← rv.length, nv_length]
  have hj : j < its.toArray.size := by
    rw [size]
    exact (List.getElem?_eq_some_iff.mp hy).1
  have place : ∀ (m : Nat) (hm : m < its.toArray.size), ∃ (y : Nat) (t' : Tok), ys[m]? = some y ∧ its.toArray[m] = Value.int (y : Nat) t' := by
    intro m hm
    have hm' : m < ys.length := by
      rw [← size]
      exact hm
    obtain ⟨w, hw, t', hw'⟩ := rv.get (i := m) (x := .int ((ys.getD m 0 : Nat) : Int)) (nv_get hm')
    refine ⟨ys.getD m 0, t', ?_, ?_⟩
    · rw [List.getD_eq_getElem?_getD, List.getElem?_eq_getElem hm']
      rfl
    · have e := (List.getElem?_eq_some_iff.mp hw).2
      rw [← hw', ← e]
      simp
  refine call_meets PySem.F.slot_tuple_index ⟨_, ho, rfl⟩ PySem.F.entry_tuple_index (PySem.F.args_tuple_index_2 _ _) (TI.tuple_indexAt p its.toArray n dd sl (.int (z : Nat) t) (eqU (.int (z : Nat))) j hj ?_ ?_)
    ⟨ho, fun w hw => mem_eqAt (x := .int (z : Nat)) ⟨t, rfl⟩ rfl rv (flatNv ys) w (by simpa using hw), ⟨.int (j : Nat), H, I.tok _, ⟨_, rfl⟩, q⟩⟩
  · obtain ⟨y, t', h1, h2⟩ := place j hj
    rw [hy] at h1
    cases h1
    rw [h2]
    show (((z : Nat) : Int) == ((z : Nat) : Int)) = true
    exact beq_self_eq_true _
  · intro m hm hmj
    obtain ⟨y, t', h1, h2⟩ := place m hm
    rw [h2]
    show (((y : Nat) : Int) == ((z : Nat) : Int)) = false
    refine beq_eq_false_iff_ne.mpr fun e => hno m hmj ?_
    rw [h1]
    have : y = z := by omega
    rw [this]
/-- tuple(a list), the new tuple known to the object -/
theorem call_tupleF : CallR X (.type "tuple") (fun xs H Q => ∃ (p : Addr) (ys : List V), xs = [.ref p] ∧ SqL X.K H p ys ∧ ∀ (l : Addr) (o : Obj), H l = none → o.cls = .type "tuple" → o.dict = none → Q (.ref l) (upd H l (.frz o (.tup ys)))) := by
  intro pins s σ H xs us Q I r h
  obtain ⟨p, ys, rfl, hq, q⟩ := h
  obtain ⟨u, rfl, rx⟩ := vals1 r
  cases (show u = Value.ref p from rx)
  obtain ⟨its, rv, plain, small⟩ := I.list hq
  have same := rv.length
  refine call_tuple_list plain.isList ?_ (by simp only [List.size_toArray] <;> omega)
  intro h1 kept
  have I1 : Inv X pins σ H { s with heap := h1 } := I.kept (t' := s.toks) kept
  have at1 : (h1.push { cls := .type "tuple", data := .seq its.toArray }).get? h1.objs.size = some { cls := .type "tuple", data := .seq its.toArray } := Heap.get?_push_size _ rfl
  refine ⟨.ref h1.objs.size, _, I1.laid (t' := s.toks) (o := .frz { cls := .type "tuple", data := .seq its.toArray } (.tup ys)) (fun b o z => Heap.get?_push_of_some _ z) (Nat.le_refl _) ?_, rfl, q _ _ (I1.hok.fresh (Nat.le_refl _)) rfl rfl⟩
  exact ⟨at1, small, its, rv, IsTup.new _ _⟩
/-- the call of a method of such a tuple -/
def tTM (r : V → List V → Hp → VK → Prop) (to : TE) (t : TA) : TE := fun σ H Q => to σ H fun x H1 => (∃ (p : Addr) (o : Obj) (xs : List V), x = .ref p ∧ H1 p = some (.frz o (.tup xs)) ∧ o.cls = .type "tuple" ∧ o.dict = none) ∧ t σ H1 fun ys H2 => r x ys H2 Q
theorem pe_tm {o e : Expr} {to : TE} {t : TA} {name : Str} {apos cpos : Pos} {id : String} {r : V → List V → Hp → VK → Prop} (pa : PlainAttrs "tuple") (slot : Slot "tuple" name id) (hty : typeOf (.builtin id) = pure (.type "method_descriptor")) (hm : MtR X id r) (ho : PE X o to) (ha : PA X [e] t)
    (hbase : attributeBase o name X.env (eval o X.env) = eval o X.env := by rfl)
    (hfew : ((backTo cpos (starEach [e] X.env)).all (fun x => !x.1) && (backToKw cpos (keywordEach [] X.env)).all (fun x => x.1.isSome) && decide ([e].length + ([] : List Keyword).length + (if ([] : List Keyword).isEmpty then 0 else 1) < 30)) = true := by rfl)
    (hline : (apos.endLine == cpos.line) = true := by rfl) (hs : starEach [e] X.env = (false, eval e X.env) :: starEach [] X.env := by rfl) :
    PE X (.Call (.Attribute o name apos) [e] [] cpos) (tTM r to t) := by
  refine ⟨fun pins s σ H Q I h => ?_⟩
  refine wpAny_Call_method_late hbase hfew hline rfl (thn (ho.run pins s σ H _ I h) ?_)
  rintro v s1 ⟨x, H1, I1, r1, ⟨p, ob, xs, rfl, hp, hc, hd⟩, q1⟩
  cases (show v = Value.ref p from r1)
  have at1 : s1.heap.get? p = some ob := (I1.hok p _ hp).1
  refine ⟨"tuple", id, pa, slot, hty, ⟨ob, at1, hc⟩, ?_, ?_⟩
  · intro b z
    cases z
    exact ⟨ob, at1, hd⟩
  · have args := ha.run cpos pins s1 σ H1 _ I1 q1
    rw [hs] at args ⊢
    refine Calls.callWith_builtin (by rfl) (Calls.evalArgs_plain (thn args ?_))
    rintro us s2 ⟨vs, H2, I2, r2, q2⟩
    exact hm pins s2 σ H2 (.ref p) vs (.ref p) us Q I2 rfl r2 q2
end
end Lf
namespace Lf
open PySem PySem.Spec PyProof.Rows L2
/-! ### the drawing well: a list of great numbers at l and a state below 2 ^ 64, both in the list at w -/
def Well (w l : Addr) (H : Hp) : Prop := w ≠ l ∧ ∃ (xs : List Int) (st : Int), H w = some (.lst [.ref l, .int st]) ∧ H l = some (.lst (xs.map V.int)) ∧ xs.length ≤ 63 ∧ 0 ≤ st ∧ st < 18446744073709551616
def Keep (w l : Addr) (H H' : Hp) : Prop := ∀ b o, b ≠ w → b ≠ l → H b = some o → H' b = some o
theorem Keep.refl {w l : Addr} {H : Hp} : Keep w l H H := fun _ _ _ _ h => h
theorem Keep.trans {w l : Addr} {H H1 H2 : Hp} (a : Keep w l H H1) (b : Keep w l H1 H2) : Keep w l H H2 := fun c o h1 h2 h => b c o h1 h2 (a c o h1 h2 h)
theorem Keep.of {w l : Addr} {H H1 : Hp} (a : Same H H1) : Keep w l H H1 := fun c o _ _ h => a c o h
theorem same_new {H : Hp} {p : Addr} {o : HO} (h : H p = none) : Same H (upd H p o) := fun b u e => by
  rw [upd_ne (ne_of_none e h)]
  exact e
theorem Well.same {w l : Addr} {H H' : Hp} (a : Well w l H) (s : Same H H') : Well w l H' := by
  obtain ⟨n, xs, st, h1, h2, h3⟩ := a
  exact ⟨n, xs, st, s _ _ h1, s _ _ h2, h3⟩

theorem dpInts {K : PySem.W.Frag} {H : Hp} : ∀ xs : List Int, DpAll K H (xs.map V.int) (xs.map PyData.int)
  | [] => .nil
  | x :: xs => .cons (.int x) (dpInts xs)
theorem layInts : ∀ xs : List Int, PyData.canLayAll0 (xs.map PyData.int) = true
  | [] => rfl
  | x :: xs => by
    show (PyData.canLay0 (.int x) && PyData.canLayAll0 (xs.map PyData.int)) = true
    rw [layInts xs]
    rfl
theorem deepInts : ∀ xs : List Int, PyData.depthAll (xs.map PyData.int) = 0
  | [] => rfl
  | x :: xs => by
    show max (PyData.depth (.int x)) (PyData.depthAll (xs.map PyData.int)) = 0
    rw [deepInts xs]
    rfl
theorem shInts (xs : List Int) : SeqAt.shaped (.list (xs.map PyData.int)) = true := by
  show (PyData.canLayAll0 (xs.map PyData.int) && decide (PyData.depthAll (xs.map PyData.int) + 1 ≤ 64)) = true
  rw [layInts, deepInts]
  rfl
theorem get_last {α : Type} (ys : List α) (y : α) : (ys ++ [y])[(ys ++ [y]).length - 1]? = some y := by
  rw [List.length_append]
  show (ys ++ [y])[ys.length]? = some y
  simp

theorem nil_or_snoc {α : Type} (xs : List α) : xs = [] ∨ ∃ ys y, xs = ys ++ [y] := by
  rcases List.eq_nil_or_concat xs with h | ⟨ys, y, h⟩
  · exact .inl h
  · exact .inr ⟨ys, y, by rw [h, List.concat_eq_append]⟩

def spWell (K : PySem.W.Frag) : Sp := fun vs H Q _ => ∃ (a : Addr) (ns : List Int), vs = [.ref a] ∧ SqL K H a (ns.map V.int) ∧ ns.length ≤ 63 ∧
  ∀ H' w l, Same H H' → Well w l H' → H w = none → H l = none → Q (.ref w) H'
def spPull : Sp := fun vs H Q _ => ∃ (w l : Addr) (many : Int), vs = [.ref w, .int many] ∧ Well w l H ∧ 0 < many ∧ many < 1073741824 ∧
  ∀ r H', 0 ≤ r → r < many → Well w l H' → Keep w l H H' → Q (.int r) H'
def spItem : Sp := fun vs H Q _ => ∃ (w l p : Addr) (xs : List V), vs = [.ref w, .ref p] ∧ Well w l H ∧ H p = some (.lst xs) ∧ p ≠ w ∧ p ≠ l ∧ xs ≠ [] ∧ xs.length < 1073741824 ∧
  ∀ v H', v ∈ xs → Well w l H' → Keep w l H H' → Q v H'

end Lf
namespace Lf
open PySem PySem.Spec PyProof.Rows L2
/-! ### walking a tuple, a list, a range, whatever the body does -/
theorem it_tup {K : PySem.W.Frag} {a : Addr} {xs : List V} {H0 : Hp} {Qd : Hp → Prop} {body : V → Hp → (Hp → Prop) → Prop} (Pv : Nat → Hp → Prop) (h0 : Pv 0 H0) (hl : ∀ i H, i ≤ xs.length → Pv i H → SqT K H a xs)
    (hs : ∀ i x H, xs[i]? = some x → Pv i H → body x H (Pv (i + 1))) (hd : ∀ H, Pv xs.length H → Qd H) :
    ∃ W : Nat → Nat → Hp → Prop, (∃ m, W 0 m H0) ∧ ∀ i m H, W i m H →
      ((Itt K a).stop i H ∧ Qd H) ∨ ((Itt K a).go i H ∧ ∃ Nx : Hp → Prop, (∀ H', Nx H' → ∃ m', m' < m ∧ W (i + 1) m' H') ∧ ∀ x H', (Itt K a).yld i H x H' → body x H' Nx) := by
  refine ⟨fun i m H => m = xs.length - i ∧ i ≤ xs.length ∧ Pv i H, ⟨xs.length, by simp, Nat.zero_le _, h0⟩, ?_⟩
  rintro i m H ⟨rfl, hi, p⟩
  have q := hl i H hi p
  by_cases hlt : i < xs.length
  · refine .inr ⟨⟨xs, xs[i], q, by simp [hlt]⟩, Pv (i + 1), fun H' p' => ⟨xs.length - (i + 1), by omega, rfl, hlt, p'⟩, fun x H' y => ?_⟩
    obtain ⟨e, y⟩ := y
    subst e
    exact hs i x _ (y xs q) p
  · have e : i = xs.length := by omega
    exact .inl ⟨⟨xs, q, by omega⟩, hd H (e ▸ p)⟩
theorem it_list {K : PySem.W.Frag} {a : Addr} {xs : List V} {H0 : Hp} {Qd : Hp → Prop} {body : V → Hp → (Hp → Prop) → Prop} (Pv : Nat → Hp → Prop) (h0 : Pv 0 H0) (hl : ∀ i H, i ≤ xs.length → Pv i H → SqL K H a xs)
    (hs : ∀ i x H, xs[i]? = some x → Pv i H → body x H (Pv (i + 1))) (hd : ∀ H, Pv xs.length H → Qd H) :
    ∃ W : Nat → Nat → Hp → Prop, (∃ m, W 0 m H0) ∧ ∀ i m H, W i m H →
      ((Itl K a).stop i H ∧ Qd H) ∨ ((Itl K a).go i H ∧ ∃ Nx : Hp → Prop, (∀ H', Nx H' → ∃ m', m' < m ∧ W (i + 1) m' H') ∧ ∀ x H', (Itl K a).yld i H x H' → body x H' Nx) := by
  refine ⟨fun i m H => m = xs.length - i ∧ i ≤ xs.length ∧ Pv i H, ⟨xs.length, by simp, Nat.zero_le _, h0⟩, ?_⟩
  rintro i m H ⟨rfl, hi, p⟩
  have q := hl i H hi p
  by_cases hlt : i < xs.length
  · refine .inr ⟨⟨xs, xs[i], q, by simp [hlt]⟩, Pv (i + 1), fun H' p' => ⟨xs.length - (i + 1), by omega, rfl, hlt, p'⟩, fun x H' y => ?_⟩
    obtain ⟨e, y⟩ := y
    subst e
    exact hs i x _ (y xs q) p
  · have e : i = xs.length := by omega
    exact .inl ⟨⟨xs, q, by omega⟩, hd H (e ▸ p)⟩
/-! ### defs by name -/
/-- the def st stands under its name, with these parameters -/
def Mk (K : PySem.W.Frag) (mg : Str → Option Value) (x : Str) (st : Stmt) (ps : List Str) : Prop := ∃ (f : Addr) (fd : FuncData), Fun K x x st f fd ∧ Binds K fd ps [] ∧ mg x = some (.ref f)
/-- .. and keeps its promise, at level k -/
def Df (P : Program) (w : World) (K : PySem.W.Frag) (mg : Str → Option Value) (base : Heap) (CX : CXT) (k : Nat) (x : Str) (ps : List Str) (sp : Sp) : Prop :=
  ∃ (f : Addr) (fd : FuncData), FnOk P w K mg base CX k f fd ps sp ∧ Binds K fd ps [] ∧ mg x = some (.ref f) ∧ PySem.W.keepIn K (.ref f) = true
/-- the same for a caller whose repr guard is empty -/
def DfG (P : Program) (w : World) (K : PySem.W.Frag) (mg : Str → Option Value) (base : Heap) (k : Nat) (x : Str) (ps : List Str) (sp : Sp) : Prop :=
  ∃ (f : Addr) (fd : FuncData), RunG P w K mg base k f fd ps sp ∧ Binds K fd ps [] ∧ mg x = some (.ref f) ∧ PySem.W.keepIn K (.ref f) = true ∧ ∀ vs H Q E, sp vs H Q E → vs.length = ps.length
theorem Df.of {P : Program} {w : World} {K : PySem.W.Frag} {mg : Str → Option Value} {base : Heap} {CX : CXT} {k : Nat} {x : Str} {ps : List Str} {sp : Sp} {st : Stmt} {f : Addr} {fd : FuncData} (F : Fun K x x st f fd) (b : Binds K fd ps []) (g : mg x = some (.ref f)) (G : FnOk P w K mg base CX k f fd ps sp) : Df P w K mg base CX k x ps sp := ⟨f, fd, G, b, g, F.kp⟩
section
variable {X : Cx} {k : Nat} {ps : List Str} {sp : Sp} {x : Str} {p pos : Pos} {e : Expr} {es : List Expr} {t : TA} {j : Nat} {CX : CXT} {E : XK}
/-- x(e, ..), x lets nothing out -/
theorem pe_dD (D : Df X.prog X.w X.K X.mg X.base CX k x ps sp) (hx : Passes CX X E) (hr : Room j X.A) (ha : PA X (e :: es) t) (hj : k ≤ j := by decide) (hg : Gl X x := by rfl)
    (hdb : (x == ("__debug__" : Str)) = false := by decide) (he : starEach (e :: es) X.env = (false, eval e X.env) :: starEach es X.env := by rfl) (hpl : (backTo pos (starEach es X.env)).any (·.1) = false := by rfl) :
    PE X (.Call (.Name x p) (e :: es) [] pos) (tCall sp [] E t) := by
  obtain ⟨f, fd, G, b, g, kp⟩ := D
  exact pe_call G (hr.mono hj) hg g kp b .nil hx ha hdb he hpl
theorem pe_d (D : Df X.prog X.w X.K X.mg X.base CX0 k x ps sp) (hr : Room j X.A) (ha : PA X (e :: es) t) (hj : k ≤ j := by decide) (hg : Gl X x := by rfl)
    (hdb : (x == ("__debug__" : Str)) = false := by decide) (he : starEach (e :: es) X.env = (false, eval e X.env) :: starEach es X.env := by rfl) (hpl : (backTo pos (starEach es X.env)).any (·.1) = false := by rfl) :
    PE X (.Call (.Name x p) (e :: es) [] pos) (tCall sp [] E0 t) := pe_dD D pass0 hr ha hj hg hdb he hpl
/-- x(e, ..), x may raise: the error goes on -/
theorem pe_dS {E : L2.St → XK} (D : Df X.prog X.w X.K X.mg X.base CX k x ps sp) (hr : Room j X.A) (hx : ∀ σ, PassesAt CX X σ (E σ)) (ha : PA X (e :: es) t) (hj : k ≤ j := by decide) (hg : Gl X x := by rfl)
    (hdb : (x == ("__debug__" : Str)) = false := by decide) (he : starEach (e :: es) X.env = (false, eval e X.env) :: starEach es X.env := by rfl) (hpl : (backTo pos (starEach es X.env)).any (·.1) = false := by rfl) :
    PE X (.Call (.Name x p) (e :: es) [] pos) (tCallS sp E t) := by
  obtain ⟨f, fd, G, b, g, kp⟩ := D
  exact pe_callS G (hr.mono hj) hg g kp b hx ha hdb he hpl
/-- x(e, ..), x shows data -/
theorem pe_dG (D : DfG X.prog X.w X.K X.mg X.base k x ps sp) (hgu : X.A.guards = some []) (hr : Room j X.A) (ha : PA X (e :: es) t) (hj : k ≤ j := by decide) (hg : Gl X x := by rfl)
    (hdb : (x == ("__debug__" : Str)) = false := by decide) (he : starEach (e :: es) X.env = (false, eval e X.env) :: starEach es X.env := by rfl) (hpl : (backTo pos (starEach es X.env)).any (·.1) = false := by rfl) :
    PE X (.Call (.Name x p) (e :: es) [] pos) (tCall sp [] E0 t) := by
  obtain ⟨f, fd, G, b, g, kp, len⟩ := D
  refine ⟨fun pins s σ H Q I h => ?_⟩
  refine wpAny_Call_Name_kw (ld_glob I hg g ?_ hdb)
  refine PySem.W.callWith_K (h₀ := X.base) I.ok.mod.kin kp (thn (ha.run pos pins s σ H _ I h) fun us s1 ⟨vs, H1, I1, r, q⟩ => ⟨I1.kIn, ?_⟩) he hpl
  have r2 : Vals (vs ++ []) (us ++ []) := r.append .nil
  have hl : (us ++ []).length = ps.length := by rw [← r2.length]; exact len _ _ _ _ q
  refine wpAny_call (codeAny_mono (G X.A X.stack s1 H1 ⟨us, []⟩ (us ++ []) (vs ++ []) Q E0 hgu (hr.mono hj) I1.env0 (b s1 us I1.kIn hl) r2 q) fun r s' hq => ?_)
  cases r with
  | error e => exact hq.elim
  | ok fl =>
    cases fl with
    | ret u => exact I1.after hq
    | next => exact False.elim hq
    | brk => exact False.elim hq
    | cont => exact False.elim hq
end
/-! ### an own error class with one field -/
structure ErrF (P : Program) (w : World) (K : PySem.W.Frag) (mg : Str → Option Value) (base : Heap) (nm f : Str) (C : Addr) : Prop where
  ex : ∃ (fI : Addr) (fdI : FuncData), PySem.W.findIn K (.ref C) "__init__" = some (some (.ref fI)) ∧ PySem.W.typeIn K (.ref fI) = some (.type "function") ∧ FnOk P w K mg base CX0 1 fI fdI ["self", f] (spInit K C f) ∧ Binds K fdI ["self", f] []
  T : OexC K C
  g : mg nm = some (.ref C)
section
variable {X : Cx} {nm f : Str} {p pos : Pos} {e : Expr} {es : List Expr} {ta : TA} {j : Nat} {C : Addr}
theorem pmk_err (R : ErrF X.prog X.w X.K X.mg X.base nm f C) (hr : Room j X.A) (ha : PA X (e :: es) ta) (hj : 2 ≤ j := by decide) (hg : Gl X nm := by rfl)
    (hdb : (nm == ("__debug__" : Str)) = false := by decide) (he : starEach (e :: es) X.env = (false, eval e X.env) :: starEach es X.env := by rfl) (hpl : (backTo pos (starEach es X.env)).any (·.1) = false := by rfl) :
    PMk X (.Call (.Name nm p) (e :: es) [] pos) (tMkO C (spInit X.K C f) [] ta) := by
  obtain ⟨fI, fdI, iC, tI, G, b⟩ := R.ex
  exact pmk_oex R.T iC tI G (hr.mono hj) b .nil pass0 hg R.g ha hdb he hpl
end
/-- the error with the value in its field f leaves -/
def OutF (f : Str) (C : Addr) (H : Hp) (v : V) (E : XK) : Prop := ∀ (dx : Addr) (H' : Hp), Same H H' → H dx = none → H' dx = some (.xd [(f, v)]) → E (.ref C) (some dx) H'
theorem OutF.same {f : Str} {C : Addr} {H H' : Hp} {v : V} {E : XK} (h : OutF f C H v E) (s : Same H H') : OutF f C H' v E := fun dx G sG n e => h dx G (s.trans sG) (s.free n) e
/-! ### tuples of numbers in a list under way -/
/-- tuples stand as they stood -/
def TK (H H' : Hp) : Prop := ∀ b xs, H b = some (.tup xs) → H' b = some (.tup xs)
theorem TK.refl {H : Hp} : TK H H := fun _ _ h => h
theorem TK.trans {H H1 H2 : Hp} (a : TK H H1) (b : TK H1 H2) : TK H H2 := fun c xs h => b c xs (a c xs h)
theorem TK.of {H H' : Hp} (s : Same H H') : TK H H' := fun b xs h => s _ _ h
theorem TK.lst {H : Hp} {D : Addr} {l : List V} {o : HO} (h : H D = some (.lst l)) : TK H (upd H D o) := fun b xs e => by
  rw [upd_ne fun z => by rw [z, h] at e; cases e]
  exact e
theorem TK.keep {w l : Addr} {H H' : Hp} (W : Well w l H) (k : Keep w l H H') : TK H H' := fun b xs e => by
  obtain ⟨_, _, _, hw, hl, _⟩ := W
  exact k b _ (fun z => by rw [z, hw] at e; cases e) (fun z => by rw [z, hl] at e; cases e) e
/-- rows of numbers, each a tuple -/
inductive Rows (H : Hp) : List V → List (List Nat) → Prop
  | nil : Rows H [] []
  | cons {q : Addr} {r : List Nat} {vs : List V} {rs : List (List Nat)} : H q = some (.tup (nv r)) → Rows H vs rs → Rows H (.ref q :: vs) (r :: rs)
theorem Rows.mono {H H' : Hp} (k : TK H H') : ∀ {vs : List V} {rs : List (List Nat)}, Rows H vs rs → Rows H' vs rs
  | _, _, .nil => .nil
  | _, _, .cons h q => .cons (k _ _ h) (q.mono k)
theorem Rows.append {H : Hp} : ∀ {vs us : List V} {rs ts : List (List Nat)}, Rows H vs rs → Rows H us ts → Rows H (vs ++ us) (rs ++ ts)
  | _, _, _, _, .nil, q => q
  | _, _, _, _, .cons h q, q' => .cons h (q.append q')
theorem Rows.snoc {H : Hp} {vs : List V} {rs : List (List Nat)} {q : Addr} {r : List Nat} (h : Rows H vs rs) (e : H q = some (.tup (nv r))) : Rows H (vs ++ [.ref q]) (rs ++ [r]) := h.append (.cons e .nil)
theorem Rows.length {H : Hp} : ∀ {vs : List V} {rs : List (List Nat)}, Rows H vs rs → vs.length = rs.length
  | _, _, .nil => rfl
  | _, _, .cons _ q => congrArg (· + 1) q.length
theorem Rows.get {H : Hp} : ∀ {vs : List V} {rs : List (List Nat)} {i : Nat} {v : V}, Rows H vs rs → vs[i]? = some v → ∃ q r, v = .ref q ∧ rs[i]? = some r ∧ H q = some (.tup (nv r))
  | _, _, 0, _, .cons h q, e => by cases e; exact ⟨_, _, rfl, rfl, h⟩
  | _, _, i + 1, _, .cons h q, e => q.get (i := i) e
  | _, _, 0, _, .nil, e => by cases e
  | _, _, _ + 1, _, .nil, e => by cases e
def nD (l : List Nat) : List PyData := l.map fun x => PyData.int ((x : Nat) : Int)
theorem rpN {H : Hp} : ∀ l : List Nat, RpAll H (nv l) (nD l)
  | [] => .nil
  | _ :: l => .cons (.int _) (rpN l)
def rowD (r : List Nat) : PyData := .tuple (nD r)
theorem Rows.rp {H : Hp} : ∀ {vs : List V} {rs : List (List Nat)}, Rows H vs rs → RpAll H vs (rs.map rowD)
  | _, _, .nil => .nil
  | _, _, .cons h q => .cons (.tup h (rpN _)) q.rp
theorem Rows.dp {K : PySem.W.Frag} {H : Hp} : ∀ {vs : List V} {rs : List (List Nat)}, Rows H vs rs → DpAll K H vs (rs.map rowD)
  | _, _, .nil => .nil
  | _, _, .cons (r := r) h q => .cons (.tup (SqT.of h) (by have := dpNv (K := K) (H := H) r; rw [List.map_map] at this; exact this)) q.dp
/-! ### a caught own error -/
structure CauN (K : PySem.W.Frag) (mg : Str → Option Value) (nm fld n1 n2 n3 : Str) (C L A1 A2 A3 : Addr) : Prop where
  ex : ExK K C
  no : PySem.W.findIn K (.ref C) fld = some none
  gC : mg nm = some (.ref C)
  gL : mg "LinkError" = some (.ref L)
  g1 : mg n1 = some (.ref A1)
  g2 : mg n2 = some (.ref A2)
  g3 : mg n3 = some (.ref A3)
  te : PySem.W.exmOne K (.ref C) (.ref L) = some true
  kV : PySem.W.kitOne K (.ref C) (.type "ValueError") = some true
  kC : PySem.W.kitOne K (.ref C) (.ref C) = some true
  k1 : PySem.W.kitOne K (.ref C) (.ref A1) = some false
  k2 : PySem.W.kitOne K (.ref C) (.ref A2) = some false
  k3 : PySem.W.kitOne K (.ref C) (.ref A3) = some false
theorem ExK.xf {K : PySem.W.Frag} {C : Addr} (T : ExK K C) : XfC K C := ⟨T.ga, T.gg, T.sb, T.hd⟩
theorem CauN.any3 {K : PySem.W.Frag} {mg : Str → Option Value} {nm fld n1 n2 n3 : Str} {C L A1 A2 A3 : Addr} (T : CauN K mg nm fld n1 n2 n3 C L A1 A2 A3) : ∀ its, Vals [V.ref A1, V.ref A2, V.ref A3] its → PySem.W.kitAny K (.ref C) its = some false := fun its r => by
  rw [ClsV.all (.cons (.own _) (.cons (.own _) (.cons (.own _) .nil))) r]
  simp only [PySem.W.kitAny, T.k1, T.k2, T.k3]
def exB (K : PySem.W.Frag) (C : Addr) : Bool :=
  (PySem.W.clsIn K C).isSome && (decide (PySem.W.findIn K (.ref C) "__getattribute__" = some (some (.builtin "BaseException.__getattribute__"))) && (decide (PySem.W.findIn K (.ref C) "__getattr__" = some none) && (decide (PySem.W.subIn K (.ref C) (.type "BaseException") = some true) &&
  (decide (PySem.W.findIn K (.ref C) "__class__" = some (some (.builtin "object.__class__"))) && (decide (PySem.W.specialIn K (.builtin "object.__class__") "__get__" = some (some (.builtin "getset_descriptor.__get__"))) && (decide (PySem.W.takesIn K (.builtin "object.__class__") = some true) && (decide (PySem.W.mroIn K C (.type "object") = some true) && PySem.W.hasDictIn K C)))))))
theorem exB_ok {K : PySem.W.Frag} {C : Addr} (h : exB K C = true) : ExK K C := by
  obtain ⟨h1, h⟩ := Bool.and_eq_true_iff.mp h
  obtain ⟨h2, h⟩ := Bool.and_eq_true_iff.mp h
  obtain ⟨h3, h⟩ := Bool.and_eq_true_iff.mp h
  obtain ⟨h4, h⟩ := Bool.and_eq_true_iff.mp h
  obtain ⟨h5, h⟩ := Bool.and_eq_true_iff.mp h
  obtain ⟨h6, h⟩ := Bool.and_eq_true_iff.mp h
  obtain ⟨h7, h⟩ := Bool.and_eq_true_iff.mp h
  obtain ⟨h8, h9⟩ := Bool.and_eq_true_iff.mp h
  exact ⟨h1, of_decide_eq_true h2, of_decide_eq_true h3, of_decide_eq_true h4, of_decide_eq_true h5, of_decide_eq_true h6, of_decide_eq_true h7, of_decide_eq_true h8, h9⟩
def cauB (K : PySem.W.Frag) (C L A1 A2 A3 : Addr) : Bool := exB K C && (decide (PySem.W.exmOne K (.ref C) (.ref L) = some true) && (decide (PySem.W.kitOne K (.ref C) (.type "ValueError") = some true) && (decide (PySem.W.kitOne K (.ref C) (.ref C) = some true) && (decide (PySem.W.kitOne K (.ref C) (.ref A1) = some false) && (decide (PySem.W.kitOne K (.ref C) (.ref A2) = some false) && decide (PySem.W.kitOne K (.ref C) (.ref A3) = some false))))))
theorem cau_ok {K : PySem.W.Frag} {mg : Str → Option Value} {nm fld n1 n2 n3 : Str} {C L A1 A2 A3 : Addr} (h : cauB K C L A1 A2 A3 = true) (no : PySem.W.findIn K (.ref C) fld = some none) (gC : mg nm = some (.ref C)) (gL : mg "LinkError" = some (.ref L)) (g1 : mg n1 = some (.ref A1)) (g2 : mg n2 = some (.ref A2)) (g3 : mg n3 = some (.ref A3)) : CauN K mg nm fld n1 n2 n3 C L A1 A2 A3 := by
  obtain ⟨h1, h⟩ := Bool.and_eq_true_iff.mp h
  obtain ⟨h2, h⟩ := Bool.and_eq_true_iff.mp h
  obtain ⟨h3, h⟩ := Bool.and_eq_true_iff.mp h
  obtain ⟨h4, h⟩ := Bool.and_eq_true_iff.mp h
  obtain ⟨h5, h⟩ := Bool.and_eq_true_iff.mp h
  obtain ⟨h6, h7⟩ := Bool.and_eq_true_iff.mp h
  exact ⟨exB_ok h1, no, gC, gL, g1, g2, g3, of_decide_eq_true h2, of_decide_eq_true h3, of_decide_eq_true h4, of_decide_eq_true h5, of_decide_eq_true h6, of_decide_eq_true h7⟩
theorem RpAll.get {H : Hp} : ∀ {vs : List V} {ds : List PyData} {i : Nat} {v : V}, RpAll H vs ds → vs[i]? = some v → ∃ d, ds[i]? = some d ∧ Rp H v d
  | _, _, 0, _, .cons h q, e => by cases e; exact ⟨_, rfl, h⟩
  | _, _, i + 1, _, .cons h q, e => q.get (i := i) e
  | _, _, 0, _, .nil, e => by cases e
  | _, _, _ + 1, _, .nil, e => by cases e
theorem RpAll.length {H : Hp} : ∀ {vs : List V} {ds : List PyData}, RpAll H vs ds → vs.length = ds.length
  | _, _, .nil => rfl
  | _, _, .cons _ q => congrArg (· + 1) q.length
/-- a value that is a tuple -/
theorem Rp.tupOf {K : PySem.W.Frag} {H : Hp} {v : V} {ds : List PyData} (h : Rp H v (.tuple ds)) : ∃ (a : Addr) (xs : List V), v = .ref a ∧ SqT K H a xs ∧ RpAll H xs ds := by
  cases h with
  | tup e q => exact ⟨_, _, rfl, SqT.of e, q⟩
  | ftp e q => exact ⟨_, _, rfl, .inl (.inr ⟨_, e⟩), q⟩
def kdI : PyData → Bool
  | .int _ => true
  | .bool _ => true
  | _ => false
def kdB : PyData → Bool
  | .bool _ => true
  | _ => false
def kdT : PyData → Bool
  | .tuple _ => true
  | _ => false
theorem m1_kit {K : PySem.W.Frag} (d : PyData) : PySem.W.kitOne K (.type (tyD d)) (.type "int") = some (kdI d) := by
  rw [kInt]
  cases d <;> rfl
theorem m2_kit {K : PySem.W.Frag} (d : PyData) : PySem.W.kitOne K (.type (tyD d)) (.type "bool") = some (kdB d) := by
  rw [kBool]
  cases d <;> rfl
theorem m3_kit {K : PySem.W.Frag} (d : PyData) : PySem.W.kitOne K (.type (tyD d)) (.type "tuple") = some (kdT d) := by
  rw [kTup]
  cases d <;> rfl
theorem m12 {d : PyData} (h : kdI d = true) (g : kdB d = false) : ∃ i, d = .int i := by
  cases d with
  | int i => exact ⟨i, rfl⟩
  | bool _ => cases g
  | _ => cases h
theorem RpAll.two {H : Hp} {xs : List V} {ds : List PyData} (h : RpAll H xs ds) (e : ds.length = 2) : ∃ x0 x1 d0 d1, xs = [x0, x1] ∧ ds = [d0, d1] ∧ Rp H x0 d0 ∧ Rp H x1 d1 := by
  match ds, e, h with
  | [_, _], _, .cons r0 (.cons r1 .nil) => exact ⟨_, _, _, _, rfl, rfl, r0, r1⟩
theorem kdT_of {d : PyData} (h : kdT d = true) : ∃ ds, d = .tuple ds := by
  cases d with
  | tuple ds => exact ⟨ds, rfl⟩
  | _ => cases h
theorem nat_ne {a b : Nat} (h : (!decide (V.int (a : Int) = V.int (b : Int))) = true) : a ≠ b := fun z => by
  rw [z, decide_eq_true rfl] at h
  cases h
theorem nat_eq {a b : Nat} (h : ¬ (!decide (V.int (a : Int) = V.int (b : Int))) = true) : a = b := Classical.byContradiction fun z => h (by rw [decide_eq_false (fun y => z (by have := V.int.inj y; omega))]; rfl)
theorem take_snoc {α : Type} {l : List α} {i : Nat} {x : α} (h : l[i]? = some x) : l.take (i + 1) = l.take i ++ [x] := by
  rw [List.take_add_one, h]
  rfl
end Lf
namespace Lf
open PySem PySem.Spec PyProof.Rows L2
/-! ### tuples of numbers compared -/
theorem eqv_nD : ∀ r s : List Nat, PyData.eqvAll (nD r) (nD s) = decide (r = s)
  | [], [] => rfl
  | [], _ :: _ => rfl
  | _ :: _, [] => rfl
  | x :: r, y :: s => by
    show ((((x : Nat) : Int) == ((y : Nat) : Int)) && PyData.eqvAll (nD r) (nD s)) = _
    rw [eqv_nD r s]
    by_cases h : x = y
    · subst h
      simp
    · have : (((x : Nat) : Int) == ((y : Nat) : Int)) = false := beq_eq_false_iff_ne.mpr fun e => h (by omega)
      rw [this]
      simp [h]
theorem any_rows (r : List Nat) : ∀ rs : List (List Nat), ((rs.map rowD).any fun z => PyData.eqv z (rowD r)) = decide (r ∈ rs)
  | [] => rfl
  | s :: rs => by
    rw [List.map_cons, List.any_cons, any_rows r rs]
    show (PyData.eqvAll (nD s) (nD r) || _) = _
    rw [eqv_nD]
    by_cases h : s = r
    · subst h
      simp
    · rw [decide_eq_false h, Bool.false_or]
      exact decide_eq_decide.mpr ⟨List.mem_cons_of_mem _, fun z => (List.mem_cons.mp z).elim (fun e => absurd e.symm h) id⟩
theorem layRow (r : List Nat) : PyData.canLayAll0 (nD r) = true := by
  have := layInts (r.map fun x => ((x : Nat) : Int))
  rw [List.map_map] at this
  exact this
theorem deepRow (r : List Nat) : PyData.depthAll (nD r) = 0 := by
  have := deepInts (r.map fun x => ((x : Nat) : Int))
  rw [List.map_map] at this
  exact this
theorem shRow (r : List Nat) : SeqAt.shaped (rowD r) = true := by
  show (PyData.canLayAll0 (nD r) && decide (PyData.depthAll (nD r) + 1 ≤ 64)) = true
  rw [layRow, deepRow]
  rfl
theorem layRows : ∀ rs : List (List Nat), PyData.canLayAll0 (rs.map rowD) = true
  | [] => rfl
  | r :: rs => by
    show (PyData.canLayAll0 (nD r) && PyData.canLayAll0 (rs.map rowD)) = true
    rw [layRows rs, layRow]
    rfl
theorem deepRows : ∀ rs : List (List Nat), PyData.depthAll (rs.map rowD) ≤ 1
  | [] => Nat.zero_le _
  | r :: rs => by
    show max (PyData.depthAll (nD r) + 1) (PyData.depthAll (rs.map rowD)) ≤ 1
    rw [deepRow]
    exact Nat.max_le.mpr ⟨Nat.le_refl _, deepRows rs⟩
theorem shRows (rs : List (List Nat)) : SeqAt.shaped (.list (rs.map rowD)) = true := by
  show (PyData.canLayAll0 (rs.map rowD) && decide (PyData.depthAll (rs.map rowD) + 1 ≤ 64)) = true
  rw [layRows, decide_eq_true (by have := deepRows rs; omega)]
  rfl
theorem dpRow {K : PySem.W.Frag} {H : Hp} {p : Addr} {r : List Nat} (h : SqT K H p (nv r)) : Dp K H (.ref p) (rowD r) := .tup h (by have := dpNv (K := K) (H := H) r; rw [List.map_map] at this; exact this)
theorem Rows.unsnoc {H : Hp} : ∀ {vs : List V} {rs : List (List Nat)} {r : List Nat}, Rows H vs (rs ++ [r]) → ∃ us q, vs = us ++ [.ref q] ∧ Rows H us rs ∧ H q = some (.tup (nv r))
  | _, [], _, .cons h .nil => ⟨[], _, rfl, .nil, h⟩
  | _, _ :: rs, _, .cons h q => by
    obtain ⟨us, q', e, h1, h2⟩ := Rows.unsnoc (rs := rs) q
    subst e
    exact ⟨_ :: us, q', rfl, .cons h h1, h2⟩
theorem eqv_row (r s : List Nat) : PyData.eqv (rowD r) (rowD s) = decide (r = s) := eqv_nD r s
theorem eqv_nil (l : List Nat) : PyData.eqv (.list ((l.map fun x => ((x : Nat) : Int)).map PyData.int)) (.list []) = l.isEmpty := by cases l <;> rfl
theorem Rows.dropLast {H : Hp} : ∀ {vs : List V} {rs : List (List Nat)}, Rows H vs rs → Rows H vs.dropLast rs.dropLast
  | _, _, .nil => .nil
  | _, _, .cons _ .nil => .nil
  | _, _, .cons h (.cons h2 q) => .cons h (Rows.dropLast (.cons h2 q))
def rInDT (K : PySem.W.Frag) : R2 := fun x y H Q => ∃ d ds, Dp K H x d ∧ Dp K H y (.tuple ds) ∧ SeqAt.shaped d = true ∧ SeqAt.shaped (.tuple ds) = true ∧ Q (.bl (ds.any fun z => PyData.eqv z d)) H
theorem op_inDT {X : Cx} (hu : X.A.units + 65 < cLine) : OpR X (compareOp .In) (rInDT X.K) := by
  intro pins s σ H x y v u Q I rx ry h
  obtain ⟨d, ds, hd, he, sd, se, q⟩ := h
  obtain ⟨as, r1⟩ := Dp.reads I d x v hd rx
  obtain ⟨bs, r2⟩ := Dp.reads I (.tuple ds) y u he ry
  exact SeqAt.in_tuple_reads r2 r1 (SeqAt.canLay_of_shaped se) (SeqAt.canLay_of_shaped sd) (room_in_shaped sd hu) ⟨.bl _, H, I, rfl, q⟩
theorem shRowsT (rs : List (List Nat)) : SeqAt.shaped (.tuple (rs.map rowD)) = true := shRows rs
end Lf
namespace Lf
open PySem PySem.Spec PyProof.Rows L2
/-! ### t[::-1] of a tuple of any length; str of any data -/
theorem range_pick {α : Type} (l : List α) : ∀ n, (List.range n).filterMap (fun k => l[k]?) = l.take n
  | 0 => rfl
  | n + 1 => by
    rw [List.range_succ, List.filterMap_append, range_pick l n, List.take_add_one]
    cases h : l[n]? <;> simp [h]
theorem fm_congr {α β : Type} {f g : α → Option β} : ∀ {l : List α}, (∀ a ∈ l, f a = g a) → l.filterMap f = l.filterMap g
  | [], _ => rfl
  | a :: l, h => by
    rw [List.filterMap_cons, List.filterMap_cons, h a List.mem_cons_self, fm_congr fun b hb => h b (List.mem_cons_of_mem _ hb)]
theorem pickBackA (xs : List Value) : ((List.range xs.toArray.size).filterMap fun (k : Nat) => xs.toArray[(((xs.toArray.size : Nat) : Int) - 1 + (k : Int) * (-1)).toNat]?).toArray = xs.reverse.toArray := by
  congr 1
  have e : (List.range xs.toArray.size).filterMap (fun (k : Nat) => xs.toArray[(((xs.toArray.size : Nat) : Int) - 1 + (k : Int) * (-1)).toNat]?) = (List.range xs.reverse.length).filterMap (fun k => xs.reverse[k]?) := by
    rw [List.size_toArray, List.length_reverse]
    refine fm_congr fun k hk => ?_
    have hk : k < xs.length := List.mem_range.mp hk
    rw [List.getElem?_reverse hk, List.getElem?_toArray]
    congr 1
    omega
  rw [e, range_pick, List.take_length]
section
variable {prog : Program} {w : World} {A : Around} {E : Value → Shared → Prop} {s : Shared}
theorem getBackA {t sl : Addr} {items : List Value} {tk : Tok} {Q : Value → Shared → Prop} (ht : IsTup s.heap t items.toArray) (hs : s.heap.IsSliceOf sl .none .none (.int (-1) tk)) (few : items.length ≤ sizeLine)
    (h : Q (.ref s.heap.objs.size) { s with heap := s.heap.push { cls := .type "tuple", data := .seq items.reverse.toArray } }) : wpAny (model prog w) A (getItem (.ref t) (.ref sl)) Q E s := by
  have fits : sizeOk (.seq items.reverse.toArray) := by
    show items.reverse.toArray.size ≤ sizeLine
    rw [List.size_toArray, List.length_reverse]
    exact few
  obtain ⟨os, hos, hcs, hds⟩ := id hs
  have isS : s.TypeIs (.ref sl) "slice" := ⟨os, hos, hcs⟩
  unfold getItem
  try with_reducible refine wpAny_holding ?_
  first | refine wpAny_bind (wpAny_pure ?_) | skip
  refine wpAny_bind (wpAny_sequenceKey ht.typeIs (by decide) ?_)
  refine wpAny_bind (wpAny_callSpecial?_slot (name := Str.ofString "__getitem__") ht.typeIs PyProof.Rows.slot_tuple_getitem (wpAny_call_entry PyProof.Rows.slot_tuple_getitem ht.typeIs entry_tuple_getitem ?_ (args_tuple_getitem _ _)))
  show wpAny _ _ (Builtin.Tuple.tupleItemsOf (.ref t) >>= _) _ _ s
  refine wpAny_bind (tupleItemsOf_ ht (wpAny_bind (wpAny_typeOf isS ?_)))
  rw [if_pos (by decide)]
  refine wpAny_bind (appBack hs ?_)
  have no : ¬ ((((((items.toArray.size : Nat) : Int) - 1) == 0) && ((-1 : Int) == 1) && (items.toArray.size == items.toArray.size)) = true) := by
    rw [show ((-1 : Int) == 1) = false from by decide, Bool.and_false, Bool.false_and]
    exact Bool.false_ne_true
  show wpAny _ _ (if (((((items.toArray.size : Nat) : Int) - 1) == 0) && ((-1 : Int) == 1) && (items.toArray.size == items.toArray.size)) = true then _ else _) _ _ s
  rw [if_neg no, pickBackA items]
  first
    | exact wpAny_bind (m := Builtin.Tuple.tupleExact _) (wpAny_newObj_type (wpAny_pure ⟨_, rfl, wpAny_pure h⟩) fits)
    | exact wpAny_bind (m := Builtin.Tuple.tupleExact _) (wpAny_newObj_type (wpAny_bind (wpAny_pure (wpAny_pure ⟨_, rfl, wpAny_pure h⟩))) fits)
    | exact wpAny_bind (wpAny_bind (m := Builtin.Tuple.tupleExact _) (wpAny_newObj_type (wpAny_pure (wpAny_pure ⟨_, rfl, wpAny_pure h⟩)) fits))
    | exact wpAny_bind (wpAny_bind (m := Builtin.Tuple.tupleExact _) (wpAny_newObj_type (wpAny_pure ⟨_, rfl, wpAny_pure h⟩) fits))
end
section
variable {X : Cx}
def tRevA (te : TE) : TE := fun σ H Q => te σ H fun x H1 => ∃ (a : Addr) (xs : List V), x = .ref a ∧ H1 a = some (.tup xs) ∧ ∀ p, H1 p = none → Q (.ref p) (upd H1 p (.tup xs.reverse))
theorem pe_revA {e : Expr} {te : TE} {k : Nat} {p1 p2 p3 pos : Pos} (he : PE X e te) : PE X (.Subscript e (.Slice none none (some (.UnaryOp .USub (.Constant (.int 1) k p1) p2)) p3) pos) (tRevA te) := by
  refine ⟨fun pins s σ H Q I h => ?_⟩
  refine Subscript_ (thn (he.run pins s σ H _ I h) ?_)
  rintro v s1 ⟨x, H1, I1, r1, a, xs, rfl, hx, q⟩
  cases (show v = Value.ref a from r1)
  have hst : PE X (.UnaryOp .USub (.Constant (.int 1) k p1) p2) (tUn (rU fun i => .int (-i)) (tC (.int 1))) := pe_un un_neg pe_int
  refine wpAny_Slice (thn (po_none.run pins s1 σ H1 (fun o G => o = none ∧ G = H1) I1 ⟨rfl, rfl⟩) ?_)
  rintro vl s2 ⟨ol, G2, I2, pl, rfl, rfl⟩
  refine thn (po_none.run pins s2 σ G2 (fun o G => o = none ∧ G = G2) I2 ⟨rfl, rfl⟩) ?_
  rintro vu s3 ⟨ou, G3, I3, pu, rfl, rfl⟩
  cases pl
  cases pu
  rw [evalPart_some]
  refine thn (hst.run pins s3 σ G3 (fun y G => y = .int (-1) ∧ G = G3) I3 ⟨1, rfl, rfl, rfl⟩) ?_
  rintro vs s4 ⟨y, H4, I4, ry, rfl, rfl⟩
  obtain ⟨tk, rfl⟩ := ry
  have I5 : Inv X pins σ H4 { s4 with heap := s4.heap.push { cls := .type "slice", data := .fields #[.none, .none, .int (-1) tk] } } := I4.kept (t' := s4.toks) fun b ob z => Heap.get?_push_of_some _ z
  obtain ⟨its, rv, plain, small⟩ := I5.tuple (SqT.of hx)
  have same := rv.length
  show wpAny (model X.prog X.w) X.A (subscriptTail e (.Slice none none (some (.UnaryOp .USub (.Constant (.int 1) k p1) p2)) p3) (.ref a) (.ref s4.heap.objs.size)) (EP X pins σ Q) X.xe { s4 with heap := s4.heap.push { cls := .type "slice", data := .fields #[.none, .none, .int (-1) tk] } }
  refine tail_any (ops := [.ref a, .ref s4.heap.objs.size]) plain.typeIs (PyProof.Rows.slot_tuple_getitem.lookup) ?_ (by with_unfolding_all rfl)
  refine getBackA plain (Heap.IsSliceOf.new _ _ _ _) (same ▸ small) ?_
  refine ⟨.ref _, _, I5.laid (t' := s4.toks) (o := .tup xs.reverse) (fun b ob z => Heap.get?_push_of_some _ z) (Nat.le_refl _) ?_, rfl, q _ (I5.hok.fresh (Nat.le_refl _))⟩
  exact ⟨by rw [List.length_reverse]; exact small, its.reverse, rv.reverse, IsTup.new _ _⟩
/-- str of a number or of a tuple -/
theorem call_strA (hs : ∃ o, X.base.get? sysModules = some o) (hg : X.A.guards = some []) (hu : X.A.units + 200 < cLine) :
    CallR X (.type "str") (fun xs H Q => ∃ (v : V) (d : PyData), xs = [v] ∧ Rp H v d ∧ d.showable = true ∧ d.depth ≤ 100 ∧ d.shown.length ≤ sizeLine ∧ ((∃ i, d = .int i) ∨ ∃ ds, d = .tuple ds) ∧ Q (.str d.shown) H) := by
  intro pins s σ H xs us Q I r h
  obtain ⟨v, d, rfl, hr, h1, h2, h3, h4, q⟩ := h
  rcases h4 with ⟨i, rfl⟩ | ⟨ds, rfl⟩
  · cases hr
    obtain ⟨u, rfl, t, rfl⟩ := vals1 r
    exact PySem.P.str_of_int (of_decide_eq_true h1) ⟨.str _, H, I.tok _, ⟨_, rfl⟩, q⟩
  · obtain ⟨a, xs, rfl, _, _⟩ := hr.tupOf (K := X.K)
    obtain ⟨u, rfl, r1⟩ := vals1 r
    cases (show u = Value.ref a from r1)
    obtain ⟨as, rd, na⟩ := Rp.reads I hs hr _ rfl
    exact str_of_reads rd h1 (fun _ => na) hg (by omega) (fun _ _ e => e) (fun h' t tk k => ⟨.str _, H, I.kept k, ⟨t, rfl⟩, q⟩) h3
end
end Lf
namespace Lf
open PySem PySem.Spec PyProof.Rows L2
/-! ### new tuples are known to the object: it has no dict, so that its methods can be called -/
def Tk (o : Obj) : Prop := o.cls = .type "tuple" ∧ o.dict = none
section
variable {X : Cx}
theorem tk_new {xs : Array Value} : Tk { cls := .type "tuple", data := .seq xs } := ⟨rfl, rfl⟩
/-- a new tuple is laid -/
theorem laidT {pins : List (Addr × Obj)} {σ : L2.St} {H : Hp} {s : Shared} {us : List Value} {xs : List V} {tk : Nat} (I : Inv X pins σ H s) (r : Vals xs us) (z : xs.length ≤ sizeLine) :
    Inv X pins σ (upd H s.heap.objs.size (.frz { cls := .type "tuple", data := .seq us.toArray } (.tup xs))) { s with heap := s.heap.push { cls := .type "tuple", data := .seq us.toArray }, toks := tk } :=
  I.laid (t' := tk) (o := .frz { cls := .type "tuple", data := .seq us.toArray } (.tup xs)) (fun b ob q => Heap.get?_push_of_some _ q) (Nat.le_refl _) ⟨Heap.get?_push_size _ rfl, z, us, r, IsTup.new _ _⟩
/-- t + u -/
def rCatK (K : PySem.W.Frag) : R2 := fun x y H Q => ∃ (a b : Addr) (xs ys : List V), x = .ref a ∧ y = .ref b ∧ SqT K H a xs ∧ SqT K H b ys ∧ xs.length + ys.length ≤ sizeLine ∧ (ys = [] → Q (.ref a) H) ∧ (xs = [] → Q (.ref b) H) ∧ (∀ p o, H p = none → Tk o → Q (.ref p) (upd H p (.frz o (.tup (xs ++ ys)))))
theorem op_catK : OpR X (binaryOp .Add) (rCatK X.K) := by
  intro pins s σ H x y v u Q I rx ry h
  obtain ⟨a, b, xs, ys, rfl, rfl, ha, hb, hz, q1, q0, q2⟩ := h
  cases rx
  cases ry
  obtain ⟨its, r1, p1, _⟩ := I.tuple ha
  obtain ⟨its2, r2, p2, _⟩ := I.tuple hb
  cases its with
  | nil =>
    have e : xs = [] := r1.nil_iff.mp rfl
    exact cat_tup0 p1 p2 ⟨.ref b, H, I, rfl, q0 e⟩
  | cons i its =>
    refine HT.cat_tup p1 p2 (fun z => nomatch z) (fun z => ?_) (fun z => ?_) (by rw [← r1.length, ← r2.length]; exact hz)
    · exact ⟨.ref a, H, I, rfl, q1 (r2.nil_iff.mp z)⟩
    · exact ⟨.ref s.heap.objs.size, _, laidT (tk := s.toks) I (r1.append r2) (by rw [List.length_append]; exact hz), rfl, q2 _ _ (I.hok.fresh (Nat.le_refl _)) tk_new⟩
/-- t[lo:hi]: the whole of it is t itself -/
def rSlK (K : PySem.W.Frag) : V → Option Int → Option Int → Hp → VK → Prop := fun x lo hi H Q => ∃ a xs, x = .ref a ∧ SqT K H a xs ∧
  (HT.sIx xs.length 0 lo = 0 ∧ HT.sIx xs.length xs.length hi = xs.length → Q (.ref a) H) ∧ (¬ (HT.sIx xs.length 0 lo = 0 ∧ HT.sIx xs.length xs.length hi = xs.length) → ∀ p o, H p = none → Tk o → Q (.ref p) (upd H p (.frz o (.tup (cutV xs lo hi)))))
theorem sl_tupK : SlR X (rSlK X.K) := by
  intro pins s σ H x v vl vu lo hi sl Q I rx hs pl pu h
  obtain ⟨a, xs, rfl, hx, whole, part⟩ := h
  by_cases hw : HT.sIx xs.length 0 lo = 0 ∧ HT.sIx xs.length xs.length hi = xs.length
  · exact sl_tupA pins s σ H _ v vl vu lo hi sl Q I rx hs pl pu ⟨a, xs, rfl, hx, whole, fun z => absurd hw z⟩
  · cases rx
    obtain ⟨its, r, ht, hz⟩ := I.tuple hx
    have size : its.toArray.size = xs.length := by rw [List.size_toArray]; exact r.length.symm
    refine ⟨"tuple", _, PyProof.Rows.slot_tuple_getitem.lookup, ht.typeIs, HT.getItem_tuple_cut ht hs pl pu (by rw [size]; exact hw) ?_ (by rw [size]; exact hz)⟩
    rw [size]
    exact ⟨.ref s.heap.objs.size, _, laidT (tk := s.toks) I ((r.drop (HT.sIx xs.length 0 lo)).take (HT.sIx xs.length xs.length hi - HT.sIx xs.length 0 lo)) (Nat.le_trans (cutV_length xs lo hi) hz), rfl, part hw _ _ (I.hok.fresh (Nat.le_refl _)) tk_new⟩
/-- (x, ..) -/
def tTupK (t : TA) : TE := fun σ H Q => t σ H fun xs H1 => xs.length ≤ sizeLine ∧ ∀ p o, H1 p = none → Tk o → Q (.ref p) (upd H1 p (.frz o (.tup xs)))
theorem pe_tupK {es : List Expr} {t : TA} {pos : Pos} {x1} (h : PA X es t) : PE X (.Tuple es x1 pos) (tTupK t) := by
  refine ⟨fun pins s σ H Q I hq => ?_⟩
  refine wpAny_Tuple_spliced (thn (h.run pos pins s σ H _ I hq) fun us s1 ⟨xs, H1, I1, r, z, q⟩ => ⟨by rw [← r.length]; exact z, ?_⟩)
  exact ⟨.ref s1.heap.objs.size, _, laidT (tk := s1.toks) I1 r z, rfl, q _ _ (I1.hok.fresh (Nat.le_refl _)) tk_new⟩
/-- tuple(a list), tuple(a tuple) -/
theorem call_tupleK : CallR X (.type "tuple") (fun xs H Q => ∃ (p : Addr) (ys : List V), xs = [.ref p] ∧ ((SqL X.K H p ys ∧ ∀ l o, H l = none → Tk o → Q (.ref l) (upd H l (.frz o (.tup ys)))) ∨ (SqT X.K H p ys ∧ Q (.ref p) H))) := by
  intro pins s σ H xs us Q I r h
  obtain ⟨p, ys, rfl, h⟩ := h
  rcases h with ⟨hq, q⟩ | h
  · exact call_tupleF pins s σ H _ us Q I r ⟨p, ys, rfl, hq, fun l o hl h1 h2 => q l o hl ⟨h1, h2⟩⟩
  · exact call_tuple_of pins s σ H _ us Q I r ⟨p, ys, rfl, .inr h⟩
/-- tuple(range(..)) -/
def tTupRgK (te : L2.St → Hp → (Int → Int → Hp → Prop) → Prop) : TE := fun σ H Q => te σ H fun a b H1 => RgOk a b ∧ ∀ p o, H1 p = none → Tk o → Q (.ref p) (upd H1 p (.frz o (.tup (rgV a b))))
theorem pe_tupRgK {e : Expr} {te : L2.St → Hp → (Int → Int → Hp → Prop) → Prop} {p pos : Pos} (hc : X.calm = true) (hg : Gl X "tuple") (hm : X.mg "tuple" = none) (he : PRg X e te) (na : starEach [e] X.env = (false, eval e X.env) :: starEach [] X.env := by rfl) : PE X (.Call (.Name "tuple" p) [e] [] pos) (tTupRgK te) := by
  refine ⟨fun pins s σ H Q I h => ?_⟩
  refine Call_ (ld_blt I hg hm boot_tuple (PyProof.Rows.callWith_type1 (args_cons (thn (he pins s σ H _ I h) ?_) na) na))
  rintro x s1 ⟨r, a, b, t, u, v, H1, rfl, hr, I1, ⟨b1, b2, b3, b4, b5⟩, q⟩
  refine args_nil (call_tuple_range (n := (b - a).toNat) (I1.ok.hd hc) hr (small_one b1 b2 b3 b4) (rangeSize_nat a b) b5 fun h' tk acc keep hin => ?_)
  have J := I1.kept (t' := tk) keep
  have K := laidT (tk := tk) J (vals_rg hin) (by rw [rgV_length, sizeLine_eq]; omega)
  rw [Array.toArray_toList] at K
  exact ⟨.ref h'.objs.size, _, K, rfl, q _ _ (J.hok.fresh (Nat.le_refl _)) tk_new⟩
end
end Lf
namespace Lf
open PySem PySem.Spec PyProof.Rows L2
/-! ## readings over data: a def's body without addresses -/
/-- a region that a def may change, with its state -/
structure Zn where
  S : Type
  at_ : Addr → Prop
  ok : S → Hp → Prop
  trk : ∀ {s : S} {H : Hp} {a : Addr}, ok s H → at_ a → H a ≠ none
  nt : ∀ {s : S} {H : Hp} {a : Addr} {xs : List V}, ok s H → at_ a → H a ≠ some (.tup xs)
  nf : ∀ {s : S} {H : Hp} {a : Addr} {o : Obj} {u : HO}, ok s H → at_ a → H a ≠ some (.frz o u)
  st : ∀ {s : S} {H H' : Hp}, ok s H → (∀ a o, at_ a → H a = some o → H' a = some o) → (∀ b xs, H b = some (.tup xs) → H' b = some (.tup xs)) → (∀ b o u, H b = some (.frz o u) → H' b = some (.frz o u)) → (∀ b f, H b = some (.ext f) → H' b = some (.ext f)) → ok s H'
def Z0 : Zn := ⟨Unit, fun _ => False, fun _ _ => True, fun _ h => h.elim, fun _ h => h.elim, fun _ h => h.elim, fun _ _ _ _ _ => trivial⟩
mutual
inductive Im (B : Addr → Prop) (H : Hp) : V → PyData → Prop
  | non : Im B H .non .none
  | bl (b : Bool) : Im B H (.bl b) (.bool b)
  | int (i : Int) : Im B H (.int i) (.int i)
  | str (x : Str) : Im B H (.str x) (.str x)
  | lst {a : Addr} {xs : List V} {ds : List PyData} : H a = some (.lst xs) → ¬ B a → ImAll B H xs ds → Im B H (.ref a) (.list ds)
  | ftp {a : Addr} {o : Obj} {xs : List V} {ds : List PyData} : H a = some (.frz o (.tup xs)) → Tk o → ImAll B H xs ds → Im B H (.ref a) (.tuple ds)
  | dct {a : Addr} {kvs : List (Key × V)} {es : List (PyData × PyData)} : H a = some (.dK kvs) → ¬ B a → ImKv B H kvs es → Im B H (.ref a) (.dict es)
inductive ImAll (B : Addr → Prop) (H : Hp) : List V → List PyData → Prop
  | nil : ImAll B H [] []
  | cons {v : V} {vs : List V} {d : PyData} {ds : List PyData} : Im B H v d → ImAll B H vs ds → ImAll B H (v :: vs) (d :: ds)
inductive ImKv (B : Addr → Prop) (H : Hp) : List (Key × V) → List (PyData × PyData) → Prop
  | nil : ImKv B H [] []
  | cons {k : Key} {v : V} {r : List (Key × V)} {d : PyData} {es : List (PyData × PyData)} : Im B H v d → ImKv B H r es → ImKv B H ((k, v) :: r) ((keyD k, d) :: es)
end
section
variable {B B' : Addr → Prop} {H H' : Hp}
mutual
theorem Im.mono (kl : ∀ b o, H b = some o → ¬ B b → H' b = some o ∧ ¬ B' b) (kt : ∀ b xs, H b = some (.tup xs) → H' b = some (.tup xs)) (kf : ∀ b o u, H b = some (.frz o u) → H' b = some (.frz o u)) : ∀ {v : V} {d : PyData}, Im B H v d → Im B' H' v d
  | _, _, .non => .non
  | _, _, .bl b => .bl b
  | _, _, .int i => .int i
  | _, _, .str x => .str x
  | _, _, .lst e n q => .lst (kl _ _ e n).1 (kl _ _ e n).2 (ImAll.mono kl kt kf q)
  | _, _, .ftp e t q => .ftp (kf _ _ _ e) t (ImAll.mono kl kt kf q)
  | _, _, .dct e n q => .dct (kl _ _ e n).1 (kl _ _ e n).2 (ImKv.mono kl kt kf q)
theorem ImAll.mono (kl : ∀ b o, H b = some o → ¬ B b → H' b = some o ∧ ¬ B' b) (kt : ∀ b xs, H b = some (.tup xs) → H' b = some (.tup xs)) (kf : ∀ b o u, H b = some (.frz o u) → H' b = some (.frz o u)) : ∀ {vs : List V} {ds : List PyData}, ImAll B H vs ds → ImAll B' H' vs ds
  | _, _, .nil => .nil
  | _, _, .cons q1 q2 => .cons (Im.mono kl kt kf q1) (ImAll.mono kl kt kf q2)
theorem ImKv.mono (kl : ∀ b o, H b = some o → ¬ B b → H' b = some o ∧ ¬ B' b) (kt : ∀ b xs, H b = some (.tup xs) → H' b = some (.tup xs)) (kf : ∀ b o u, H b = some (.frz o u) → H' b = some (.frz o u)) : ∀ {vs : List (Key × V)} {ds : List (PyData × PyData)}, ImKv B H vs ds → ImKv B' H' vs ds
  | _, _, .nil => .nil
  | _, _, .cons q1 q2 => .cons (Im.mono kl kt kf q1) (ImKv.mono kl kt kf q2)
end
mutual
theorem Im.rp : ∀ {v : V} {d : PyData}, Im B H v d → Rp H v d
  | _, _, .non => .non
  | _, _, .bl b => .bl b
  | _, _, .int i => .int i
  | _, _, .str x => .str x
  | _, _, .lst e _ q => .lst e q.rp
  | _, _, .ftp e _ q => .ftp e q.rp
  | _, _, .dct e _ q => .dct e q.rp
theorem ImAll.rp : ∀ {vs : List V} {ds : List PyData}, ImAll B H vs ds → RpAll H vs ds
  | _, _, .nil => .nil
  | _, _, .cons q1 q2 => .cons q1.rp q2.rp
theorem ImKv.rp : ∀ {vs : List (Key × V)} {ds : List (PyData × PyData)}, ImKv B H vs ds → RpKv H vs ds
  | _, _, .nil => .nil
  | _, _, .cons q1 q2 => .cons q1.rp q2.rp
end
mutual
def noL : PyData → Bool
  | .list _ => false
  | .dict _ => false
  | .tuple ds => noLs ds
  | _ => true
def noLs : List PyData → Bool
  | [] => true
  | d :: ds => noL d && noLs ds
end
mutual
theorem Im.free : ∀ {v : V} {d : PyData}, noL d = true → Im B H v d → Im B' H v d
  | _, _, _, .non => .non
  | _, _, _, .bl b => .bl b
  | _, _, _, .int i => .int i
  | _, _, _, .str x => .str x
  | _, _, h, .lst _ _ _ => by cases h
  | _, _, h, .ftp e t q => .ftp e t (ImAll.free h q)
  | _, _, h, .dct _ _ _ => by cases h
theorem ImAll.free : ∀ {vs : List V} {ds : List PyData}, noLs ds = true → ImAll B H vs ds → ImAll B' H vs ds
  | _, _, _, .nil => .nil
  | _, _, h, .cons q1 q2 => .cons (Im.free (Bool.and_eq_true_iff.mp h).1 q1) (ImAll.free (Bool.and_eq_true_iff.mp h).2 q2)
end
theorem ImAll.length : ∀ {vs : List V} {ds : List PyData}, ImAll B H vs ds → vs.length = ds.length
  | _, _, .nil => rfl
  | _, _, .cons _ q => congrArg (· + 1) q.length
theorem ImAll.get : ∀ {vs : List V} {ds : List PyData} {i : Nat} {d : PyData}, ImAll B H vs ds → ds[i]? = some d → ∃ v, vs[i]? = some v ∧ Im B H v d
  | _, _, 0, _, .cons h q, e => by cases e; exact ⟨_, rfl, h⟩
  | _, _, i + 1, _, .cons h q, e => q.get (i := i) e
  | _, _, 0, _, .nil, e => by cases e
  | _, _, _ + 1, _, .nil, e => by cases e
theorem ImAll.gets : ∀ {vs : List V} {ds : List PyData} {i : Nat} {v : V}, ImAll B H vs ds → vs[i]? = some v → ∃ d, ds[i]? = some d ∧ Im B H v d
  | _, _, 0, _, .cons h q, e => by cases e; exact ⟨_, rfl, h⟩
  | _, _, i + 1, _, .cons h q, e => q.gets (i := i) e
  | _, _, 0, _, .nil, e => by cases e
  | _, _, _ + 1, _, .nil, e => by cases e
theorem ImAll.append : ∀ {vs us : List V} {ds es : List PyData}, ImAll B H vs ds → ImAll B H us es → ImAll B H (vs ++ us) (ds ++ es)
  | _, _, _, _, .nil, q => q
  | _, _, _, _, .cons h q, q' => .cons h (q.append q')
theorem ImAll.snoc {vs : List V} {ds : List PyData} {v : V} {d : PyData} (q : ImAll B H vs ds) (h : Im B H v d) : ImAll B H (vs ++ [v]) (ds ++ [d]) := q.append (.cons h .nil)
theorem ImAll.set : ∀ {vs : List V} {ds : List PyData} (i : Nat) {v : V} {d : PyData}, ImAll B H vs ds → Im B H v d → ImAll B H (vs.set i v) (ds.set i d)
  | _, _, _, _, _, .nil, _ => .nil
  | _, _, 0, _, _, .cons _ q, h => .cons h q
  | _, _, i + 1, _, _, .cons h q, h' => .cons h (q.set i h')
theorem ImAll.take : ∀ {vs : List V} {ds : List PyData} (n : Nat), ImAll B H vs ds → ImAll B H (vs.take n) (ds.take n)
  | _, _, 0, _ => .nil
  | _, _, _ + 1, .nil => .nil
  | _, _, n + 1, .cons h q => .cons h (q.take n)
theorem ImAll.drop : ∀ {vs : List V} {ds : List PyData} (n : Nat), ImAll B H vs ds → ImAll B H (vs.drop n) (ds.drop n)
  | _, _, 0, q => q
  | _, _, _ + 1, .nil => .nil
  | _, _, n + 1, .cons _ q => q.drop n
theorem ImAll.reverse : ∀ {vs : List V} {ds : List PyData}, ImAll B H vs ds → ImAll B H vs.reverse ds.reverse
  | _, _, .nil => .nil
  | _, _, .cons h q => by
    rw [List.reverse_cons, List.reverse_cons]
    exact q.reverse.snoc h
end
/-! ### dicts -/
inductive ImPs {κ : Type} (B : Addr → Prop) (H : Hp) : List (κ × V) → List (κ × PyData) → Prop
  | nil : ImPs B H [] []
  | cons {k : κ} {v : V} {r : List (κ × V)} {d : PyData} {es : List (κ × PyData)} : Im B H v d → ImPs B H r es → ImPs B H ((k, v) :: r) ((k, d) :: es)
theorem ImPs.mono {κ : Type} {B B' : Addr → Prop} {H H' : Hp} (kl : ∀ b o, H b = some o → ¬ B b → H' b = some o ∧ ¬ B' b) (kt : ∀ b xs, H b = some (.tup xs) → H' b = some (.tup xs)) (kf : ∀ b o u, H b = some (.frz o u) → H' b = some (.frz o u)) : ∀ {r : List (κ × V)} {es : List (κ × PyData)}, ImPs B H r es → ImPs B' H' r es
  | _, _, .nil => .nil
  | _, _, .cons q1 q2 => .cons (Im.mono kl kt kf q1) (ImPs.mono kl kt kf q2)
/-! ### slots -/
inductive Sl where
  | no
  | im (d : PyData)
  | ow (a : Addr) (l : List PyData)
  | od (a : Addr) (es : List (Key × PyData))
  | ot (a : Addr) (es : List (List Key × PyData))
  | raw (v : V)
def ownOf : Sl → Option Addr
  | .ow a _ => some a
  | .od a _ => some a
  | .ot a _ => some a
  | _ => none
def own (ρ : List Sl) : List Addr := ρ.filterMap ownOf
def Bad (Z : Zn) (B0 : Addr → Prop) (ρ : List Sl) (a : Addr) : Prop := Z.at_ a ∨ B0 a ∨ a ∈ own ρ
def SlR (B : Addr → Prop) (H : Hp) : Sl → Option V → Prop
  | .no, _ => True
  | .im d, o => ∃ v, o = some v ∧ Im B H v d
  | .ow a l, o => o = some (.ref a) ∧ ∃ xs, H a = some (.lst xs) ∧ ImAll B H xs l
  | .od a es, o => o = some (.ref a) ∧ ∃ kvs, H a = some (.dK kvs) ∧ ImPs B H kvs es
  | .ot a es, o => o = some (.ref a) ∧ ∃ kvs, H a = some (.dT kvs) ∧ ImPs B H kvs es
  | .raw v, o => o = some v
structure Rel (Z : Zn) (B0 : Addr → Prop) (H0 : Hp) (ρ : List Sl) (s : Z.S) (σ : L2.St) (H : Hp) : Prop where
  ok : Z.ok s H
  len : σ.length = ρ.length
  sl : ∀ (i : Nat) (x : Sl), ρ[i]? = some x → ∃ o, σ[i]? = some o ∧ SlR (Bad Z B0 ρ) H x o
  nd : (own ρ).Nodup
  fr : ∀ a ∈ own ρ, H0 a = none ∧ ¬ Z.at_ a ∧ ¬ B0 a
  btr : ∀ a, B0 a → H a ≠ none
  frm : ∀ b o, H0 b = some o → ¬ Z.at_ b → H b = some o
def Gr (Z : Zn) (H H' : Hp) : Prop := ∀ b o, H b = some o → ¬ Z.at_ b → H' b = some o
theorem Gr.refl {Z : Zn} {H : Hp} : Gr Z H H := fun _ _ h _ => h
theorem Gr.trans {Z : Zn} {H H1 H2 : Hp} (a : Gr Z H H1) (b : Gr Z H1 H2) : Gr Z H H2 := fun c o h n => b c o (a c o h n) n
theorem Gr.of {Z : Zn} {H H' : Hp} (s : Same H H') : Gr Z H H' := fun b o h _ => s b o h
inductive Rv where
  | im (d : PyData)
  | bo (l : List PyData)
  | fr (l : List PyData)
  | rw (v : V)
def Rv.dat : Rv → PyData
  | .im d => d
  | .bo l => .list l
  | .fr l => .list l
  | .rw _ => .none
def RvR (Z : Zn) (B0 : Addr → Prop) (ρ : List Sl) (H H' : Hp) (v : V) : Rv → Prop
  | .im d => Im (Bad Z B0 ρ) H' v d
  | .bo l => ∃ a xs, a ∈ own ρ ∧ v = .ref a ∧ H' a = some (.lst xs) ∧ ImAll (Bad Z B0 ρ) H' xs l
  | .fr l => ∃ p xs, v = .ref p ∧ H p = none ∧ ¬ Z.at_ p ∧ H' p = some (.lst xs) ∧ ImAll (fun a => Bad Z B0 ρ a ∨ a = p) H' xs l
  | .rw u => v = u
section
variable {Z : Zn} {B0 : Addr → Prop} {H0 H H1 H2 : Hp} {ρ : List Sl} {s s1 s2 : Z.S} {σ : L2.St} {v : V} {r : Rv} {d : PyData} {vs : List V} {ds : List PyData} {B : Addr → Prop}
theorem Zn.ntup (ok : Z.ok s H) {b : Addr} {xs : List V} (h : H b = some (.tup xs)) : ¬ Z.at_ b := fun z => Z.nt ok z h
theorem Zn.nfrz (ok : Z.ok s H) {b : Addr} {o : Obj} {u : HO} (h : H b = some (.frz o u)) : ¬ Z.at_ b := fun z => Z.nf ok z h
theorem Im.grow (hB : ∀ a, Z.at_ a → B a) (ok : Z.ok s H) (g : Gr Z H H1) (h : Im B H v d) : Im B H1 v d := h.mono (fun b o e n => ⟨g b o e fun z => n (hB b z), n⟩) (fun b xs e => g b _ e (Zn.ntup ok e)) (fun b o u e => g b _ e (Zn.nfrz ok e))
theorem ImAll.grow (hB : ∀ a, Z.at_ a → B a) (ok : Z.ok s H) (g : Gr Z H H1) (h : ImAll B H vs ds) : ImAll B H1 vs ds := h.mono (fun b o e n => ⟨g b o e fun z => n (hB b z), n⟩) (fun b xs e => g b _ e (Zn.ntup ok e)) (fun b o u e => g b _ e (Zn.nfrz ok e))
theorem ImPs.grow {κ : Type} {r : List (κ × V)} {es : List (κ × PyData)} (hB : ∀ a, Z.at_ a → B a) (ok : Z.ok s H) (g : Gr Z H H1) (h : ImPs B H r es) : ImPs B H1 r es := h.mono (fun b o e n => ⟨g b o e fun z => n (hB b z), n⟩) (fun b xs e => g b _ e (Zn.ntup ok e)) (fun b o u e => g b _ e (Zn.nfrz ok e))
theorem own_mem {i : Nat} {a : Addr} {l : List PyData} (h : ρ[i]? = some (Sl.ow a l)) : a ∈ own ρ := List.mem_filterMap.mpr ⟨Sl.ow a l, List.mem_of_getElem? h, rfl⟩
theorem own_memG {i : Nat} {a : Addr} {x : Sl} (h : ρ[i]? = some x) (hx : ownOf x = some a) : a ∈ own ρ := List.mem_filterMap.mpr ⟨x, List.mem_of_getElem? h, hx⟩
theorem mem_own {a : Addr} (h : a ∈ own ρ) : ∃ (i : Nat) (x : Sl), ρ[i]? = some x ∧ ownOf x = some a := by
  obtain ⟨x, hx, e⟩ := List.mem_filterMap.mp h
  obtain ⟨i, hi, ei⟩ := List.getElem_of_mem hx
  exact ⟨i, x, by rw [List.getElem?_eq_getElem hi, ei], e⟩
/-- what stands at an owned address -/
theorem Rel.ob (R : Rel Z B0 H0 ρ s σ H) {i : Nat} {x : Sl} {a : Addr} (e : ρ[i]? = some x) (h : ownOf x = some a) : ∃ o, H a = some o ∧ (∀ ys, o ≠ .tup ys) ∧ ∀ u v, o ≠ .frz u v := by
  obtain ⟨o, _, h2⟩ := R.sl i _ e
  cases x with
  | no => cases h
  | im d => cases h
  | raw v => cases h
  | ow b l =>
    cases h
    obtain ⟨_, xs, hx, _⟩ := h2
    exact ⟨_, hx, (fun _ z => nomatch z), (fun _ _ z => nomatch z)⟩
  | od b l =>
    cases h
    obtain ⟨_, xs, hx, _⟩ := h2
    exact ⟨_, hx, (fun _ z => nomatch z), (fun _ _ z => nomatch z)⟩
  | ot b l =>
    cases h
    obtain ⟨_, xs, hx, _⟩ := h2
    exact ⟨_, hx, (fun _ z => nomatch z), (fun _ _ z => nomatch z)⟩
theorem Rel.nx (R : Rel Z B0 H0 ρ s σ H) {i : Nat} {x : Sl} {a : Addr} (e : ρ[i]? = some x) (h : ownOf x = some a) (f : Heap → Prop) : H a ≠ some (.ext f) := by
  obtain ⟨o, _, h2⟩ := R.sl i _ e
  intro z
  cases x with
  | no => cases h
  | im d => cases h
  | raw v => cases h
  | ow b l => cases h; obtain ⟨_, xs, hx, _⟩ := h2; rw [hx] at z; cases z
  | od b l => cases h; obtain ⟨_, xs, hx, _⟩ := h2; rw [hx] at z; cases z
  | ot b l => cases h; obtain ⟨_, xs, hx, _⟩ := h2; rw [hx] at z; cases z
theorem Rel.otr (R : Rel Z B0 H0 ρ s σ H) {a : Addr} (h : a ∈ own ρ) : H a ≠ none := by
  obtain ⟨i, x, e, hx⟩ := mem_own h
  obtain ⟨o, ho, _⟩ := R.ob e hx
  rw [ho]
  exact fun z => nomatch z
/-- what is bad is tracked -/
theorem Rel.bad (R : Rel Z B0 H0 ρ s σ H) {a : Addr} (h : Bad Z B0 ρ a) : H a ≠ none := by
  rcases h with h | h | h
  · exact Z.trk R.ok h
  · exact R.btr a h
  · exact R.otr h
theorem badZ : ∀ a, Z.at_ a → Bad Z B0 ρ a := fun _ h => .inl h
theorem Rel.h0 (R : Rel Z B0 H0 ρ s σ H) {a : Addr} (h : H a = none) : H0 a = none := by
  cases e : H0 a with
  | none => rfl
  | some o =>
    have nz : ¬ Z.at_ a := fun z => Z.trk R.ok z h
    have := R.frm a o e nz
    rw [h] at this
    cases this
theorem Rel.grow (R : Rel Z B0 H0 ρ s σ H) (ok : Z.ok s1 H1) (g : Gr Z H H1) : Rel Z B0 H0 ρ s1 σ H1 := by
  refine ⟨ok, R.len, fun i x e => ?_, R.nd, R.fr, fun a h z => ?_, fun b o e n => g b o (R.frm b o e n) n⟩
  · obtain ⟨o, h1, h2⟩ := R.sl i x e
    refine ⟨o, h1, ?_⟩
    cases x with
    | no => trivial
    | im d =>
      obtain ⟨v, h3, h4⟩ := h2
      exact ⟨v, h3, h4.grow badZ R.ok g⟩
    | ow a l =>
      obtain ⟨h3, xs, h4, h5⟩ := h2
      exact ⟨h3, xs, g a _ h4 (R.fr a (own_mem e)).2.1, h5.grow badZ R.ok g⟩
    | od a l =>
      obtain ⟨h3, xs, h4, h5⟩ := h2
      exact ⟨h3, xs, g a _ h4 (R.fr a (own_memG e rfl)).2.1, h5.grow badZ R.ok g⟩
    | ot a l =>
      obtain ⟨h3, xs, h4, h5⟩ := h2
      exact ⟨h3, xs, g a _ h4 (R.fr a (own_memG e rfl)).2.1, h5.grow badZ R.ok g⟩
    | raw v => exact h2
  · by_cases hz : Z.at_ a
    · exact Z.trk ok hz z
    · cases e : H a with
      | none => exact R.btr a h e
      | some o =>
        rw [g a o e hz] at z
        cases z
theorem none_back (ok : Z.ok s1 H1) (g : Gr Z H H1) {p : Addr} (h : H1 p = none) : H p = none := by
  cases e : H p with
  | none => rfl
  | some o =>
    rw [g p o e fun z => Z.trk ok z h] at h
    cases h
theorem RvR.grow (R : Rel Z B0 H0 ρ s1 σ H1) (g : Gr Z H1 H2) (h : RvR Z B0 ρ H H1 v r) : RvR Z B0 ρ H H2 v r := by
  cases r with
  | im d => exact Im.grow badZ R.ok g h
  | bo l =>
    obtain ⟨a, xs, h1, h2, h3, h4⟩ := h
    exact ⟨a, xs, h1, h2, g a _ h3 (R.fr a h1).2.1, h4.grow badZ R.ok g⟩
  | fr l =>
    obtain ⟨p, xs, h1, h2, hz, h3, h4⟩ := h
    exact ⟨p, xs, h1, h2, hz, g p _ h3 hz, h4.grow (fun a z => .inl (badZ a z)) R.ok g⟩
  | rw u => exact h
theorem RvR.back (ok : Z.ok s1 H1) (g : Gr Z H H1) (h : RvR Z B0 ρ H1 H2 v r) : RvR Z B0 ρ H H2 v r := by
  cases r with
  | fr l =>
    obtain ⟨p, xs, h1, h2, hz, h3, h4⟩ := h
    exact ⟨p, xs, h1, none_back ok g h2, hz, h3, h4⟩
  | _ => exact h
end
end Lf
namespace Lf
open PySem PySem.Spec PyProof.Rows L2
/-! ### sorted of a tuple of ints -/
section
variable {prog : Program} {w : World} {A : Around} {E : Value → Shared → Prop} {s : Shared}
theorem collect_tup {l : Addr} {vs : List Value} {Q : List Value → Shared → Prop} (hl : IsTup s.heap l vs.toArray) (hsz : vs.length ≤ sizeLine)
    (h : Q vs { s with heap := (s.heap.push (seqObj "list" #[] 0)).update s.heap.objs.size (Obj.mapSeq (· ++ vs.toArray)) }) : wpAny (model prog w) A (collect (.ref l)) Q E s := by
  obtain ⟨o, ho, hc, n, hd⟩ := hl
  have ho' : (s.heap.push (seqObj "list" #[] 0)).get? l = some o := Heap.get?_push_of_some _ ho
  unfold collect
  refine wpAny_bind (wpAny_runValue (codeAny_builtin entry_proto_collect' ?_))
  show wpAny _ _ (do again (.builtin "list.__iadd__" ⟨[← newList [], .ref l], []⟩)) _ _ s
  refine wpAny_bind (wpAny_newList (wpAny_pure ⟨Code.quiet_builtin _ (by decide +kernel), codeAny_builtin entry_list_iadd' ?_⟩))
  show wpAny _ _ (Builtin.List.listExtendWith (.ref s.heap.objs.size) (.ref l) (.ref s.heap.objs.size)) _ _ { s with heap := s.heap.push (seqObj "list" #[] 0) }
  unfold Builtin.List.listExtendWith
  refine wpAny_bind (wpAny_typeOf (T := "tuple") ⟨o, ho', hc⟩ ?_)
  rw [if_pos (by rw [show (Value.type "tuple" == Value.type "tuple") = true from rfl, Bool.or_true])]
  refine wpAny_bind (listItems_at ho' hd ?_)
  refine wpAny_bind (listItems_at (xs := #[]) (n := 0) (Heap.get?_push_size _ rfl) rfl ?_)
  rw [if_neg (by simp)]
  refine wpAny_bind (listUpdate_at (xs := #[]) (n := 0) (Heap.get?_push_size _ rfl) rfl ?_ (Nat.zero_le _) (by show (#[] ++ vs.toArray).size ≤ sizeLine + 1; simp only [Array.size_append, List.size_toArray, List.length_nil]; omega))
  refine wpAny_pure ?_
  refine wpAny_bind (wpAny_load (get?_update_seq (Heap.get?_push_size _ rfl) _) ?_)
  show wpAny _ _ (pure ((#[] : Array Value) ++ vs.toArray).toList) Q E _
  rw [show ((#[] : Array Value) ++ vs.toArray).toList = vs by simp]
  exact wpAny_pure h
theorem sorted_tupI {l : Addr} {vs : List Value} {ns : List Int} {Q : Value → Shared → Prop} (hl : IsTup s.heap l vs.toArray) (hI : IntsAre vs ns) (hL : vs.length ≤ sizeLine)
    (h : ∀ (out : Array Value) (ns' : List Int), IntsAre out.toList ns' → ns'.Perm ns → ns'.Pairwise (· ≤ ·) → Q (.ref (s.heap.objs.size + 1)) { s with heap := sortedAll s.heap vs out }) :
    wpAny (model prog w) A (call (.builtin "sorted") [.ref l]) Q E s := by
  refine Calls.call_function_entry kind_sorted plain_sorted entry_sorted (args_sorted1 _) ?_
  unfold Builtin.«sorted»
  refine wpAny_bind (m := checkCount "sorted" 1 1 _) (wpAny_pure ?_)
  refine wpAny_bind (collect_tup hl hL ?_)
  refine wpAny_bind (wpAny_newList ?_)
  have hsz : ((s.heap.push (seqObj "list" #[] 0)).update s.heap.objs.size (Obj.mapSeq (· ++ vs.toArray))).objs.size = s.heap.objs.size + 1 := by
    rw [Heap.size_update, size_push']
  have hoL : (((s.heap.push (seqObj "list" #[] 0)).update s.heap.objs.size (Obj.mapSeq (· ++ vs.toArray))).push (seqObj "list" vs.toArray 0)).get? (s.heap.objs.size + 1) = some (seqObj "list" vs.toArray 0) := by
    rw [← hsz]
    exact Heap.get?_push_size _ rfl
  show wpAny _ _ _ _ _ { s with heap := ((s.heap.push (seqObj "list" #[] 0)).update s.heap.objs.size (Obj.mapSeq (· ++ vs.toArray))).push (seqObj "list" vs.toArray 0) }
  rw [hsz]
  refine wpAny_bind (wpAny_holding (wpAny_call_entry slot_list_sort ⟨_, hoL, rfl⟩ entry_list_sort (list_sort_treeAny hoL hI hL fun out ns' a1 a2 a3 => ⟨_, rfl, ?_⟩) (args_list_sort _)))
  exact wpAny_pure ⟨_, rfl, h out ns' a1 a2 a3⟩
end
section
variable {X : Cx}
theorem cr_sortedTI : CallR X (.builtin "sorted") (fun vs H Q => ∃ (a : Addr) (ns : List Int), vs = [V.ref a] ∧ SqT X.K H a (ns.map V.int) ∧ ∀ (ns' : List Int) (p : Addr), ns'.Perm ns → ns'.Pairwise (· ≤ ·) → H p = none → Q (.ref p) (upd H p (.lst (ns'.map V.int)))) := by
  intro pins s σ H vs us Q I r h
  obtain ⟨a, ns, rfl, hs, q⟩ := h
  obtain ⟨its, rv, hl, hz⟩ := I.tuple hs
  rw [Vals.ref1 r]
  have hi := rv.ints
  refine sorted_tupI hl hi (by rw [← rv.length]; exact hz) fun out ns' h1 h2 h3 => ?_
  obtain ⟨ep, he'⟩ := PyProof.Rows.sortedAll_at s.heap its out
  have hlen : (ns'.map V.int).length ≤ sizeLine := by
    rw [List.length_map, h2.length_eq]
    rw [List.length_map] at hz
    exact hz
  exact ⟨.ref _, upd H (s.heap.objs.size + 1) (.lst (ns'.map V.int)), I.laid (t' := s.toks) (fun _ _ => PyProof.Rows.sortedAll_old) (Nat.le_succ _) ⟨hlen, out.toList, ep, vals_of_ints h1, he'⟩, rfl, q ns' _ h2 h3 (I.hok.fresh (Nat.le_succ _))⟩
/-- xs != [], any items -/
theorem op_neEL (hu : X.A.units < cLine) : OpR X (compareOp .NotEq) (fun x y H Q => ∃ (a b : Addr) (xs : List V), x = .ref a ∧ y = .ref b ∧ SqL X.K H a xs ∧ H b = some (.lst []) ∧ Q (.bl (!xs.isEmpty)) H) := by
  intro pins s σ H x y v u Q I rx ry h
  obtain ⟨a, b, xs, rfl, rfl, ha, hb, q⟩ := h
  cases (show v = Value.ref a from rx)
  cases (show u = Value.ref b from ry)
  obtain ⟨its, rv, pl, _⟩ := I.list ha
  obtain ⟨jts, rw', pl2, _⟩ := I.list (SqL.of hb)
  cases rw'
  cases rv with
  | nil => exact SeqAt.RcNeAt.lists (e := fun _ => true) pl.isList pl2.isList rfl hu (fun j j1 _ => absurd j1 (Nat.not_lt_zero j)) _ _ _ _ ⟨.bl _, H, I, rfl, q⟩
  | cons _ _ => exact SeqAt.RcNeAt.lists_lengths pl.isList pl2.isList (by simp) hu _ _ _ _ ⟨.bl _, H, I, rfl, q⟩
end
end Lf
namespace Lf
open PySem PySem.Spec PyProof.Rows L2
abbrev DX (Z : Zn) := Z.S → List Sl → (Rv → Z.S → Prop) → Prop
abbrev DT (Z : Zn) := Z.S → List Sl → (Bool → Z.S → Prop) → Prop
abbrev DA (Z : Zn) := Z.S → List Sl → (List Rv → Z.S → Prop) → Prop
def Rv.D : Rv → Option PyData
  | .im d => some d
  | .bo l => some (.list l)
  | .fr l => some (.list l)
  | .rw _ => none
/-- what may be kept -/
def Rv.st : Rv → Option PyData
  | .im d => some d
  | .fr l => some (.list l)
  | _ => none
def liftE (Z : Zn) (d : DX Z) : TE := fun σ H Q => ∃ (B0 : Addr → Prop) (H0 : Hp) (ρ : List Sl) (s : Z.S) (Qd : Rv → Z.S → Prop), Rel Z B0 H0 ρ s σ H ∧ d s ρ Qd ∧
  ∀ r s' v H', Qd r s' → Rel Z B0 H0 ρ s' σ H' → Gr Z H H' → RvR Z B0 ρ H H' v r → Q v H'
def liftT (Z : Zn) (d : DT Z) : TT := fun σ H Q => ∃ (B0 : Addr → Prop) (H0 : Hp) (ρ : List Sl) (s : Z.S) (Qd : Bool → Z.S → Prop), Rel Z B0 H0 ρ s σ H ∧ d s ρ Qd ∧
  ∀ b s' H', Qd b s' → Rel Z B0 H0 ρ s' σ H' → Gr Z H H' → Q b H'
inductive RvRs (Z : Zn) (B0 : Addr → Prop) (ρ : List Sl) (H H' : Hp) : List V → List Rv → Prop
  | nil : RvRs Z B0 ρ H H' [] []
  | cons {v : V} {vs : List V} {r : Rv} {rs : List Rv} : RvR Z B0 ρ H H' v r → RvRs Z B0 ρ H H' vs rs → RvRs Z B0 ρ H H' (v :: vs) (r :: rs)
def liftA (Z : Zn) (d : DA Z) : TA := fun σ H Q => ∃ (B0 : Addr → Prop) (H0 : Hp) (ρ : List Sl) (s : Z.S) (Qd : List Rv → Z.S → Prop), Rel Z B0 H0 ρ s σ H ∧ d s ρ Qd ∧
  ∀ rs s' vs H', Qd rs s' → Rel Z B0 H0 ρ s' σ H' → Gr Z H H' → RvRs Z B0 ρ H H' vs rs → Q vs H'
abbrev DE (Z : Zn) (X : Cx) (e : Expr) (d : DX Z) : Prop := PE X e (liftE Z d)
abbrev DTs (Z : Zn) (X : Cx) (e : Expr) (d : DT Z) : Prop := PT X e (liftT Z d)
abbrev DAs (Z : Zn) (X : Cx) (es : List Expr) (d : DA Z) : Prop := PA X es (liftA Z d)
section
variable {Z : Zn} {X : Cx} {B0 : Addr → Prop} {H0 H H1 H2 : Hp} {ρ : List Sl} {s s1 s2 : Z.S} {σ : L2.St} {v u : V} {r x y : Rv} {e a b c : Expr} {da db dc : DX Z} {pos p : Pos}
theorem PE.of {t t' : TE} (h : PE X e t) (w : ∀ σ H Q, t' σ H Q → t σ H Q) : PE X e t' := ⟨fun pins s σ H Q I q => h.run pins s σ H Q I (w σ H Q q)⟩
theorem PT.of {t t' : TT} (h : PT X e t) (w : ∀ σ H Q, t' σ H Q → t σ H Q) : PT X e t' := ⟨fun pins s σ H Q I q => h.run pins s σ H Q I (w σ H Q q)⟩
theorem PA.of {es : List Expr} {t t' : TA} (h : PA X es t) (w : ∀ σ H Q, t' σ H Q → t σ H Q) : PA X es t' := ⟨fun po pins s σ H Q I q => h.run po pins s σ H Q I (w σ H Q q)⟩
theorem RvRs.grow (R : Rel Z B0 H0 ρ s1 σ H1) (g : Gr Z H1 H2) : ∀ {vs : List V} {rs : List Rv}, RvRs Z B0 ρ H H1 vs rs → RvRs Z B0 ρ H H2 vs rs
  | _, _, .nil => .nil
  | _, _, .cons h q => .cons (h.grow R g) (q.grow R g)
theorem RvRs.back (ok : Z.ok s1 H1) (g : Gr Z H H1) : ∀ {vs : List V} {rs : List Rv}, RvRs Z B0 ρ H1 H2 vs rs → RvRs Z B0 ρ H H2 vs rs
  | _, _, .nil => .nil
  | _, _, .cons h q => .cons (h.back ok g) (q.back ok g)
theorem Rel.same (R : Rel Z B0 H0 ρ s σ H) (sm : Same H H1) : Rel Z B0 H0 ρ s σ H1 := R.grow (Z.st R.ok (fun a o _ e => sm a o e) (fun b _ e => sm b _ e) (fun b _ _ e => sm b _ e) (fun b _ e => sm b _ e)) (Gr.of sm)
/-! ### names, constants -/
def dVar (i : Nat) : DX Z := fun s ρ Q => match ρ[i]? with
  | some (.im d) => Q (.im d) s
  | some (.ow _ l) => Q (.bo l) s
  | some (.raw v) => Q (.rw v) s
  | _ => False
theorem de_var {i : Nat} {n : Str} (hN : X.N[i]? = some n) (hv : Vis X.env.scope n) (hd : (n == ("__debug__" : Str)) = false := by decide) (hcd : (n == ("__classdict__" : Str)) = false := by decide) : DE Z X (.Name n pos) (dVar i) := by
  refine PE.of (pe_var hN hv hd hcd) fun σ H Q h => ?_
  obtain ⟨B0, H0, ρ, s, Qd, R, hd, hq⟩ := h
  unfold dVar at hd
  cases e : ρ[i]? with
  | none => rw [e] at hd; exact hd.elim
  | some z =>
    obtain ⟨o, h1, h2⟩ := R.sl i z e
    rw [e] at hd
    cases z with
    | no => exact hd.elim
    | im d =>
      obtain ⟨v, rfl, h3⟩ := h2
      exact ⟨v, h1, hq _ s v H hd R Gr.refl h3⟩
    | ow a l =>
      obtain ⟨rfl, xs, h3, h4⟩ := h2
      exact ⟨.ref a, h1, hq _ s _ H hd R Gr.refl ⟨a, xs, own_mem e, rfl, h3, h4⟩⟩
    | od a l => exact hd.elim
    | ot a l => exact hd.elim
    | raw v =>
      cases h2
      exact ⟨v, h1, hq _ s v H hd R Gr.refl rfl⟩
def dC (d : PyData) : DX Z := fun s _ Q => Q (.im d) s
theorem de_c {d : PyData} (h : PE X e (tC v)) (hv : ∀ B H, Im B H v d) : DE Z X e (dC d) := by
  refine PE.of h fun σ H Q ⟨B0, H0, ρ, s, Qd, R, hd, hq⟩ => ?_
  exact hq _ s v H hd R Gr.refl (hv _ _)
theorem de_int {i j pos} : DE Z X (.Constant (.int i) j pos) (dC (.int i)) := de_c pe_int fun _ _ => .int i
theorem de_bl {i j pos} : DE Z X (.Constant (.bool i) j pos) (dC (.bool i)) := de_c pe_bl fun _ _ => .bl i
theorem de_non {j pos} : DE Z X (.Constant .none j pos) (dC .none) := de_c pe_non fun _ _ => .non
theorem de_str {i j pos} : DE Z X (.Constant (.str i) j pos) (dC (.str i)) := de_c pe_str fun _ _ => .str i
/-! ### reading a result -/
theorem ImAll.bot {B : Addr → Prop} {vs : List V} {ds : List PyData} (h : ImAll B H vs ds) : ImAll (fun _ => False) H vs ds := h.mono (fun _ _ e _ => ⟨e, fun z => z⟩) (fun _ _ e => e) (fun _ _ _ e => e)
theorem Im.bot {B : Addr → Prop} {v : V} {d : PyData} (h : Im B H v d) : Im (fun _ => False) H v d := h.mono (fun _ _ e _ => ⟨e, fun z => z⟩) (fun _ _ e => e) (fun _ _ _ e => e)
theorem RvR.rd {d : PyData} (h : RvR Z B0 ρ H H1 v r) (e : r.D = some d) : Im (fun _ => False) H1 v d := by
  cases r with
  | im d' =>
    cases e
    exact Im.bot h
  | bo l =>
    cases e
    obtain ⟨a, xs, _, rfl, h3, h4⟩ := h
    exact .lst h3 (fun z => z) h4.bot
  | fr l =>
    cases e
    obtain ⟨a, xs, rfl, _, _, h3, h4⟩ := h
    exact .lst h3 (fun z => z) h4.bot
  | rw u => cases e
theorem RvR.st {d : PyData} (R : Rel Z B0 H0 ρ s σ H) (h : RvR Z B0 ρ H H1 v r) (e : r.st = some d) : Im (Bad Z B0 ρ) H1 v d := by
  cases r with
  | im d' =>
    cases e
    exact h
  | fr l =>
    cases e
    obtain ⟨a, xs, rfl, h1, h2, h3, h4⟩ := h
    exact .lst h3 (fun z => R.bad z h1) (h4.mono (fun _ _ e n => ⟨e, fun z => n (.inl z)⟩) (fun _ _ e => e) (fun _ _ _ e => e))
  | _ => cases e
/-- a list -/
theorem RvR.lst {l : List PyData} (h : RvR Z B0 ρ H H1 v r) (e : r.D = some (.list l)) : ∃ a xs, v = .ref a ∧ H1 a = some (.lst xs) ∧ ImAll (Bad Z B0 ρ) H1 xs l := by
  cases r with
  | im d' =>
    cases e
    cases h with
    | lst h1 _ h2 => exact ⟨_, _, rfl, h1, h2⟩
  | bo l =>
    cases e
    obtain ⟨a, xs, _, rfl, h3, h4⟩ := h
    exact ⟨a, xs, rfl, h3, h4⟩
  | fr l =>
    cases e
    obtain ⟨a, xs, rfl, _, _, h3, h4⟩ := h
    exact ⟨a, xs, rfl, h3, h4.mono (fun _ _ e n => ⟨e, fun z => n (.inl z)⟩) (fun _ _ e => e) (fun _ _ _ e => e)⟩
  | rw u => cases e
theorem RvR.tup {K : PySem.W.Frag} {l : List PyData} (h : RvR Z B0 ρ H H1 v r) (e : r.D = some (.tuple l)) : ∃ a xs, v = .ref a ∧ SqT K H1 a xs ∧ ImAll (Bad Z B0 ρ) H1 xs l := by
  cases r with
  | im d' =>
    cases e
    cases h with
    | ftp h1 _ h2 => exact ⟨_, _, rfl, .inl (.inr ⟨_, h1⟩), h2⟩
  | bo l => cases e
  | fr l => cases e
  | rw u => cases e
theorem RvR.vI {i : Int} (h : RvR Z B0 ρ H H1 v r) (e : r.D = some (.int i)) : v = .int i := by cases h.rd e; rfl
theorem RvR.vB {i : Bool} (h : RvR Z B0 ρ H H1 v r) (e : r.D = some (.bool i)) : v = .bl i := by cases h.rd e; rfl
theorem RvR.vS {i : Str} (h : RvR Z B0 ρ H H1 v r) (e : r.D = some (.str i)) : v = .str i := by cases h.rd e; rfl
theorem RvR.vN (h : RvR Z B0 ρ H H1 v r) (e : r.D = some .none) : v = .non := by cases h.rd e; rfl
mutual
theorem dp_of {K : PySem.W.Frag} {B : Addr → Prop} : ∀ {v : V} {d : PyData}, PyData.canLay0 d = true → Im B H v d → Dp K H v d
  | _, _, _, .non => .non
  | _, _, _, .bl b => .bl b
  | _, _, _, .int i => .int i
  | _, _, _, .str x => .str x
  | _, _, h, .lst e _ q => .lst (SqL.of e) (dps_of (by simpa [PyData.canLay0] using h) q)
  | _, _, h, .ftp e _ q => .tup (.inl (.inr ⟨_, e⟩)) (dps_of (by simpa [PyData.canLay0] using h) q)
  | _, _, h, .dct _ _ _ => by simp [PyData.canLay0] at h
theorem dps_of {K : PySem.W.Frag} {B : Addr → Prop} : ∀ {vs : List V} {ds : List PyData}, PyData.canLayAll0 ds = true → ImAll B H vs ds → DpAll K H vs ds
  | _, _, _, .nil => .nil
  | _, _, h, .cons q1 q2 => by
    simp only [PyData.canLayAll0, Bool.and_eq_true] at h
    exact .cons (dp_of h.1 q1) (dps_of h.2 q2)
end
/-! ### operators -/
abbrev Op := Rv → Rv → (Rv → Prop) → Prop
def dBin (op : Op) (da db : DX Z) : DX Z := fun s ρ Q => da s ρ fun x s1 => db s1 ρ fun y s2 => op x y fun r => Q r s2
def Op2 (K : PySem.W.Frag) (r : R2) (op : Op) : Prop := ∀ (Z : Zn) (B0 : Addr → Prop) (ρ : List Sl) (s : Z.S) (H0 : Hp) (σ : L2.St) (Ha Hb H : Hp) (v u : V) (x y : Rv) (Qd : Rv → Prop) (Q : VK), Rel Z B0 H0 ρ s σ H → RvR Z B0 ρ Ha H v x → RvR Z B0 ρ Hb H u y → op x y Qd →
  (∀ r' v' H', Qd r' → Same H H' → RvR Z B0 ρ H H' v' r' → Q v' H') → r v u H Q
theorem lift_bin {op : Op} {r : R2} {K : PySem.W.Frag} (h2 : Op2 K r op) {σ : L2.St} {H : Hp} {Q : VK} (h : liftE Z (dBin op da db) σ H Q) : tOp r (liftE Z da) (liftE Z db) σ H Q := by
  obtain ⟨B0, H0, ρ, s, Qd, R, hd, hq⟩ := h
  refine ⟨B0, H0, ρ, s, _, R, hd, fun x s1 v H1 qx R1 g1 r1 => ?_⟩
  refine ⟨B0, H0, ρ, s1, _, R1, qx, fun y s2 u H2 qy R2 g2 r2 => ?_⟩
  exact h2 Z B0 ρ s2 H0 σ _ _ H2 v u x y _ Q R2 (r1.grow R1 g2) r2 qy fun r' v' H' q sm rr => hq r' s2 v' H' q (R2.same sm) (g1.trans (g2.trans (Gr.of sm))) (rr.back R2.ok (g1.trans g2))
theorem Op2.or {K : PySem.W.Frag} {r r' : R2} {op op' : Op} (h : Op2 K r op) (h' : Op2 K r' op') : Op2 K (fun x y H Q => r x y H Q ∨ r' x y H Q) (fun x y Q => op x y Q ∨ op' x y Q) := fun Z B0 ρ s H0 σ Ha Hb H v u x y Qd Q R rx ry q k => by
  rcases q with q | q
  · exact .inl (h Z B0 ρ s H0 σ Ha Hb H v u x y Qd Q R rx ry q k)
  · exact .inr (h' Z B0 ρ s H0 σ Ha Hb H v u x y Qd Q R rx ry q k)
/-- two ints -/
def opI (C : Int → Int → Prop) (g : Int → Int → PyData) : Op := fun x y Q => match x.D, y.D with
  | some (.int i), some (.int j) => C i j ∧ Q (.im (g i j))
  | _, _ => False
theorem opI_get {C : Int → Int → Prop} {g : Int → Int → PyData} {Q : Rv → Prop} (h : opI C g x y Q) : ∃ i j, x.D = some (.int i) ∧ y.D = some (.int j) ∧ C i j ∧ Q (.im (g i j)) := by
  unfold opI at h
  split at h
  · rename_i i j e1 e2
    exact ⟨i, j, e1, e2, h⟩
  · exact h.elim
theorem op2_I {K : PySem.W.Frag} {C : Int → Int → Prop} {g : Int → Int → PyData} {gv : Int → Int → V} (hg : ∀ i j B H, Im B H (gv i j) (g i j)) : Op2 K (rI C gv) (opI C g) := fun Z B0 ρ s H0 σ Ha Hb H v u x y Qd Q R rx ry q k => by
  obtain ⟨i, j, e1, e2, hc, q⟩ := opI_get q
  exact ⟨i, j, rx.vI e1, ry.vI e2, hc, k _ _ _ q (Same.refl H) (hg i j _ _)⟩
def opI0 (g : Int → Int → PyData) : Op := fun x y Q => match x.D, y.D with
  | some (.int i), some (.int j) => Q (.im (g i j))
  | _, _ => False
theorem opI0_get {g : Int → Int → PyData} {Q : Rv → Prop} (h : opI0 g x y Q) : ∃ i j, x.D = some (.int i) ∧ y.D = some (.int j) ∧ Q (.im (g i j)) := by
  unfold opI0 at h
  split at h
  · rename_i i j e1 e2
    exact ⟨i, j, e1, e2, h⟩
  · exact h.elim
theorem op2_I0 {K : PySem.W.Frag} {g : Int → Int → PyData} {gv : Int → Int → V} (hg : ∀ i j B H, Im B H (gv i j) (g i j)) : Op2 K (rI0 gv) (opI0 g) := fun Z B0 ρ s H0 σ Ha Hb H v u x y Qd Q R rx ry q k => by
  obtain ⟨i, j, e1, e2, q⟩ := opI0_get q
  exact ⟨i, j, rx.vI e1, ry.vI e2, k _ _ _ q (Same.refl H) (hg i j _ _)⟩
end
end Lf
namespace Lf
open PySem PySem.Spec PyProof.Rows L2
section
variable {Z : Zn} {X : Cx} {B0 : Addr → Prop} {H0 H H1 H2 : Hp} {ρ : List Sl} {s s1 s2 : Z.S} {σ : L2.St} {v u : V} {r x y : Rv} {e a b c : Expr} {da db dc : DX Z} {pos p : Pos} {K : PySem.W.Frag} {B : Addr → Prop}
theorem ImAll.same {vs : List V} {ds : List PyData} (h : ImAll B H vs ds) (sm : Same H H1) : ImAll B H1 vs ds := h.mono (fun b o e n => ⟨sm b o e, n⟩) (fun b xs e => sm b _ e) (fun b o u e => sm b _ e)
theorem Im.same {d : PyData} (h : Im B H v d) (sm : Same H H1) : Im B H1 v d := h.mono (fun b o e n => ⟨sm b o e, n⟩) (fun b xs e => sm b _ e) (fun b o u e => sm b _ e)
theorem ImAll.fresh {vs : List V} {ds : List PyData} {q : Addr} {o : HO} (h : ImAll B H vs ds) (hq : H q = none) : ImAll (fun a => B a ∨ a = q) (upd H q o) vs ds :=
  h.mono (fun b o e n => ⟨by rw [upd_ne (ne_of_none e hq)]; exact e, fun z => z.elim n (ne_of_none e hq)⟩) (fun b xs e => by rw [upd_ne (ne_of_none e hq)]; exact e) (fun b o u e => by rw [upd_ne (ne_of_none e hq)]; exact e)
/-- a new list -/
theorem Rel.newL (R : Rel Z B0 H0 ρ s σ H) {q : Addr} {xs : List V} {l : List PyData} (hq : H q = none) (h : ImAll (Bad Z B0 ρ) H xs l) : RvR Z B0 ρ H (upd H q (.lst xs)) (.ref q) (.fr l) :=
  ⟨q, xs, rfl, hq, fun z => Z.trk R.ok z hq, upd_same, h.fresh hq⟩
theorem newT {q : Addr} {xs : List V} {l : List PyData} {o : Obj} (hq : H q = none) (tk : Tk o) (h : ImAll (Bad Z B0 ρ) H xs l) : RvR Z B0 ρ H (upd H q (.frz o (.tup xs))) (.ref q) (.im (.tuple l)) := Im.ftp upd_same tk (h.same (same_new hq))
theorem smB {n : Nat} (h : n ≤ 1000000) : n ≤ sizeLine := by rw [sizeLine_eq]; omega
/-! ### + -/
def opAdd : Op := fun x y Q => match x.D, y.D with
  | some (.int i), some (.int j) => Q (.im (.int (i + j)))
  | some (.list l), some (.list m) => l.length + m.length ≤ 1000000 ∧ Q (.fr (l ++ m))
  | some (.tuple l), some (.tuple m) => l.length + m.length ≤ 1000000 ∧ Q (.im (.tuple (l ++ m)))
  | some (.str i), some (.str j) => i.length + j.length ≤ 1000000 ∧ Q (.im (.str (i ++ j)))
  | _, _ => False
theorem de_add (ha : DE Z X a da) (hb : DE Z X b db) : DE Z X (.BinOp a .Add b pos) (dBin opAdd da db) := by
  refine PE.of (pe_op ((op_add.or op_cat).or (op_catK.or op_add_str)) ha hb) fun σ H Q h => lift_bin (K := X.K) ?_ h
  intro Z B0 ρ s H0 σ Ha Hb H v u x y Qd Q R rx ry q k
  unfold opAdd at q
  split at q
  · rename_i i j e1 e2
    exact .inl (.inl ⟨i, j, rx.vI e1, ry.vI e2, k _ _ _ q (Same.refl H) (Im.int _)⟩)
  · rename_i l m e1 e2
    obtain ⟨a, xs, rfl, h1, h2⟩ := rx.lst e1
    obtain ⟨b, ys, rfl, h3, h4⟩ := ry.lst e2
    refine .inl (.inr ⟨a, b, xs, ys, rfl, rfl, h1, h3, by rw [h2.length, h4.length]; exact smB q.1, fun p hp => k _ _ _ q.2 (same_new hp) (R.newL hp (h2.append h4))⟩)
  · rename_i l m e1 e2
    obtain ⟨a, xs, rfl, h1, h2⟩ := rx.tup (K := X.K) e1
    obtain ⟨b, ys, rfl, h3, h4⟩ := ry.tup (K := X.K) e2
    refine .inr (.inl ⟨a, b, xs, ys, rfl, rfl, h1, h3, by rw [h2.length, h4.length]; exact smB q.1, fun e => ?_, fun e => ?_, fun p o hp tk => k _ _ _ q.2 (same_new hp) (newT hp tk (h2.append h4))⟩)
    · subst e
      have e : m = [] := List.length_eq_zero_iff.mp h4.length.symm
      subst e
      rw [List.append_nil] at q
      refine k _ _ _ q.2 (Same.refl H) ?_
      cases x with
      | im d => cases e1; exact rx
      | _ => cases e1
    · subst e
      have e : l = [] := List.length_eq_zero_iff.mp h2.length.symm
      subst e
      rw [List.nil_append] at q
      refine k _ _ _ q.2 (Same.refl H) ?_
      cases y with
      | im d => cases e2; exact ry
      | _ => cases e2
  · rename_i i j e1 e2
    exact .inr (.inr ⟨i, j, rx.vS e1, ry.vS e2, smB q.1, k _ _ _ q.2 (Same.refl H) (Im.str _)⟩)
  · exact q.elim
/-! ### ints -/
abbrev opSub : Op := opI0 fun i j => .int (i - j)
theorem de_sub (ha : DE Z X a da) (hb : DE Z X b db) : DE Z X (.BinOp a .Sub b pos) (dBin opSub da db) := PE.of (pe_op op_sub ha hb) fun σ H Q h => lift_bin (K := X.K) (op2_I0 fun _ _ _ _ => .int _) h
/-- // by a positive number below 2 ^ 9000 -/
abbrev opDiv : Op := opI CDivW fun i j => .int (i / j)
theorem de_div (ha : DE Z X a da) (hb : DE Z X b db) : DE Z X (.BinOp a .FloorDiv b pos) (dBin opDiv da db) := PE.of (pe_op op_fdivW ha hb) fun σ H Q h => lift_bin (K := X.K) (op2_I fun _ _ _ _ => .int _) h
abbrev opMod : Op := opI (fun _ j => 0 < j) fun i j => .int (i % j)
theorem de_mod (ha : DE Z X a da) (hb : DE Z X b db) : DE Z X (.BinOp a .Mod b pos) (dBin opMod da db) := PE.of (pe_op op_mod ha hb) fun σ H Q h => lift_bin (K := X.K) (op2_I fun _ _ _ _ => .int _) h
abbrev opPow : Op := opI CPow fun i j => .int (i ^ j.toNat)
theorem de_pow (ha : DE Z X a da) (hb : DE Z X b db) : DE Z X (.BinOp a .Pow b pos) (dBin opPow da db) := PE.of (pe_op op_pow ha hb) fun σ H Q h => lift_bin (K := X.K) (op2_I fun _ _ _ _ => .int _) h
abbrev opShl : Op := opI CPow fun i j => .int (i * 2 ^ j.toNat)
theorem de_shl (ha : DE Z X a da) (hb : DE Z X b db) : DE Z X (.BinOp a .LShift b pos) (dBin opShl da db) := PE.of (pe_op op_shl ha hb) fun σ H Q h => lift_bin (K := X.K) (op2_I fun _ _ _ _ => .int _) h
abbrev opBand : Op := opI0 fun i j => .int (Builtin.bitAnd i j)
theorem de_band (ha : DE Z X a da) (hb : DE Z X b db) : DE Z X (.BinOp a .BitAnd b pos) (dBin opBand da db) := PE.of (pe_op op_and ha hb) fun σ H Q h => lift_bin (K := X.K) (op2_I0 fun _ _ _ _ => .int _) h
/-! ### * -/
def opMul : Op := fun x y Q => match x.D, y.D with
  | some (.int i), some (.int j) => CMulW i j ∧ Q (.im (.int (i * j)))
  | some (.list l), some (.int k) => -(2 ^ 63) ≤ k ∧ k < 2 ^ 63 ∧ l.length * k.toNat ≤ 1000000 ∧ Q (.fr (List.replicate k.toNat l).flatten)
  | _, _ => False
theorem ImAll.rep {vs : List V} {ds : List PyData} (h : ImAll B H vs ds) : ∀ n : Nat, ImAll B H (List.replicate n vs).flatten (List.replicate n ds).flatten
  | 0 => .nil
  | n + 1 => by
    rw [List.replicate_succ, List.replicate_succ, List.flatten_cons, List.flatten_cons]
    exact h.append (h.rep n)
theorem de_mul (ha : DE Z X a da) (hb : DE Z X b db) : DE Z X (.BinOp a .Mult b pos) (dBin opMul da db) := by
  refine PE.of (pe_op (op_mulW.or op_rep) ha hb) fun σ H Q h => lift_bin (K := X.K) ?_ h
  intro Z B0 ρ s H0 σ Ha Hb H v u x y Qd Q R rx ry q k
  unfold opMul at q
  split at q
  · rename_i i j e1 e2
    exact .inl ⟨i, j, rx.vI e1, ry.vI e2, q.1, k _ _ _ q.2 (Same.refl H) (Im.int _)⟩
  · rename_i l m e1 e2
    obtain ⟨a, xs, rfl, h1, h2⟩ := rx.lst e1
    exact .inr ⟨a, m, xs, rfl, ry.vI e2, h1, q.1, q.2.1, by rw [h2.length]; exact smB q.2.2.1, fun p hp => k _ _ _ q.2.2.2 (same_new hp) (R.newL hp (h2.rep _))⟩
  · exact q.elim
/-! ### comparisons -/
def cmpI (g : Int → Int → Bool) : Op := opI0 fun i j => .bool (g i j)
theorem de_lt (ha : DE Z X a da) (hb : DE Z X b db) : DE Z X (.Compare a [.Lt] [b] pos) (dBin (cmpI fun i j => decide (i < j)) da db) := PE.of (pe_cmpR op_lt ha hb (nomark _)) fun σ H Q h => lift_bin (K := X.K) (op2_I0 fun _ _ _ _ => .bl _) h
theorem de_le (ha : DE Z X a da) (hb : DE Z X b db) : DE Z X (.Compare a [.LtE] [b] pos) (dBin (cmpI fun i j => decide (i ≤ j)) da db) := PE.of (pe_cmpR op_le ha hb (nomark _)) fun σ H Q h => lift_bin (K := X.K) (op2_I0 fun _ _ _ _ => .bl _) h
theorem de_gt (ha : DE Z X a da) (hb : DE Z X b db) : DE Z X (.Compare a [.Gt] [b] pos) (dBin (cmpI fun i j => decide (j < i)) da db) := PE.of (pe_cmpR op_gt ha hb (nomark _)) fun σ H Q h => lift_bin (K := X.K) (op2_I0 fun _ _ _ _ => .bl _) h
theorem de_ge (ha : DE Z X a da) (hb : DE Z X b db) : DE Z X (.Compare a [.GtE] [b] pos) (dBin (cmpI fun i j => decide (j ≤ i)) da db) := PE.of (pe_cmpR op_ge ha hb (nomark _)) fun σ H Q h => lift_bin (K := X.K) (op2_I0 fun _ _ _ _ => .bl _) h
/-- == of data -/
def opEq : Op := fun x y Q => match x.D, y.D with
  | some (.int i), some (.int j) => Q (.im (.bool (decide (i = j))))
  | some (.str i), some (.str j) => Q (.im (.bool (decide (i = j))))
  | some d, some e => SeqAt.shaped d = true ∧ SeqAt.shaped e = true ∧ Q (.im (.bool (PyData.eqv d e)))
  | _, _ => False
def opNe : Op := fun x y Q => match x.D, y.D with
  | some (.int i), some (.int j) => Q (.im (.bool (!decide (i = j))))
  | some (.str i), some (.str j) => Q (.im (.bool (!decide (i = j))))
  | some d, some e => SeqAt.shaped d = true ∧ SeqAt.shaped e = true ∧ Q (.im (.bool (!PyData.eqv d e)))
  | _, _ => False
theorem decI {i j : Int} : decide (V.int i = V.int j) = decide (i = j) := decide_eq_decide.mpr ⟨fun z => V.int.inj z, fun z => by rw [z]⟩
theorem decS {i j : Str} : decide (V.str i = V.str j) = decide (i = j) := decide_eq_decide.mpr ⟨fun z => V.str.inj z, fun z => by rw [z]⟩
theorem de_eq (hu : X.A.units + 65 < cLine) (ha : DE Z X a da) (hb : DE Z X b db) : DE Z X (.Compare a [.Eq] [b] pos) (dBin opEq da db) := by
  refine PE.of (pe_cmpR (op_eq.or (op_eqD (by omega))) ha hb (nomark _)) fun σ H Q h => lift_bin (K := X.K) ?_ h
  intro Z B0 ρ s H0 σ Ha Hb H v u x y Qd Q R rx ry q k
  unfold opEq at q
  split at q
  · rename_i i j e1 e2
    rw [rx.vI e1, ry.vI e2]
    exact .inl ⟨rfl, by rw [decI]; exact k _ _ _ q (Same.refl H) (Im.bl _)⟩
  · rename_i i j e1 e2
    rw [rx.vS e1, ry.vS e2]
    exact .inl ⟨rfl, by rw [decS]; exact k _ _ _ q (Same.refl H) (Im.bl _)⟩
  · rename_i d e _ _ e1 e2
    exact .inr ⟨d, e, dp_of (SeqAt.canLay_of_shaped q.1) (rx.rd e1), dp_of (SeqAt.canLay_of_shaped q.2.1) (ry.rd e2), q.1, q.2.1, k _ _ _ q.2.2 (Same.refl H) (Im.bl _)⟩
  · exact q.elim
theorem de_ne (hu : X.A.units + 65 < cLine) (ha : DE Z X a da) (hb : DE Z X b db) : DE Z X (.Compare a [.NotEq] [b] pos) (dBin opNe da db) := by
  refine PE.of (pe_cmpR (op_ne.or (op_neD (by omega))) ha hb (nomark _)) fun σ H Q h => lift_bin (K := X.K) ?_ h
  intro Z B0 ρ s H0 σ Ha Hb H v u x y Qd Q R rx ry q k
  unfold opNe at q
  split at q
  · rename_i i j e1 e2
    rw [rx.vI e1, ry.vI e2]
    exact .inl ⟨rfl, by rw [decI]; exact k _ _ _ q (Same.refl H) (Im.bl _)⟩
  · rename_i i j e1 e2
    rw [rx.vS e1, ry.vS e2]
    exact .inl ⟨rfl, by rw [decS]; exact k _ _ _ q (Same.refl H) (Im.bl _)⟩
  · rename_i d e _ _ e1 e2
    exact .inr ⟨d, e, dp_of (SeqAt.canLay_of_shaped q.1) (rx.rd e1), dp_of (SeqAt.canLay_of_shaped q.2.1) (ry.rd e2), q.1, q.2.1, k _ _ _ q.2.2 (Same.refl H) (Im.bl _)⟩
  · exact q.elim
/-- x in a list or a tuple -/
def opIn (neg : Bool) : Op := fun x y Q => match x.D, y.D with
  | some d, some (.list l) => SeqAt.shaped d = true ∧ SeqAt.shaped (.list l) = true ∧ Q (.im (.bool (neg != l.any fun z => PyData.eqv z d)))
  | some d, some (.tuple l) => SeqAt.shaped d = true ∧ SeqAt.shaped (.list l) = true ∧ Q (.im (.bool (neg != l.any fun z => PyData.eqv z d)))
  | _, _ => False
theorem op_notInDT {X : Cx} (hu : X.A.units + 65 < cLine) : OpR X (compareOp .NotIn) (fun x y H Q => ∃ d ds, Dp X.K H x d ∧ Dp X.K H y (.tuple ds) ∧ SeqAt.shaped d = true ∧ SeqAt.shaped (.tuple ds) = true ∧ Q (.bl (!ds.any fun z => PyData.eqv z d)) H) := by
  intro pins s σ H x y v u Q I rx ry h
  obtain ⟨d, ds, h1, h2, h3, h4, q⟩ := h
  obtain ⟨as, ra⟩ := Dp.reads I _ _ _ h1 rx
  obtain ⟨bs, rb⟩ := Dp.reads I _ _ _ h2 ry
  exact SeqAt.notIn_tuple_reads rb ra (SeqAt.canLay_of_shaped h4) (SeqAt.canLay_of_shaped h3) (room_in_shaped h3 hu) ⟨.bl _, H, I, rfl, q⟩
theorem shT (l : List PyData) : SeqAt.shaped (.tuple l) = SeqAt.shaped (.list l) := rfl
theorem de_in (hu : X.A.units + 65 < cLine) (ha : DE Z X a da) (hb : DE Z X b db) (hm : behindInMarks .In b = false := by rfl) : DE Z X (.Compare a [.In] [b] pos) (dBin (opIn false) da db) := by
  refine PE.of (pe_cmpR ((op_inD hu).or (op_inDT hu)) ha hb hm) fun σ H Q h => lift_bin (K := X.K) ?_ h
  intro Z B0 ρ s H0 σ Ha Hb H v u x y Qd Q R rx ry q k
  unfold opIn at q
  split at q
  · rename_i d l e1 e2
    refine .inl ⟨d, l, dp_of (SeqAt.canLay_of_shaped q.1) (rx.rd e1), dp_of (SeqAt.canLay_of_shaped q.2.1) (ry.rd e2), q.1, q.2.1, ?_⟩
    refine k _ _ _ q.2.2 (Same.refl H) ?_
    rw [Bool.false_bne]
    exact Im.bl _
  · rename_i d l e1 e2
    refine .inr ⟨d, l, dp_of (SeqAt.canLay_of_shaped q.1) (rx.rd e1), dp_of (SeqAt.canLay_of_shaped q.2.1) (ry.rd e2), q.1, q.2.1, ?_⟩
    refine k _ _ _ q.2.2 (Same.refl H) ?_
    rw [Bool.false_bne]
    exact Im.bl _
  · exact q.elim
theorem de_notin (hu : X.A.units + 65 < cLine) (ha : DE Z X a da) (hb : DE Z X b db) (hm : behindInMarks .NotIn b = false := by rfl) : DE Z X (.Compare a [.NotIn] [b] pos) (dBin (opIn true) da db) := by
  refine PE.of (pe_cmpR ((op_notInD hu).or (op_notInDT hu)) ha hb hm) fun σ H Q h => lift_bin (K := X.K) ?_ h
  intro Z B0 ρ s H0 σ Ha Hb H v u x y Qd Q R rx ry q k
  unfold opIn at q
  split at q
  · rename_i d l e1 e2
    refine .inl ⟨d, l, dp_of (SeqAt.canLay_of_shaped q.1) (rx.rd e1), dp_of (SeqAt.canLay_of_shaped q.2.1) (ry.rd e2), q.1, q.2.1, ?_⟩
    refine k _ _ _ q.2.2 (Same.refl H) ?_
    rw [Bool.true_bne]
    exact Im.bl _
  · rename_i d l e1 e2
    refine .inr ⟨d, l, dp_of (SeqAt.canLay_of_shaped q.1) (rx.rd e1), dp_of (SeqAt.canLay_of_shaped q.2.1) (ry.rd e2), q.1, q.2.1, ?_⟩
    refine k _ _ _ q.2.2 (Same.refl H) ?_
    rw [Bool.true_bne]
    exact Im.bl _
  · exact q.elim
/-! ### x[i] -/
def opIx : Op := fun x y Q => match x.D, y.D with
  | some (.list l), some (.int i) => ∃ d, atI l i = some d ∧ Q (.im d)
  | some (.tuple l), some (.int i) => ∃ d, atI l i = some d ∧ Q (.im d)
  | _, _ => False
theorem ImAll.atI {vs : List V} {ds : List PyData} {i : Int} {d : PyData} (h : ImAll B H vs ds) (e : L2.atI ds i = some d) : ∃ v, L2.atI vs i = some v ∧ Im B H v d := by
  unfold L2.atI at e ⊢
  rw [h.length]
  cases z : ixN ds.length i with
  | none => rw [z] at e; cases e
  | some j =>
    rw [z] at e
    exact h.get (i := j) e
theorem IxR.or {r r' : R2} (h : IxR X r) (h' : IxR X r') : IxR X (fun x y H Q => r x y H Q ∨ r' x y H Q) := by
  intro value slice pins s σ H x y v u Q I rx ry q hs
  rcases q with q | q
  · exact h value slice pins s σ H x y v u Q I rx ry q hs
  · exact h' value slice pins s σ H x y v u Q I rx ry q hs
theorem de_ix (ha : DE Z X a da) (hb : DE Z X b db) (hs : PlainIx b := by exact fun _ _ => rfl) : DE Z X (.Subscript a b pos) (dBin opIx da db) := by
  refine PE.of (pe_ix (IxR.or ix_list ix_tup) ha hb hs) fun σ H Q h => lift_bin (K := X.K) ?_ h
  intro Z B0 ρ s H0 σ Ha Hb H v u x y Qd Q R rx ry q k
  unfold opIx at q
  split at q
  · rename_i l i e1 e2
    obtain ⟨d, hd, q⟩ := q
    obtain ⟨a, xs, rfl, h1, h2⟩ := rx.lst e1
    obtain ⟨w, hw, h3⟩ := h2.atI hd
    exact .inl ⟨a, xs, i, w, rfl, ry.vI e2, SqL.of h1, hw, k _ _ _ q (Same.refl H) h3⟩
  · rename_i l i e1 e2
    obtain ⟨d, hd, q⟩ := q
    obtain ⟨a, xs, rfl, h1, h2⟩ := rx.tup (K := X.K) e1
    obtain ⟨w, hw, h3⟩ := h2.atI hd
    exact .inr ⟨a, xs, i, w, rfl, ry.vI e2, h1, hw, k _ _ _ q (Same.refl H) h3⟩
  · exact q.elim
end
end Lf
namespace Lf
open PySem PySem.Spec PyProof.Rows L2
section
variable {Z : Zn} {X : Cx} {B0 : Addr → Prop} {H0 H H1 H2 : Hp} {ρ : List Sl} {s s1 s2 : Z.S} {σ : L2.St} {v u : V} {r x y : Rv} {e a b c : Expr} {es : List Expr} {de da db dc : DX Z} {das : DA Z} {pos p : Pos} {K : PySem.W.Frag} {B : Addr → Prop}
/-! ### arguments -/
def dANil : DA Z := fun s _ Q => Q [] s
def dACons (de : DX Z) (da : DA Z) : DA Z := fun s ρ Q => de s ρ fun r s1 => da s1 ρ fun rs s2 => Q (r :: rs) s2
theorem da_nil : DAs Z X [] dANil := PA.of pa_nil fun σ H Q ⟨B0, H0, ρ, s, Qd, R, hd, hq⟩ => hq [] s [] H hd R Gr.refl .nil
theorem da_cons (he : DE Z X e de) (ha : DAs Z X es das) (hs : starEach (e :: es) X.env = (false, eval e X.env) :: starEach es X.env := by rfl) : DAs Z X (e :: es) (dACons de das) := by
  refine PA.of (pa_cons he ha hs) fun σ H Q ⟨B0, H0, ρ, s, Qd, R, hd, hq⟩ => ?_
  refine ⟨B0, H0, ρ, s, _, R, hd, fun r s1 v H1 qx R1 g1 r1 => ?_⟩
  refine ⟨B0, H0, ρ, s1, _, R1, qx, fun rs s2 vs H2 qy R2 g2 r2 => ?_⟩
  exact hq _ s2 _ H2 qy R2 (g1.trans g2) (.cons (r1.grow R1 g2) (r2.back R1.ok g1))
/-- what is kept -/
def sts : List Rv → Option (List PyData)
  | [] => some []
  | r :: rs => match r.st, sts rs with
    | some d, some ds => some (d :: ds)
    | _, _ => none
theorem sts_get {r : Rv} {rs : List Rv} {ds : List PyData} (h : sts (r :: rs) = some ds) : ∃ d es, r.st = some d ∧ sts rs = some es ∧ ds = d :: es := by
  unfold sts at h
  split at h
  · rename_i d es h1 h2
    cases h
    exact ⟨d, es, h1, h2, rfl⟩
  · cases h
theorem RvRs.st (R : Rel Z B0 H0 ρ s σ H) : ∀ {vs : List V} {rs : List Rv} {ds : List PyData}, RvRs Z B0 ρ H H1 vs rs → sts rs = some ds → ImAll (Bad Z B0 ρ) H1 vs ds
  | _, _, _, .nil, h => by cases h; exact .nil
  | _, _, _, .cons q1 q2, h => by
    obtain ⟨d, es, h1, h2, rfl⟩ := sts_get h
    exact .cons (RvR.st R q1 h1) (RvRs.st R q2 h2)
def dLst (da : DA Z) : DX Z := fun s ρ Q => da s ρ fun rs s1 => ∃ ds, sts rs = some ds ∧ ds.length ≤ 1000000 ∧ Q (.fr ds) s1
def dTup (da : DA Z) : DX Z := fun s ρ Q => da s ρ fun rs s1 => ∃ ds, sts rs = some ds ∧ ds.length ≤ 1000000 ∧ Q (.im (.tuple ds)) s1
theorem de_lst (ha : DAs Z X es das) : DE Z X (.List es pos) (dLst das) := by
  refine PE.of (pe_lst ha) fun σ H Q ⟨B0, H0, ρ, s, Qd, R, hd, hq⟩ => ?_
  refine ⟨B0, H0, ρ, s, _, R, hd, fun rs s1 vs H1 qx R1 g1 r1 => ?_⟩
  obtain ⟨ds, h1, h2, q⟩ := qx
  have im := RvRs.st R r1 h1
  refine ⟨by rw [im.length]; exact smB h2, fun p hp => hq _ s1 _ _ q (R1.same (same_new hp)) (g1.trans (Gr.of (same_new hp))) ((R1.newL hp im).back R1.ok g1)⟩
theorem de_tup {x1} (ha : DAs Z X es das) : DE Z X (.Tuple es x1 pos) (dTup das) := by
  refine PE.of (pe_tupK ha) fun σ H Q ⟨B0, H0, ρ, s, Qd, R, hd, hq⟩ => ?_
  refine ⟨B0, H0, ρ, s, _, R, hd, fun rs s1 vs H1 qx R1 g1 r1 => ?_⟩
  obtain ⟨ds, h1, h2, q⟩ := qx
  have im := RvRs.st R r1 h1
  exact ⟨by rw [im.length]; exact smB h2, fun p o hp tk => hq _ s1 _ _ q (R1.same (same_new hp)) (g1.trans (Gr.of (same_new hp))) (newT hp tk im)⟩
/-! ### calls of built-ins -/
abbrev Cb := List Rv → (Rv → Prop) → Prop
def dCB (f : Cb) (da : DA Z) : DX Z := fun s ρ Q => da s ρ fun rs s1 => f rs fun r => Q r s1
def Cb2 (rr : List V → Hp → VK → Prop) (f : Cb) : Prop := ∀ (Z : Zn) (B0 : Addr → Prop) (ρ : List Sl) (s : Z.S) (H0 : Hp) (σ : L2.St) (Ha H : Hp) (vs : List V) (xs : List Rv) (Qd : Rv → Prop) (Q : VK), Rel Z B0 H0 ρ s σ H → RvRs Z B0 ρ Ha H vs xs → f xs Qd →
  (∀ r' v' H', Qd r' → Same H H' → RvR Z B0 ρ H H' v' r' → Q v' H') → rr vs H Q
theorem lift_cb {rr : List V → Hp → VK → Prop} {f : Cb} (h2 : Cb2 rr f) {σ : L2.St} {H : Hp} {Q : VK} (h : liftE Z (dCB f das) σ H Q) : tCB rr (liftA Z das) σ H Q := by
  obtain ⟨B0, H0, ρ, s, Qd, R, hd, hq⟩ := h
  refine ⟨B0, H0, ρ, s, _, R, hd, fun rs s1 vs H1 qx R1 g1 r1 => ?_⟩
  exact h2 Z B0 ρ s1 H0 σ _ H1 vs rs _ Q R1 r1 qx fun r' v' H' q sm rr => hq r' s1 v' H' q (R1.same sm) (g1.trans (Gr.of sm)) (rr.back R1.ok g1)
theorem CallR.or {f : Value} {r r' : List V → Hp → VK → Prop} (h : CallR X f r) (h' : CallR X f r') : CallR X f (fun xs H Q => r xs H Q ∨ r' xs H Q) := by
  intro pins s σ H xs us Q I rs q
  rcases q with q | q
  · exact h pins s σ H xs us Q I rs q
  · exact h' pins s σ H xs us Q I rs q
theorem RvRs.one {vs : List V} {x : Rv} (h : RvRs Z B0 ρ H H1 vs [x]) : ∃ v, vs = [v] ∧ RvR Z B0 ρ H H1 v x := by
  cases h with
  | cons q1 q2 =>
    cases q2
    exact ⟨_, rfl, q1⟩
theorem RvRs.two {vs : List V} {x y : Rv} (h : RvRs Z B0 ρ H H1 vs [x, y]) : ∃ v u, vs = [v, u] ∧ RvR Z B0 ρ H H1 v x ∧ RvR Z B0 ρ H H1 u y := by
  cases h with
  | cons q1 q2 =>
    obtain ⟨u, rfl, q3⟩ := q2.one
    exact ⟨_, u, rfl, q1, q3⟩
def opLen : Cb := fun rs Q => match rs with
  | [x] => match x.D with
    | some (.list l) => Q (.im (.int (l.length : Nat)))
    | some (.tuple l) => Q (.im (.int (l.length : Nat)))
    | some (.str z) => z.length ≤ 1000000 ∧ Q (.im (.int (z.length : Nat)))
    | _ => False
  | _ => False
theorem de_len (hg : Gl X "len") (hm : X.mg "len" = none) (ha : DAs Z X (e :: es) das) (he : starEach (e :: es) X.env = (false, eval e X.env) :: starEach es X.env := by rfl) (hpl : (backTo pos (starEach es X.env)).any (·.1) = false := by rfl) : DE Z X (.Call (.Name "len" p) (e :: es) [] pos) (dCB opLen das) := by
  refine PE.of (pe_callB call_len hg hm PySem.boot_len ha (by decide) (by decide) he hpl) fun σ H Q h => lift_cb ?_ h
  intro Z B0 ρ s H0 σ Ha H vs xs Qd Q R rr q k
  unfold opLen at q
  split at q
  · rename_i x
    obtain ⟨v, rfl, r1⟩ := rr.one
    split at q
    · rename_i l e1
      obtain ⟨a, ys, rfl, h1, h2⟩ := r1.lst e1
      exact ⟨_, _, rfl, .inl ⟨ys, SqL.of h1, rfl⟩, by rw [h2.length]; exact k _ _ _ q (Same.refl H) (Im.int _)⟩
    · rename_i l e1
      obtain ⟨a, ys, rfl, h1, h2⟩ := r1.tup (K := X.K) e1
      exact ⟨_, _, rfl, .inr ⟨ys, h1, rfl⟩, by rw [h2.length]; exact k _ _ _ q (Same.refl H) (Im.int _)⟩
    · rename_i z e1
      rw [r1.vS e1]
      exact ⟨_, _, rfl, ⟨smB q.1, rfl⟩, k _ _ _ q.2 (Same.refl H) (Im.int _)⟩
    · exact q.elim
  · exact q.elim
def opAbs : Cb := fun rs Q => match rs with
  | [x] => match x.D with
    | some (.int i) => Q (.im (.int (if i < 0 then -i else i)))
    | _ => False
  | _ => False
theorem de_abs (hg : Gl X "abs") (hm : X.mg "abs" = none) (ha : DAs Z X (e :: es) das) (he : starEach (e :: es) X.env = (false, eval e X.env) :: starEach es X.env := by rfl) (hpl : (backTo pos (starEach es X.env)).any (·.1) = false := by rfl) : DE Z X (.Call (.Name "abs" p) (e :: es) [] pos) (dCB opAbs das) := by
  refine PE.of (pe_callB call_abs hg hm (by decide +kernel) ha (by decide) (by decide) he hpl) fun σ H Q h => lift_cb ?_ h
  intro Z B0 ρ s H0 σ Ha H vs xs Qd Q R rr q k
  unfold opAbs at q
  split at q
  · obtain ⟨v, rfl, r1⟩ := rr.one
    split at q
    · rename_i i e1
      rw [r1.vI e1]
      exact ⟨i, rfl, k _ _ _ q (Same.refl H) (Im.int _)⟩
    · exact q.elim
  · exact q.elim
theorem nums_of {vs : List V} : ∀ {ns : List Int}, ImAll B H vs (ns.map PyData.int) → vs = ns.map V.int := fun {ns} h => by
  induction ns generalizing vs with
  | nil => cases h; rfl
  | cons n ns ih =>
    cases h with
    | cons q1 q2 =>
      cases q1
      rw [ih q2]
      rfl
theorem im_nums : ∀ ns : List Int, ImAll B H (ns.map V.int) (ns.map PyData.int)
  | [] => .nil
  | n :: ns => .cons (.int n) (im_nums ns)
/-- max, min of a list of ints, a tuple of ints, of two ints -/
def opMax : Cb := fun rs Q => match rs with
  | [x] => match x.D with
    | some (.list l) => ∃ ns : List Int, l = ns.map .int ∧ 0 < ns.length ∧ ∀ m, m ∈ ns → (∀ y ∈ ns, y ≤ m) → Q (.im (.int m))
    | some (.tuple l) => ∃ ns : List Int, l = ns.map .int ∧ 0 < ns.length ∧ ∀ m, m ∈ ns → (∀ y ∈ ns, y ≤ m) → Q (.im (.int m))
    | _ => False
  | [x, y] => match x.D, y.D with
    | some (.int i), some (.int j) => Q (.im (.int (if j > i then j else i)))
    | _, _ => False
  | _ => False
def opMin : Cb := fun rs Q => match rs with
  | [x] => match x.D with
    | some (.list l) => ∃ ns : List Int, l = ns.map .int ∧ 0 < ns.length ∧ ∀ m, m ∈ ns → (∀ y ∈ ns, m ≤ y) → Q (.im (.int m))
    | _ => False
  | [x, y] => match x.D, y.D with
    | some (.int i), some (.int j) => Q (.im (.int (if j < i then j else i)))
    | _, _ => False
  | _ => False
theorem foldl_max (n : Int) : ∀ ns : List Int, ns.foldl max n ∈ n :: ns ∧ ∀ y ∈ n :: ns, y ≤ ns.foldl max n := fun ns => by
  induction ns generalizing n with
  | nil => exact ⟨List.mem_cons_self, fun y hy => by rw [List.mem_singleton.mp hy]; exact Int.le_refl _⟩
  | cons m ns ih =>
    rw [List.foldl_cons]
    obtain ⟨h1, h2⟩ := ih (max n m)
    refine ⟨?_, fun y hy => ?_⟩
    · rcases List.mem_cons.mp h1 with h | h
      · rw [h]
        rcases Int.le_total n m with z | z
        · rw [Int.max_eq_right z]; simp
        · rw [Int.max_eq_left z]; simp
      · exact List.mem_cons_of_mem _ (List.mem_cons_of_mem _ h)
    · have h3 := h2 (max n m) List.mem_cons_self
      rcases List.mem_cons.mp hy with rfl | hy
      · exact Int.le_trans (Int.le_max_left _ _) h3
      · rcases List.mem_cons.mp hy with rfl | hy
        · exact Int.le_trans (Int.le_max_right _ _) h3
        · exact h2 y (List.mem_cons_of_mem _ hy)
theorem alike_ints : ∀ ns : List Int, PySem.W.AlikeAll (ns.map PyData.int) := fun ns => by
  refine ⟨fun x hx y hy => ?_, fun x hx => ?_⟩
  · obtain ⟨i, _, rfl⟩ := List.mem_map.mp hx
    obtain ⟨j, _, rfl⟩ := List.mem_map.mp hy
    rfl
  · obtain ⟨i, _, rfl⟩ := List.mem_map.mp hx
    exact fun z => nomatch z
theorem cr_maxT (hc : X.calm = true) (hu : X.A.units + 65 < cLine) : CallR X (.builtin "max") (fun vs H Q => ∃ (a : Addr) (ns : List Int), vs = [V.ref a] ∧ SqT X.K H a (ns.map V.int) ∧ 0 < ns.length ∧ ∀ m, m ∈ ns → (∀ y ∈ ns, y ≤ m) → Q (.int m) H) := by
  intro pins s σ H vs us Q I r h
  obtain ⟨a, ns, rfl, hs, hne, q⟩ := h
  obtain ⟨u, rfl, r1⟩ := vals1 r
  cases (show u = Value.ref a from r1)
  obtain ⟨its, rv, ht, _⟩ := I.tuple hs
  cases ns with
  | nil => exact absurd hne (Nat.lt_irrefl 0)
  | cons n ns =>
    obtain ⟨as, ra⟩ := Dp.readsAll I ((n :: ns).map PyData.int) _ its (dpInts (K := X.K) (H := H) (n :: ns)) rv
    refine PySem.W.max_tuple_data (x := .int n) (xs := ns.map .int) (as := as) (I.ok.hd hc) ht ra (alike_ints (n :: ns)) ?_ fun i v h' tk bs hi rd hk => ?_
    · have := deepInts (n :: ns)
      show X.A.units + 1 + PyData.depthAll ((n :: ns).map PyData.int) < cLine
      rw [this]
      omega
    · rw [PySem.W.maxD_ints] at rd
      cases rd with
      | int i t =>
        obtain ⟨h1, h2⟩ := foldl_max n ns
        exact ⟨.int _, H, I.kept hk, ⟨_, rfl⟩, q _ h1 h2⟩
end
end Lf
namespace Lf
open PySem PySem.Spec PyProof.Rows L2
section
variable {Z : Zn} {X : Cx} {B0 : Addr → Prop} {H0 H H1 H2 : Hp} {ρ : List Sl} {s s1 s2 : Z.S} {σ : L2.St} {v u : V} {r x y : Rv} {e a b c : Expr} {es : List Expr} {de da db dc : DX Z} {das : DA Z} {pos p : Pos} {K : PySem.W.Frag} {B : Addr → Prop}
theorem de_max (hc : X.calm = true) (hu : X.A.units + 65 < cLine) (hg : Gl X "max") (hm : X.mg "max" = none) (ha : DAs Z X (e :: es) das) (he : starEach (e :: es) X.env = (false, eval e X.env) :: starEach es X.env := by rfl) (hpl : (backTo pos (starEach es X.env)).any (·.1) = false := by rfl) : DE Z X (.Call (.Name "max" p) (e :: es) [] pos) (dCB opMax das) := by
  refine PE.of (pe_callB ((CallR.or (cr_max hc) (cr_maxT hc hu)).or (call_max2 hc)) hg hm (by decide +kernel) ha (by decide) (by decide) he hpl) fun σ H Q h => lift_cb ?_ h
  intro Z B0 ρ s H0 σ Ha H vs xs Qd Q R rr q k
  unfold opMax at q
  split at q
  · obtain ⟨v, rfl, r1⟩ := rr.one
    split at q
    · rename_i l e1
      obtain ⟨ns, rfl, h0, q⟩ := q
      obtain ⟨a, ys, rfl, h1, h2⟩ := r1.lst e1
      rw [nums_of h2] at h1
      exact .inl (.inl ⟨a, ns, rfl, SqL.of h1, h0, fun m m1 m2 => k _ _ _ (q m m1 m2) (Same.refl H) (Im.int _)⟩)
    · rename_i l e1
      obtain ⟨ns, rfl, h0, q⟩ := q
      obtain ⟨a, ys, rfl, h1, h2⟩ := r1.tup (K := X.K) e1
      rw [nums_of h2] at h1
      exact .inl (.inr ⟨a, ns, rfl, h1, h0, fun m m1 m2 => k _ _ _ (q m m1 m2) (Same.refl H) (Im.int _)⟩)
    · exact q.elim
  · obtain ⟨v, u, rfl, r1, r2⟩ := rr.two
    split at q
    · rename_i i j e1 e2
      rw [r1.vI e1, r2.vI e2]
      exact .inr ⟨i, j, rfl, k _ _ _ q (Same.refl H) (Im.int _)⟩
    · exact q.elim
  · exact q.elim
theorem de_min (hc : X.calm = true) (hg : Gl X "min") (hm : X.mg "min" = none) (ha : DAs Z X (e :: es) das) (he : starEach (e :: es) X.env = (false, eval e X.env) :: starEach es X.env := by rfl) (hpl : (backTo pos (starEach es X.env)).any (·.1) = false := by rfl) : DE Z X (.Call (.Name "min" p) (e :: es) [] pos) (dCB opMin das) := by
  refine PE.of (pe_callB (CallR.or (cr_min hc) (call_min2 hc)) hg hm (by decide +kernel) ha (by decide) (by decide) he hpl) fun σ H Q h => lift_cb ?_ h
  intro Z B0 ρ s H0 σ Ha H vs xs Qd Q R rr q k
  unfold opMin at q
  split at q
  · obtain ⟨v, rfl, r1⟩ := rr.one
    split at q
    · rename_i l e1
      obtain ⟨ns, rfl, h0, q⟩ := q
      obtain ⟨a, ys, rfl, h1, h2⟩ := r1.lst e1
      rw [nums_of h2] at h1
      exact .inl ⟨a, ns, rfl, SqL.of h1, h0, fun m m1 m2 => k _ _ _ (q m m1 m2) (Same.refl H) (Im.int _)⟩
    · exact q.elim
  · obtain ⟨v, u, rfl, r1, r2⟩ := rr.two
    split at q
    · rename_i i j e1 e2
      rw [r1.vI e1, r2.vI e2]
      exact .inr ⟨i, j, rfl, k _ _ _ q (Same.refl H) (Im.int _)⟩
    · exact q.elim
  · exact q.elim
/-! ### sum -/
theorem cr_sumT (hc : X.calm = true) : CallR X (.builtin "sum") (fun vs H Q => ∃ (a : Addr) (ns : List Int), vs = [V.ref a] ∧ SqT X.K H a (ns.map V.int) ∧ Q (.int ns.sum) H) := by
  intro pins s σ H vs us Q I r h
  obtain ⟨a, ns, rfl, hs, q⟩ := h
  obtain ⟨u, rfl, r1⟩ := vals1 r
  cases (show u = Value.ref a from r1)
  obtain ⟨its, rv, ht, _⟩ := I.tuple hs
  have hi := rv.ints
  obtain ⟨xs, e⟩ := hi.allInts.items
  have hn : numsOf (intItems xs).toList = ns := by rw [← e]; exact hi.numsOf
  rw [nums_intItems] at hn
  rw [e] at ht
  refine PySem.W.ktm_sumG (I.ok.hd hc) ht fun h' tk t' hk => ?_
  rw [preSum_eq, List.take_of_length_le (by simp), hn]
  exact ⟨.int _, H, I.kept hk, ⟨_, rfl⟩, q⟩
def opSum : Cb := fun rs Q => match rs with
  | [x] => match x.D with
    | some (.list l) => ∃ ns : List Int, l = ns.map .int ∧ Q (.im (.int ns.sum))
    | some (.tuple l) => ∃ ns : List Int, l = ns.map .int ∧ Q (.im (.int ns.sum))
    | _ => False
  | _ => False
theorem de_sum (hc : X.calm = true) (hg : Gl X "sum") (hm : X.mg "sum" = none) (ha : DAs Z X (e :: es) das) (he : starEach (e :: es) X.env = (false, eval e X.env) :: starEach es X.env := by rfl) (hpl : (backTo pos (starEach es X.env)).any (·.1) = false := by rfl) : DE Z X (.Call (.Name "sum" p) (e :: es) [] pos) (dCB opSum das) := by
  refine PE.of (pe_callB (CallR.or (cr_sum hc) (cr_sumT hc)) hg hm (by decide +kernel) ha (by decide) (by decide) he hpl) fun σ H Q h => lift_cb ?_ h
  intro Z B0 ρ s H0 σ Ha H vs xs Qd Q R rr q k
  unfold opSum at q
  split at q
  · obtain ⟨v, rfl, r1⟩ := rr.one
    split at q
    · rename_i l e1
      obtain ⟨ns, rfl, q⟩ := q
      obtain ⟨a, ys, rfl, h1, h2⟩ := r1.lst e1
      rw [nums_of h2] at h1
      exact .inl ⟨a, ns, rfl, SqL.of h1, k _ _ _ q (Same.refl H) (Im.int _)⟩
    · rename_i l e1
      obtain ⟨ns, rfl, q⟩ := q
      obtain ⟨a, ys, rfl, h1, h2⟩ := r1.tup (K := X.K) e1
      rw [nums_of h2] at h1
      exact .inr ⟨a, ns, rfl, h1, k _ _ _ q (Same.refl H) (Im.int _)⟩
    · exact q.elim
  · exact q.elim
/-! ### list, tuple, sorted, int -/
def opList : Cb := fun rs Q => match rs with
  | [x] => match x.D with
    | some (.list l) => Q (.fr l)
    | some (.tuple l) => Q (.fr l)
    | _ => False
  | _ => False
theorem de_list (hg : Gl X "list") (hm : X.mg "list" = none) (ha : DAs Z X (e :: es) das) (he : starEach (e :: es) X.env = (false, eval e X.env) :: starEach es X.env := by rfl) (hpl : (backTo pos (starEach es X.env)).any (·.1) = false := by rfl) : DE Z X (.Call (.Name "list" p) (e :: es) [] pos) (dCB opList das) := by
  refine PE.of (pe_callTy call_list_of hg hm (by decide +kernel) ha (by decide) (by decide) he hpl) fun σ H Q h => lift_cb ?_ h
  intro Z B0 ρ s H0 σ Ha H vs xs Qd Q R rr q k
  unfold opList at q
  split at q
  · obtain ⟨v, rfl, r1⟩ := rr.one
    split at q
    · rename_i l e1
      obtain ⟨a, ys, rfl, h1, h2⟩ := r1.lst e1
      exact ⟨a, ys, rfl, .inl (SqL.of h1), fun p hp => k _ _ _ q (same_new hp) (R.newL hp h2)⟩
    · rename_i l e1
      obtain ⟨a, ys, rfl, h1, h2⟩ := r1.tup (K := X.K) e1
      exact ⟨a, ys, rfl, .inr h1, fun p hp => k _ _ _ q (same_new hp) (R.newL hp h2)⟩
    · exact q.elim
  · exact q.elim
def opTuple : Cb := fun rs Q => match rs with
  | [x] => match x.D with
    | some (.list l) => Q (.im (.tuple l))
    | some (.tuple l) => Q (.im (.tuple l))
    | _ => False
  | _ => False
theorem de_tuple (hg : Gl X "tuple") (hm : X.mg "tuple" = none) (ha : DAs Z X (e :: es) das) (he : starEach (e :: es) X.env = (false, eval e X.env) :: starEach es X.env := by rfl) (hpl : (backTo pos (starEach es X.env)).any (·.1) = false := by rfl) : DE Z X (.Call (.Name "tuple" p) (e :: es) [] pos) (dCB opTuple das) := by
  refine PE.of (pe_callTy call_tupleK hg hm (by decide +kernel) ha (by decide) (by decide) he hpl) fun σ H Q h => lift_cb ?_ h
  intro Z B0 ρ s H0 σ Ha H vs xs Qd Q R rr q k
  unfold opTuple at q
  split at q
  · rename_i x
    obtain ⟨v, rfl, r1⟩ := rr.one
    split at q
    · rename_i l e1
      obtain ⟨a, ys, rfl, h1, h2⟩ := r1.lst e1
      exact ⟨a, ys, rfl, .inl ⟨SqL.of h1, fun p o hp tk => k _ _ _ q (same_new hp) (newT hp tk h2)⟩⟩
    · rename_i l e1
      obtain ⟨a, ys, rfl, h1, h2⟩ := r1.tup (K := X.K) e1
      refine ⟨a, ys, rfl, .inr ⟨h1, k _ _ _ q (Same.refl H) ?_⟩⟩
      cases x with
      | im d => cases e1; exact r1
      | _ => cases e1
    · exact q.elim
  · exact q.elim
def opSorted : Cb := fun rs Q => match rs with
  | [x] => match x.D with
    | some (.list l) => ∃ ns : List Int, l = ns.map .int ∧ ∀ ns' : List Int, ns'.Perm ns → ns'.Pairwise (· ≤ ·) → Q (.fr (ns'.map .int))
    | some (.tuple l) => ∃ ns : List Int, l = ns.map .int ∧ ∀ ns' : List Int, ns'.Perm ns → ns'.Pairwise (· ≤ ·) → Q (.fr (ns'.map .int))
    | _ => False
  | _ => False
theorem de_sorted (hg : Gl X "sorted") (hm : X.mg "sorted" = none) (ha : DAs Z X (e :: es) das) (he : starEach (e :: es) X.env = (false, eval e X.env) :: starEach es X.env := by rfl) (hpl : (backTo pos (starEach es X.env)).any (·.1) = false := by rfl) : DE Z X (.Call (.Name "sorted" p) (e :: es) [] pos) (dCB opSorted das) := by
  refine PE.of (pe_callB (CallR.or cr_sortedI cr_sortedTI) hg hm (by decide +kernel) ha (by decide) (by decide) he hpl) fun σ H Q h => lift_cb ?_ h
  intro Z B0 ρ s H0 σ Ha H vs xs Qd Q R rr q k
  unfold opSorted at q
  split at q
  · obtain ⟨v, rfl, r1⟩ := rr.one
    split at q
    · rename_i l e1
      obtain ⟨ns, rfl, q⟩ := q
      obtain ⟨a, ys, rfl, h1, h2⟩ := r1.lst e1
      rw [nums_of h2] at h1
      exact .inl ⟨a, ns, rfl, SqL.of h1, fun ns' p h3 h4 hp => k _ _ _ (q ns' h3 h4) (same_new hp) (R.newL hp (im_nums ns'))⟩
    · rename_i l e1
      obtain ⟨ns, rfl, q⟩ := q
      obtain ⟨a, ys, rfl, h1, h2⟩ := r1.tup (K := X.K) e1
      rw [nums_of h2] at h1
      exact .inr ⟨a, ns, rfl, h1, fun ns' p h3 h4 hp => k _ _ _ (q ns' h3 h4) (same_new hp) (R.newL hp (im_nums ns'))⟩
    · exact q.elim
  · exact q.elim
def opInt : Cb := fun rs Q => match rs with
  | [x] => match x.D with
    | some (.int i) => Q (.im (.int i))
    | some (.bool k) => Q (.im (.int (if k then 1 else 0)))
    | _ => False
  | _ => False
theorem de_intC (hg : Gl X "int") (hm : X.mg "int" = none) (ha : DAs Z X (e :: es) das) (he : starEach (e :: es) X.env = (false, eval e X.env) :: starEach es X.env := by rfl) (hpl : (backTo pos (starEach es X.env)).any (·.1) = false := by rfl) : DE Z X (.Call (.Name "int" p) (e :: es) [] pos) (dCB opInt das) := by
  refine PE.of (pe_callTy call_int1 hg hm (by decide +kernel) ha (by decide) (by decide) he hpl) fun σ H Q h => lift_cb ?_ h
  intro Z B0 ρ s H0 σ Ha H vs xs Qd Q R rr q k
  unfold opInt at q
  split at q
  · obtain ⟨v, rfl, r1⟩ := rr.one
    split at q
    · rename_i i e1
      rw [r1.vI e1]
      exact .inl ⟨i, rfl, k _ _ _ q (Same.refl H) (Im.int _)⟩
    · rename_i i e1
      rw [r1.vB e1]
      exact .inr ⟨i, rfl, k _ _ _ q (Same.refl H) (Im.int _)⟩
    · exact q.elim
  · exact q.elim
/-! ### kinds -/
def isTy (n : String) (d : PyData) : Bool := match n, d with
  | "int", .int _ => true
  | "int", .bool _ => true
  | "bool", .bool _ => true
  | "str", .str _ => true
  | "tuple", .tuple _ => true
  | "list", .list _ => true
  | "dict", .dict _ => true
  | _, _ => false
theorem kOne (n : String) (hn : n = "int" ∨ n = "bool" ∨ n = "str" ∨ n = "tuple" ∨ n = "list" ∨ n = "dict") (d : PyData) : PySem.W.kitOne K (.type (tyD d)) (.type n) = some (isTy n d) := by
  rcases hn with rfl | rfl | rfl | rfl | rfl | rfl
  · exact (kInt d).trans (by cases d <;> rfl)
  · exact (kBool d).trans (by cases d <;> rfl)
  · cases d with
    | none => exact kit_ty (show kitB "NoneType" "str" = some false by decide +kernel)
    | bool _ => exact kit_ty (show kitB "bool" "str" = some false by decide +kernel)
    | int _ => exact kit_ty (show kitB "int" "str" = some false by decide +kernel)
    | str _ => exact kit_ty (show kitB "str" "str" = some true by decide +kernel)
    | list _ => exact kit_ty (show kitB "list" "str" = some false by decide +kernel)
    | tuple _ => exact kit_ty (show kitB "tuple" "str" = some false by decide +kernel)
    | dict _ => exact kit_ty (show kitB "dict" "str" = some false by decide +kernel)
  · exact (kTup d).trans (by cases d <;> rfl)
  · cases d with
    | none => exact kit_ty (show kitB "NoneType" "list" = some false by decide +kernel)
    | bool _ => exact kit_ty (show kitB "bool" "list" = some false by decide +kernel)
    | int _ => exact kit_ty (show kitB "int" "list" = some false by decide +kernel)
    | str _ => exact kit_ty (show kitB "str" "list" = some false by decide +kernel)
    | list _ => exact kit_ty (show kitB "list" "list" = some true by decide +kernel)
    | tuple _ => exact kit_ty (show kitB "tuple" "list" = some false by decide +kernel)
    | dict _ => exact kit_ty (show kitB "dict" "list" = some false by decide +kernel)
  · cases d with
    | none => exact kit_ty (show kitB "NoneType" "dict" = some false by decide +kernel)
    | bool _ => exact kit_ty (show kitB "bool" "dict" = some false by decide +kernel)
    | int _ => exact kit_ty (show kitB "int" "dict" = some false by decide +kernel)
    | str _ => exact kit_ty (show kitB "str" "dict" = some false by decide +kernel)
    | list _ => exact kit_ty (show kitB "list" "dict" = some false by decide +kernel)
    | tuple _ => exact kit_ty (show kitB "tuple" "dict" = some false by decide +kernel)
    | dict _ => exact kit_ty (show kitB "dict" "dict" = some true by decide +kernel)
def dRaw (v : V) : DX Z := fun s _ Q => Q (.rw v) s
theorem de_raw (h : PE X e (tC v)) : DE Z X e (dRaw v) := PE.of h fun σ H Q ⟨B0, H0, ρ, s, Qd, R, hd, hq⟩ => hq _ s v H hd R Gr.refl rfl
def opIsi : Cb := fun rs Q => match rs with
  | [x, .rw (.ty n)] => match x.D with
    | some d => (n = "int" ∨ n = "bool" ∨ n = "str" ∨ n = "tuple" ∨ n = "list" ∨ n = "dict") ∧ Q (.im (.bool (isTy n d)))
    | _ => False
  | _ => False
theorem de_isi (hg : Gl X "isinstance") (hm : X.mg "isinstance" = none) (ha : DAs Z X (e :: es) das) (he : starEach (e :: es) X.env = (false, eval e X.env) :: starEach es X.env := by rfl) (hpl : (backTo pos (starEach es X.env)).any (·.1) = false := by rfl) : DE Z X (.Call (.Name "isinstance" p) (e :: es) [] pos) (dCB opIsi das) := by
  refine PE.of (pe_callB call_isi hg hm (by decide +kernel) ha (by decide) (by decide) he hpl) fun σ H Q h => lift_cb ?_ h
  intro Z B0 ρ s H0 σ Ha H vs xs Qd Q R rr q k
  unfold opIsi at q
  split at q
  · rename_i x n
    obtain ⟨v, u, rfl, r1, r2⟩ := rr.two
    cases (show u = V.ty n from r2)
    split at q
    · rename_i d e1
      exact ⟨v, .ty n, _, .type n, _, rfl, .ty n, (r1.rd e1).rp.ty, kOne n q.1 d, k _ _ _ q.2 (Same.refl H) (Im.bl _)⟩
    · exact q.elim
  · exact q.elim
/-! ### -x, is None, slices -/
def dUn (f : Rv → (Rv → Prop) → Prop) (da : DX Z) : DX Z := fun s ρ Q => da s ρ fun x s1 => f x fun r => Q r s1
def opNeg : Rv → (Rv → Prop) → Prop := fun x Q => match x.D with
  | some (.int i) => Q (.im (.int (-i)))
  | _ => False
theorem de_neg (ha : DE Z X a da) : DE Z X (.UnaryOp .USub a pos) (dUn opNeg da) := by
  refine PE.of (pe_un un_neg ha) fun σ H Q ⟨B0, H0, ρ, s, Qd, R, hd, hq⟩ => ?_
  refine ⟨B0, H0, ρ, s, _, R, hd, fun x s1 v H1 qx R1 g1 r1 => ?_⟩
  unfold opNeg at qx
  split at qx
  · rename_i i e1
    rw [r1.vI e1]
    exact ⟨i, rfl, hq _ s1 _ H1 qx R1 g1 (Im.int _)⟩
  · exact qx.elim
def isN : PyData → Bool
  | .none => true
  | _ => false
theorem isN_of {B : Addr → Prop} {d : PyData} (h : Im B H v d) : decide (v = .non) = isN d := by
  cases h <;> first | rfl | (exact decide_eq_false (fun z => nomatch z))
def dIsN (neg : Bool) (da : DX Z) : DX Z := fun s ρ Q => da s ρ fun x s1 => match x.D with
  | some d => Q (.im (.bool (neg != isN d))) s1
  | _ => False
theorem de_isN {j pos'} (ha : DE Z X a da) : DE Z X (.Compare a [.Is] [.Constant .none j pos'] pos) (dIsN false da) := by
  refine PE.of (pe_cmp (pc_isN ha)) fun σ H Q ⟨B0, H0, ρ, s, Qd, R, hd, hq⟩ => ?_
  refine ⟨B0, H0, ρ, s, _, R, hd, fun x s1 v H1 qx R1 g1 r1 => ?_⟩
  split at qx
  · rename_i d e1
    refine hq _ s1 _ H1 qx R1 g1 ?_
    rw [isN_of (r1.rd e1), Bool.false_bne]
    exact Im.bl _
  · exact qx.elim
theorem de_notN {j pos'} (ha : DE Z X a da) : DE Z X (.Compare a [.IsNot] [.Constant .none j pos'] pos) (dIsN true da) := by
  refine PE.of (pe_cmp (pc_notN ha)) fun σ H Q ⟨B0, H0, ρ, s, Qd, R, hd, hq⟩ => ?_
  refine ⟨B0, H0, ρ, s, _, R, hd, fun x s1 v H1 qx R1 g1 r1 => ?_⟩
  split at qx
  · rename_i d e1
    refine hq _ s1 _ H1 qx R1 g1 ?_
    rw [isN_of (r1.rd e1), Bool.true_bne]
    exact Im.bl _
  · exact qx.elim
end
end Lf
namespace Lf
open PySem PySem.Spec PyProof.Rows L2
section
variable {Z : Zn} {X : Cx} {B0 : Addr → Prop} {H0 H H1 H2 : Hp} {ρ : List Sl} {s s1 s2 : Z.S} {σ : L2.St} {v u : V} {r x y : Rv} {e a b c : Expr} {es rest : List Expr} {de da db dc : DX Z} {dt du : DT Z} {das : DA Z} {pos p : Pos} {K : PySem.W.Frag} {B : Addr → Prop} {op op' : CmpOp}
/-! ### tests -/
def dTst (de : DX Z) : DT Z := fun s ρ Q => de s ρ fun r s1 => match r.D with
  | some (.bool b) => Q b s1
  | _ => False
theorem lift_tst {σ : L2.St} {H : Hp} {Q : Bool → Hp → Prop} (h : liftT Z (dTst de) σ H Q) : liftE Z de σ H fun x H' => ∃ k, x = .bl k ∧ Q k H' := by
  obtain ⟨B0, H0, ρ, s, Qd, R, hd, hq⟩ := h
  refine ⟨B0, H0, ρ, s, _, R, hd, fun r s1 v H1 qx R1 g1 r1 => ?_⟩
  split at qx
  · rename_i b e1
    exact ⟨b, r1.vB e1, hq b s1 H1 qx R1 g1⟩
  · exact qx.elim
theorem dt_val (h : DE Z X e de) (he : ∀ whole, isTrue e X.env whole = (do let v ← whole; standAt e.pos; holding [v] (truthy v)) := by intro _; rfl) : DTs Z X e (dTst de) := PT.of (pt_val h he) fun σ H Q h => lift_tst h
/-- a comparison as a test, by its rule -/
theorem dt_cmp {rr : R2} {opd : Op} (ho : OpR X (compareOp op) rr) (h2 : Op2 X.K rr opd) (ha : DE Z X a da) (hb : DE Z X b db) (hm : behindInMarks op b = false) : DTs Z X (.Compare a [op] [b] pos) (dTst (dBin opd da db)) := by
  refine PT.of (pt_cmpR ho ha hb hm) fun σ H Q h => ?_
  obtain ⟨B0, H0, ρ, s, Qd, R, hd, hq⟩ := lift_tst h
  exact lift_bin (K := X.K) h2 ⟨B0, H0, ρ, s, Qd, R, hd, hq⟩
/-- the rules of the comparisons -/
theorem o2_lt : Op2 K (rI0 fun i j => .bl (decide (i < j))) (cmpI fun i j => decide (i < j)) := op2_I0 fun _ _ _ _ => .bl _
theorem o2_le : Op2 K (rI0 fun i j => .bl (decide (i ≤ j))) (cmpI fun i j => decide (i ≤ j)) := op2_I0 fun _ _ _ _ => .bl _
theorem o2_gt : Op2 K (rI0 fun i j => .bl (decide (j < i))) (cmpI fun i j => decide (j < i)) := op2_I0 fun _ _ _ _ => .bl _
theorem o2_ge : Op2 K (rI0 fun i j => .bl (decide (j ≤ i))) (cmpI fun i j => decide (j ≤ i)) := op2_I0 fun _ _ _ _ => .bl _
theorem o2_eq : Op2 K (fun x y H Q => rEq x y H Q ∨ rEqD K x y H Q) opEq := by
  intro Z B0 ρ s H0 σ Ha Hb H v u x y Qd Q R rx ry q k
  unfold opEq at q
  split at q
  · rename_i i j e1 e2
    rw [rx.vI e1, ry.vI e2]
    exact .inl ⟨rfl, by rw [decI]; exact k _ _ _ q (Same.refl H) (Im.bl _)⟩
  · rename_i i j e1 e2
    rw [rx.vS e1, ry.vS e2]
    exact .inl ⟨rfl, by rw [decS]; exact k _ _ _ q (Same.refl H) (Im.bl _)⟩
  · rename_i d e _ _ e1 e2
    exact .inr ⟨d, e, dp_of (SeqAt.canLay_of_shaped q.1) (rx.rd e1), dp_of (SeqAt.canLay_of_shaped q.2.1) (ry.rd e2), q.1, q.2.1, k _ _ _ q.2.2 (Same.refl H) (Im.bl _)⟩
  · exact q.elim
theorem o2_ne : Op2 K (fun x y H Q => rNe x y H Q ∨ rNeD K x y H Q) opNe := by
  intro Z B0 ρ s H0 σ Ha Hb H v u x y Qd Q R rx ry q k
  unfold opNe at q
  split at q
  · rename_i i j e1 e2
    rw [rx.vI e1, ry.vI e2]
    exact .inl ⟨rfl, by rw [decI]; exact k _ _ _ q (Same.refl H) (Im.bl _)⟩
  · rename_i i j e1 e2
    rw [rx.vS e1, ry.vS e2]
    exact .inl ⟨rfl, by rw [decS]; exact k _ _ _ q (Same.refl H) (Im.bl _)⟩
  · rename_i d e _ _ e1 e2
    exact .inr ⟨d, e, dp_of (SeqAt.canLay_of_shaped q.1) (rx.rd e1), dp_of (SeqAt.canLay_of_shaped q.2.1) (ry.rd e2), q.1, q.2.1, k _ _ _ q.2.2 (Same.refl H) (Im.bl _)⟩
  · exact q.elim
theorem o2_in : Op2 K (fun x y H Q => rInD K x y H Q ∨ rInDT K x y H Q) (opIn false) := by
  intro Z B0 ρ s H0 σ Ha Hb H v u x y Qd Q R rx ry q k
  unfold opIn at q
  split at q
  · rename_i d l e1 e2
    refine .inl ⟨d, l, dp_of (SeqAt.canLay_of_shaped q.1) (rx.rd e1), dp_of (SeqAt.canLay_of_shaped q.2.1) (ry.rd e2), q.1, q.2.1, k _ _ _ q.2.2 (Same.refl H) ?_⟩
    rw [Bool.false_bne]
    exact Im.bl _
  · rename_i d l e1 e2
    refine .inr ⟨d, l, dp_of (SeqAt.canLay_of_shaped q.1) (rx.rd e1), dp_of (SeqAt.canLay_of_shaped q.2.1) (ry.rd e2), q.1, q.2.1, k _ _ _ q.2.2 (Same.refl H) ?_⟩
    rw [Bool.false_bne]
    exact Im.bl _
  · exact q.elim
theorem o2_notin : Op2 K (fun x y H Q => rNotInD K x y H Q ∨ ∃ d ds, Dp K H x d ∧ Dp K H y (.tuple ds) ∧ SeqAt.shaped d = true ∧ SeqAt.shaped (.tuple ds) = true ∧ Q (.bl (!ds.any fun z => PyData.eqv z d)) H) (opIn true) := by
  intro Z B0 ρ s H0 σ Ha Hb H v u x y Qd Q R rx ry q k
  unfold opIn at q
  split at q
  · rename_i d l e1 e2
    refine .inl ⟨d, l, dp_of (SeqAt.canLay_of_shaped q.1) (rx.rd e1), dp_of (SeqAt.canLay_of_shaped q.2.1) (ry.rd e2), q.1, q.2.1, k _ _ _ q.2.2 (Same.refl H) ?_⟩
    rw [Bool.true_bne]
    exact Im.bl _
  · rename_i d l e1 e2
    refine .inr ⟨d, l, dp_of (SeqAt.canLay_of_shaped q.1) (rx.rd e1), dp_of (SeqAt.canLay_of_shaped q.2.1) (ry.rd e2), q.1, q.2.1, k _ _ _ q.2.2 (Same.refl H) ?_⟩
    rw [Bool.true_bne]
    exact Im.bl _
  · exact q.elim
theorem dt_lt (ha : DE Z X a da) (hb : DE Z X b db) : DTs Z X (.Compare a [.Lt] [b] pos) (dTst (dBin (cmpI fun i j => decide (i < j)) da db)) := dt_cmp op_lt o2_lt ha hb (nomark _)
theorem dt_le (ha : DE Z X a da) (hb : DE Z X b db) : DTs Z X (.Compare a [.LtE] [b] pos) (dTst (dBin (cmpI fun i j => decide (i ≤ j)) da db)) := dt_cmp op_le o2_le ha hb (nomark _)
theorem dt_gt (ha : DE Z X a da) (hb : DE Z X b db) : DTs Z X (.Compare a [.Gt] [b] pos) (dTst (dBin (cmpI fun i j => decide (j < i)) da db)) := dt_cmp op_gt o2_gt ha hb (nomark _)
theorem dt_ge (ha : DE Z X a da) (hb : DE Z X b db) : DTs Z X (.Compare a [.GtE] [b] pos) (dTst (dBin (cmpI fun i j => decide (j ≤ i)) da db)) := dt_cmp op_ge o2_ge ha hb (nomark _)
theorem dt_eq (hu : X.A.units + 65 < cLine) (ha : DE Z X a da) (hb : DE Z X b db) : DTs Z X (.Compare a [.Eq] [b] pos) (dTst (dBin opEq da db)) := dt_cmp (op_eq.or (op_eqD (by omega))) o2_eq ha hb (nomark _)
theorem dt_ne (hu : X.A.units + 65 < cLine) (ha : DE Z X a da) (hb : DE Z X b db) : DTs Z X (.Compare a [.NotEq] [b] pos) (dTst (dBin opNe da db)) := dt_cmp (op_ne.or (op_neD (by omega))) o2_ne ha hb (nomark _)
theorem dt_in (hu : X.A.units + 65 < cLine) (ha : DE Z X a da) (hb : DE Z X b db) (hm : behindInMarks .In b = false := by rfl) : DTs Z X (.Compare a [.In] [b] pos) (dTst (dBin (opIn false) da db)) := dt_cmp ((op_inD hu).or (op_inDT hu)) o2_in ha hb hm
theorem dt_notin (hu : X.A.units + 65 < cLine) (ha : DE Z X a da) (hb : DE Z X b db) (hm : behindInMarks .NotIn b = false := by rfl) : DTs Z X (.Compare a [.NotIn] [b] pos) (dTst (dBin (opIn true) da db)) := dt_cmp ((op_notInD hu).or (op_notInDT hu)) o2_notin ha hb hm
theorem dt_isN {j pos'} (ha : DE Z X a da) : DTs Z X (.Compare a [.Is] [.Constant .none j pos'] pos) (dTst (dIsN false da)) := by
  refine PT.of (pt_cmp (pc_isN ha)) fun σ H Q h => ?_
  obtain ⟨B0, H0, ρ, s, Qd, R, hd, hq⟩ := lift_tst h
  refine ⟨B0, H0, ρ, s, _, R, hd, fun x s1 v H1 qx R1 g1 r1 => ?_⟩
  split at qx
  · rename_i d e1
    refine hq _ s1 _ H1 qx R1 g1 ?_
    rw [isN_of (r1.rd e1), Bool.false_bne]
    exact Im.bl _
  · exact qx.elim
theorem dt_notN {j pos'} (ha : DE Z X a da) : DTs Z X (.Compare a [.IsNot] [.Constant .none j pos'] pos) (dTst (dIsN true da)) := by
  refine PT.of (pt_cmp (pc_notN ha)) fun σ H Q h => ?_
  obtain ⟨B0, H0, ρ, s, Qd, R, hd, hq⟩ := lift_tst h
  refine ⟨B0, H0, ρ, s, _, R, hd, fun x s1 v H1 qx R1 g1 r1 => ?_⟩
  split at qx
  · rename_i d e1
    refine hq _ s1 _ H1 qx R1 g1 ?_
    rw [isN_of (r1.rd e1), Bool.true_bne]
    exact Im.bl _
  · exact qx.elim
/-- truth of data -/
def truD : PyData → Bool
  | .none => false
  | .bool b => b
  | .int i => i != 0
  | .str z => (z.length : Int) != 0
  | .list l => !l.isEmpty
  | .tuple l => !l.isEmpty
  | .dict l => !l.isEmpty
theorem all_empty {vs : List V} {ds : List PyData} (h : ImAll B H vs ds) : vs.isEmpty = ds.isEmpty := by cases h <;> rfl
theorem kv_empty {vs : List (Key × V)} {ds : List (PyData × PyData)} (h : ImKv B H vs ds) : vs.isEmpty = ds.isEmpty := by cases h <;> rfl
def shortS : PyData → Prop
  | .str z => z.length ≤ 1000000
  | _ => True
theorem tru_of {d : PyData} (h : Im B H v d) (hs : shortS d) : TruV K v H (truD d) := by
  cases h with
  | non => rfl
  | bl b => rfl
  | int i => rfl
  | str z => exact ⟨smB hs, rfl⟩
  | lst e _ q => exact .inl ⟨_, SqL.of e, by rw [all_empty q]; rfl⟩
  | ftp e _ q => exact .inr (.inl ⟨_, .inl (.inr ⟨_, e⟩), by rw [all_empty q]; rfl⟩)
  | dct e _ q => exact .inr (.inr ⟨_, e, by rw [kv_empty q]; rfl⟩)
def dTru (de : DX Z) : DT Z := fun s ρ Q => de s ρ fun r s1 => match r.D with
  | some d => shortS d ∧ Q (truD d) s1
  | _ => False
theorem dt_tru (h : DE Z X e de) (he : ∀ whole, isTrue e X.env whole = (do let v ← whole; standAt e.pos; holding [v] (truthy v)) := by intro _; rfl) : DTs Z X e (dTru de) := by
  refine PT.of (pt_truth h he) fun σ H Q ⟨B0, H0, ρ, s, Qd, R, hd, hq⟩ => ?_
  refine ⟨B0, H0, ρ, s, _, R, hd, fun r s1 v H1 qx R1 g1 r1 => ?_⟩
  split at qx
  · rename_i d e1
    exact ⟨_, tru_of (r1.rd e1) qx.1, hq _ s1 H1 qx.2 R1 g1⟩
  · exact qx.elim
def dAndT (t u : DT Z) : DT Z := fun s ρ Q => t s ρ fun b s1 => if b = true then u s1 ρ Q else Q false s1
def dOrT (t u : DT Z) : DT Z := fun s ρ Q => t s ρ fun b s1 => if b = true then Q true s1 else u s1 ρ Q
def dNotT (t : DT Z) : DT Z := fun s ρ Q => t s ρ fun b s1 => Q (!b) s1
abbrev DW (Z : Zn) (X : Cx) (e : Expr) (d : DT Z) : Prop := PW X e (liftT Z d)
theorem PW.of {t t' : TT} (h : PW X e t) (w : ∀ σ H Q, t' σ H Q → t σ H Q) : PW X e t' := ⟨fun wh pins s σ H Q I q => h.run wh pins s σ H Q I (w σ H Q q)⟩
theorem dw_and1 (ha : DTs Z X a dt) : DW Z X (.BoolOp .And [a] pos) dt := pw_and1 ha
theorem dw_or1 (ha : DTs Z X a dt) : DW Z X (.BoolOp .Or [a] pos) dt := pw_or1 ha
theorem dw_and (ha : DTs Z X a dt) (hb : DW Z X (.BoolOp .And (b :: rest) pos) du) : DW Z X (.BoolOp .And (a :: b :: rest) pos) (dAndT dt du) := by
  refine PW.of (pw_and ha hb) fun σ H Q ⟨B0, H0, ρ, s, Qd, R, hd, hq⟩ => ?_
  refine ⟨B0, H0, ρ, s, _, R, hd, fun c s1 H1 qx R1 g1 => ?_⟩
  cases c with
  | true => exact ⟨B0, H0, ρ, s1, Qd, R1, qx, fun c s2 H2 q R2 g2 => hq c s2 H2 q R2 (g1.trans g2)⟩
  | false => exact hq false s1 H1 qx R1 g1
theorem dw_or (ha : DTs Z X a dt) (hb : DW Z X (.BoolOp .Or (b :: rest) pos) du) : DW Z X (.BoolOp .Or (a :: b :: rest) pos) (dOrT dt du) := by
  refine PW.of (pw_or ha hb) fun σ H Q ⟨B0, H0, ρ, s, Qd, R, hd, hq⟩ => ?_
  refine ⟨B0, H0, ρ, s, _, R, hd, fun c s1 H1 qx R1 g1 => ?_⟩
  cases c with
  | false => exact ⟨B0, H0, ρ, s1, Qd, R1, qx, fun c s2 H2 q R2 g2 => hq c s2 H2 q R2 (g1.trans g2)⟩
  | true => exact hq true s1 H1 qx R1 g1
theorem dt_not (ha : DTs Z X a dt) : DTs Z X (.UnaryOp .Not a pos) (dNotT dt) := by
  refine PT.of (pt_not ha) fun σ H Q ⟨B0, H0, ρ, s, Qd, R, hd, hq⟩ => ?_
  exact ⟨B0, H0, ρ, s, _, R, hd, fun c s1 H1 qx R1 g1 => hq _ s1 H1 qx R1 g1⟩
/-! ### and, or, not as values -/
def dAndV (da db : DX Z) : DX Z := fun s ρ Q => da s ρ fun x s1 => match x.D with
  | some (.bool c) => if c = true then db s1 ρ Q else Q (.im (.bool false)) s1
  | _ => False
def dOrV (da db : DX Z) : DX Z := fun s ρ Q => da s ρ fun x s1 => match x.D with
  | some (.bool c) => if c = true then Q (.im (.bool true)) s1 else db s1 ρ Q
  | _ => False
def dNotV (da : DX Z) : DX Z := fun s ρ Q => da s ρ fun x s1 => match x.D with
  | some (.bool c) => Q (.im (.bool (!c))) s1
  | _ => False
theorem de_one {op} (h : DE Z X a da) : DE Z X (.BoolOp op [a] pos) da := pe_one h
theorem de_and (ha : DE Z X a da) (hb : DE Z X (.BoolOp .And (b :: rest) pos) db) : DE Z X (.BoolOp .And (a :: b :: rest) pos) (dAndV da db) := by
  refine PE.of (pe_and ha hb) fun σ H Q ⟨B0, H0, ρ, s, Qd, R, hd, hq⟩ => ?_
  refine ⟨B0, H0, ρ, s, _, R, hd, fun x s1 v H1 qx R1 g1 r1 => ?_⟩
  split at qx
  · rename_i c e1
    refine ⟨c, r1.vB e1, ?_⟩
    cases c with
    | true => exact ⟨B0, H0, ρ, s1, Qd, R1, qx, fun r s2 v H2 q R2 g2 r2 => hq r s2 v H2 q R2 (g1.trans g2) (r2.back R1.ok g1)⟩
    | false => exact hq _ s1 _ H1 qx R1 g1 (Im.bl _)
  · exact qx.elim
theorem de_or (ha : DE Z X a da) (hb : DE Z X (.BoolOp .Or (b :: rest) pos) db) : DE Z X (.BoolOp .Or (a :: b :: rest) pos) (dOrV da db) := by
  refine PE.of (pe_or ha hb) fun σ H Q ⟨B0, H0, ρ, s, Qd, R, hd, hq⟩ => ?_
  refine ⟨B0, H0, ρ, s, _, R, hd, fun x s1 v H1 qx R1 g1 r1 => ?_⟩
  split at qx
  · rename_i c e1
    refine ⟨c, r1.vB e1, ?_⟩
    cases c with
    | false => exact ⟨B0, H0, ρ, s1, Qd, R1, qx, fun r s2 v H2 q R2 g2 r2 => hq r s2 v H2 q R2 (g1.trans g2) (r2.back R1.ok g1)⟩
    | true => exact hq _ s1 _ H1 qx R1 g1 (Im.bl _)
  · exact qx.elim
theorem de_not (ha : DE Z X a da) : DE Z X (.UnaryOp .Not a pos) (dNotV da) := by
  refine PE.of (pe_not ha) fun σ H Q ⟨B0, H0, ρ, s, Qd, R, hd, hq⟩ => ?_
  refine ⟨B0, H0, ρ, s, _, R, hd, fun x s1 v H1 qx R1 g1 r1 => ?_⟩
  split at qx
  · rename_i c e1
    exact ⟨c, r1.vB e1, hq _ s1 _ H1 qx R1 g1 (Im.bl _)⟩
  · exact qx.elim
def dIf (t : DT Z) (da db : DX Z) : DX Z := fun s ρ Q => t s ρ fun c s1 => if c = true then da s1 ρ Q else db s1 ρ Q
theorem de_if (hc : DTs Z X c dt) (ha : DE Z X a da) (hb : DE Z X b db) : DE Z X (.IfExp c a b pos) (dIf dt da db) := by
  refine PE.of (pe_ifExp hc ha hb) fun σ H Q ⟨B0, H0, ρ, s, Qd, R, hd, hq⟩ => ?_
  refine ⟨B0, H0, ρ, s, _, R, hd, fun c s1 H1 qx R1 g1 => ?_⟩
  cases c with
  | true => exact ⟨B0, H0, ρ, s1, Qd, R1, qx, fun r s2 v H2 q R2 g2 r2 => hq r s2 v H2 q R2 (g1.trans g2) (r2.back R1.ok g1)⟩
  | false => exact ⟨B0, H0, ρ, s1, Qd, R1, qx, fun r s2 v H2 q R2 g2 r2 => hq r s2 v H2 q R2 (g1.trans g2) (r2.back R1.ok g1)⟩
/-! ### a < b < c of ints -/
def dChain (f g : Int → Int → Bool) (da db dc : DX Z) : DX Z := fun s ρ Q => da s ρ fun x s1 => db s1 ρ fun y s2 => match x.D, y.D with
  | some (.int i), some (.int j) => if f i j = true then dc s2 ρ fun z s3 => match z.D with
      | some (.int k) => Q (.im (.bool (g j k))) s3
      | _ => False
    else Q (.im (.bool false)) s2
  | _, _ => False
theorem lift_chain {f g : Int → Int → Bool} {σ : L2.St} {H : Hp} {Q : VK} (h : liftE Z (dChain f g da db dc) σ H Q) : tChain (rI0 fun i j => .bl (f i j)) (rI0 fun i j => .bl (g i j)) (liftE Z da) (liftE Z db) (liftE Z dc) σ H Q := by
  obtain ⟨B0, H0, ρ, s, Qd, R, hd, hq⟩ := h
  refine ⟨B0, H0, ρ, s, _, R, hd, fun x s1 v H1 qx R1 g1 r1 => ?_⟩
  refine ⟨B0, H0, ρ, s1, _, R1, qx, fun y s2 u H2 qy R2 g2 r2 => ?_⟩
  have r1 := r1.grow R1 g2
  split at qy
  · rename_i i j e1 e2
    refine ⟨i, j, r1.vI e1, r2.vI e2, _, rfl, ?_⟩
    by_cases hf : f i j = true
    · rw [if_pos hf] at qy ⊢
      refine ⟨B0, H0, ρ, s2, _, R2, qy, fun z s3 w H3 qz R3 g3 r3 => ?_⟩
      split at qz
      · rename_i k e3
        exact ⟨j, k, r2.vI e2, r3.vI e3, hq _ s3 _ H3 qz R3 (g1.trans (g2.trans g3)) (Im.bl _)⟩
      · exact qz.elim
    · rw [if_neg hf] at qy ⊢
      exact hq _ s2 _ H2 qy R2 (g1.trans g2) (Im.bl _)
  · exact qy.elim
theorem de_chain {f g : Int → Int → Bool} (ho : OpR X (compareOp op) (rI0 fun i j => .bl (f i j))) (ho' : OpR X (compareOp op') (rI0 fun i j => .bl (g i j))) (ha : DE Z X a da) (hb : DE Z X b db) (hc : DE Z X c dc) (hm : lastMarks [op, op'] [b, c] = false := by with_unfolding_all rfl) :
    DE Z X (.Compare a [op, op'] [b, c] pos) (dChain f g da db dc) := PE.of (pe_chain ho ho' ha hb hc hm) fun σ H Q h => lift_chain h
theorem dt_chain {f g : Int → Int → Bool} (ho : OpR X (compareOp op) (rI0 fun i j => .bl (f i j))) (ho' : OpR X (compareOp op') (rI0 fun i j => .bl (g i j))) (ha : DE Z X a da) (hb : DE Z X b db) (hc : DE Z X c dc) (hm : lastMarks [op, op'] [b, c] = false := by with_unfolding_all rfl) :
    DTs Z X (.Compare a [op, op'] [b, c] pos) (dTst (dChain f g da db dc)) := by
  refine PT.of (pt_chain ho ho' ha hb hc hm) fun σ H Q h => ?_
  obtain ⟨B0, H0, ρ, s, Qd, R, hd, hq⟩ := lift_tst h
  exact lift_chain ⟨B0, H0, ρ, s, Qd, R, hd, hq⟩
/-! ### slices -/
abbrev DO (Z : Zn) := Z.S → List Sl → (Option Int → Z.S → Prop) → Prop
def liftO (Z : Zn) (d : DO Z) : TO := fun σ H Q => ∃ (B0 : Addr → Prop) (H0 : Hp) (ρ : List Sl) (s : Z.S) (Qd : Option Int → Z.S → Prop), Rel Z B0 H0 ρ s σ H ∧ d s ρ Qd ∧
  ∀ b s' H', Qd b s' → Rel Z B0 H0 ρ s' σ H' → Gr Z H H' → Q b H'
abbrev DOs (Z : Zn) (X : Cx) (e : Option Expr) (d : DO Z) : Prop := PO X e (liftO Z d)
def dNoP : DO Z := fun s _ Q => Q none s
def dP (da : DX Z) : DO Z := fun s ρ Q => da s ρ fun x s1 => match x.D with
  | some (.int i) => Q (some i) s1
  | _ => False
theorem do_none : DOs Z X none dNoP := ⟨fun pins s σ H Q I ⟨B0, H0, ρ, s1, Qd, R, hd, hq⟩ => po_none.run pins s σ H Q I (hq none s1 H hd R Gr.refl)⟩
theorem do_some (h : DE Z X e de) : DOs Z X (some e) (dP de) := ⟨fun pins s σ H Q I ⟨B0, H0, ρ, s1, Qd, R, hd, hq⟩ => (po_some h).run pins s σ H Q I (by
  refine ⟨B0, H0, ρ, s1, _, R, hd, fun x s2 v H1 qx R1 g1 r1 => ?_⟩
  split at qx
  · rename_i i e1
    exact ⟨i, r1.vI e1, hq _ s2 H1 qx R1 g1⟩
  · exact qx.elim)⟩
def cutD (xs : List PyData) (lo hi : Option Int) : List PyData := (xs.drop (HT.sIx xs.length 0 lo)).take (HT.sIx xs.length xs.length hi - HT.sIx xs.length 0 lo)
theorem ImAll.cut {vs : List V} {ds : List PyData} (h : ImAll B H vs ds) (lo hi : Option Int) : ImAll B H (cutV vs lo hi) (cutD ds lo hi) := by
  unfold cutV cutD
  rw [h.length]
  exact (h.drop _).take _
def dSl (da : DX Z) (dl dh : DO Z) : DX Z := fun s ρ Q => da s ρ fun x s1 => dl s1 ρ fun lo s2 => dh s2 ρ fun hi s3 => match x.D with
  | some (.list l) => Q (.fr (cutD l lo hi)) s3
  | some (.tuple l) => Q (.im (.tuple (cutD l lo hi))) s3
  | _ => False
theorem de_sl {lo hi : Option Expr} {dl dh : DO Z} {p2 : Pos} (ha : DE Z X a da) (hl : DOs Z X lo dl) (hh : DOs Z X hi dh) : DE Z X (.Subscript a (.Slice lo hi none p2) pos) (dSl da dl dh) := by
  refine PE.of (pe_slice (sl_list.or sl_tupK) ha hl hh) fun σ H Q ⟨B0, H0, ρ, s, Qd, R, hd, hq⟩ => ?_
  refine ⟨B0, H0, ρ, s, _, R, hd, fun x s1 v H1 qx R1 g1 r1 => ?_⟩
  refine ⟨B0, H0, ρ, s1, _, R1, qx, fun lo s2 H2 ql R2 g2 => ?_⟩
  refine ⟨B0, H0, ρ, s2, _, R2, ql, fun hi s3 H3 qh R3 g3 => ?_⟩
  have r3 := (r1.grow R1 g2).grow R2 g3
  have g := g1.trans (g2.trans g3)
  split at qh
  · rename_i l e1
    obtain ⟨a, ys, rfl, h1, h2⟩ := r3.lst e1
    exact .inl ⟨a, ys, rfl, SqL.of h1, fun p hp => hq _ s3 _ _ qh (R3.same (same_new hp)) (g.trans (Gr.of (same_new hp))) ((R3.newL hp (h2.cut lo hi)).back R3.ok g)⟩
  · rename_i l e1
    obtain ⟨a, ys, rfl, h1, h2⟩ := r3.tup (K := X.K) e1
    refine .inr ⟨a, ys, rfl, h1, fun hw => ?_, fun _ p o hp tk => hq _ s3 _ _ qh (R3.same (same_new hp)) (g.trans (Gr.of (same_new hp))) (newT hp tk (h2.cut lo hi))⟩
    refine hq _ s3 _ _ qh R3 g ?_
    have e : cutD l lo hi = l := by
      unfold cutD
      rw [h2.length] at hw
      rw [hw.1, hw.2, List.drop_zero, Nat.sub_zero, List.take_length]
    rw [e]
    cases x with
    | im d => cases e1; exact r3
    | _ => cases e1
  · exact qh.elim
end
end Lf
namespace Lf
open PySem PySem.Spec PyProof.Rows L2
structure DEnds (Z : Zn) where
  nx : Z.S → List Sl → Prop
  rt : Rv → Z.S → Prop
  bk : Z.S → List Sl → Prop := fun _ _ => False
  ct : Z.S → List Sl → Prop := fun _ _ => False
abbrev DSt (Z : Zn) := DEnds Z → Z.S → List Sl → Prop
structure Stp (Z : Zn) (B0 : Addr → Prop) (ρ : List Sl) (H : Hp) (ρ' : List Sl) (H' : Hp) : Prop where
  keep : ∀ b o, H b = some o → ¬ Bad Z B0 ρ b → H' b = some o
  tups : ∀ b xs, H b = some (.tup xs) → H' b = some (.tup xs)
  frzs : ∀ b o u, H b = some (.frz o u) → H' b = some (.frz o u)
  owns : ∀ a ∈ own ρ', a ∈ own ρ ∨ H a = none
def liftS (Z : Zn) (d : DSt Z) : TS := fun D σ H => ∃ (B0 : Addr → Prop) (H0 : Hp) (ρ : List Sl) (s : Z.S) (De : DEnds Z), Rel Z B0 H0 ρ s σ H ∧ d De s ρ ∧
  (∀ s' ρ' σ' H', De.nx s' ρ' → Rel Z B0 H0 ρ' s' σ' H' → Stp Z B0 ρ H ρ' H' → D.nx σ' H') ∧
  (∀ s' ρ' σ' H', De.bk s' ρ' → Rel Z B0 H0 ρ' s' σ' H' → Stp Z B0 ρ H ρ' H' → D.bk σ' H') ∧
  (∀ s' ρ' σ' H', De.ct s' ρ' → Rel Z B0 H0 ρ' s' σ' H' → Stp Z B0 ρ H ρ' H' → D.ct σ' H') ∧
  (∀ r s' v H', De.rt r s' → Z.ok s' H' → Gr Z H0 H' → RvR Z B0 [] H0 H' v r → D.rt v H')
abbrev DS (Z : Zn) (X : Cx) (st : Stmt) (d : DSt Z) : Prop := PS X st (liftS Z d)
abbrev DSs (Z : Zn) (X : Cx) (st : List Stmt) (d : DSt Z) : Prop := PSs X st (liftS Z d)
section
variable {Z : Zn} {X : Cx} {B0 : Addr → Prop} {H0 H H1 H2 : Hp} {ρ ρ1 ρ2 : List Sl} {s s1 s2 : Z.S} {σ : L2.St} {v u : V} {r x y : Rv} {e a b c : Expr} {es rest : List Expr} {de da db dc : DX Z} {dt du : DT Z} {das : DA Z} {pos p : Pos} {K : PySem.W.Frag} {B : Addr → Prop} {st : Stmt} {sts : List Stmt} {t t' : DSt Z}
theorem PS.of {t t' : TS} (h : PS X st t) (w : ∀ D σ H, t' D σ H → t D σ H) : PS X st t' := ⟨fun pins s σ H D I q => h.run pins s σ H D I (w D σ H q)⟩
theorem PSs.of {t t' : TS} (h : PSs X sts t) (w : ∀ D σ H, t' D σ H → t D σ H) : PSs X sts t' := ⟨fun pins s σ H D I q => h.run pins s σ H D I (w D σ H q)⟩
theorem Stp.refl : Stp Z B0 ρ H ρ H := ⟨fun _ _ h _ => h, fun _ _ h => h, fun _ _ _ h => h, fun _ h => .inl h⟩
theorem Stp.trans (R : Rel Z B0 H0 ρ1 s1 σ H1) (a : Stp Z B0 ρ H ρ1 H1) (b : Stp Z B0 ρ1 H1 ρ2 H2) : Stp Z B0 ρ H ρ2 H2 := by
  refine ⟨fun c o h n => b.keep c o (a.keep c o h n) fun z => ?_, fun c xs h => b.tups c xs (a.tups c xs h), fun c o u h => b.frzs c o u (a.frzs c o u h), fun c hc => ?_⟩
  · rcases z with z | z | z
    · exact n (.inl z)
    · exact n (.inr (.inl z))
    · rcases a.owns c z with z | z
      · exact n (.inr (.inr z))
      · rw [z] at h; cases h
  · rcases b.owns c hc with z | z
    · exact a.owns c z
    · by_cases hb : Bad Z B0 ρ c
      · rcases hb with hb | hb | hb
        · exact absurd z (Z.trk R.ok hb)
        · exact absurd z (R.btr c hb)
        · exact .inl hb
      · cases e : H c with
        | none => exact .inr rfl
        | some o =>
          rw [a.keep c o e hb] at z
          cases z
theorem Gr.stp (R : Rel Z B0 H0 ρ s σ H) (g : Gr Z H H1) : Stp Z B0 ρ H ρ H1 := ⟨fun b o h n => g b o h fun z => n (.inl z), fun b xs h => g b _ h (Zn.ntup R.ok h), fun b o u h => g b _ h (Zn.nfrz R.ok h), fun _ h => .inl h⟩
/-! ### the list of owned addresses -/
theorem own_cons (x : Sl) (ρ : List Sl) : own (x :: ρ) = (ownOf x).toList ++ own ρ := by
  unfold own
  rw [List.filterMap_cons]
  cases ownOf x <;> rfl
theorem mem_own_set {i : Nat} {x : Sl} {a : Addr} (h : a ∈ own (ρ.set i x)) : a ∈ own ρ ∨ ownOf x = some a := by
  obtain ⟨y, hy, e⟩ := List.mem_filterMap.mp h
  rcases List.mem_or_eq_of_mem_set hy with z | z
  · exact .inl (List.mem_filterMap.mpr ⟨y, z, e⟩)
  · subst z
    exact .inr e
theorem nodup_own_set : ∀ {ρ : List Sl} {i : Nat} {x : Sl}, (own ρ).Nodup → (∀ a, ownOf x = some a → a ∉ own ρ) → (own (ρ.set i x)).Nodup
  | [], _, _, h, _ => h
  | y :: ρ, 0, x, h, hx => by
    rw [List.set_cons_zero, own_cons]
    rw [own_cons] at h
    have h2 : (own ρ).Nodup := (List.nodup_append.mp h).2.1
    cases e : ownOf x with
    | none => exact h2
    | some a =>
      refine List.nodup_cons.mpr ⟨fun z => hx a e ?_, h2⟩
      rw [own_cons]
      exact List.mem_append_right _ z
  | y :: ρ, i + 1, x, h, hx => by
    rw [List.set_cons_succ, own_cons]
    rw [own_cons] at h
    obtain ⟨h1, h2, h3⟩ := List.nodup_append.mp h
    refine List.nodup_append.mpr ⟨h1, nodup_own_set h2 fun a e z => hx a e ?_, fun a ha b hb => ?_⟩
    · rw [own_cons]
      exact List.mem_append_right _ z
    · rcases mem_own_set hb with z | z
      · exact h3 a ha b z
      · intro e
        subst e
        refine hx a z ?_
        rw [own_cons]
        exact List.mem_append_left _ ha
theorem own_set_same : ∀ {ρ : List Sl} {i : Nat} {a : Addr} {l l' : List PyData}, ρ[i]? = some (Sl.ow a l) → own (ρ.set i (Sl.ow a l')) = own ρ
  | [], _, _, _, _, h => by cases h
  | y :: ρ, 0, a, l, l', h => by
    cases h
    rfl
  | y :: ρ, i + 1, a, l, l', h => by
    rw [List.set_cons_succ, own_cons, own_cons, own_set_same (i := i) h]
theorem bad_set {i : Nat} {x : Sl} {a : Addr} (hx : ownOf x = none) (h : Bad Z B0 (ρ.set i x) a) : Bad Z B0 ρ a := by
  rcases h with h | h | h
  · exact .inl h
  · exact .inr (.inl h)
  · rcases mem_own_set h with z | z
    · exact .inr (.inr z)
    · rw [hx] at z; cases z
/-! ### stores -/
theorem ImAll.bad {B' : Addr → Prop} {vs : List V} {ds : List PyData} (hB : ∀ a, B' a → B a) (h : ImAll B H vs ds) : ImAll B' H vs ds := h.mono (fun b o e n => ⟨e, fun z => n (hB b z)⟩) (fun _ _ e => e) (fun _ _ _ e => e)
theorem Im.bad {B' : Addr → Prop} {d : PyData} (hB : ∀ a, B' a → B a) (h : Im B H v d) : Im B' H v d := h.mono (fun b o e n => ⟨e, fun z => n (hB b z)⟩) (fun _ _ e => e) (fun _ _ _ e => e)
theorem ImPs.bad {κ : Type} {B' : Addr → Prop} {vs : List (κ × V)} {ds : List (κ × PyData)} (hB : ∀ a, B' a → B a) (h : ImPs B H vs ds) : ImPs B' H vs ds := h.mono (fun b o e n => ⟨e, fun z => n (hB b z)⟩) (fun _ _ e => e) (fun _ _ _ e => e)
theorem SlR.bad {B' : Addr → Prop} {x : Sl} {o : Option V} (hB : ∀ a, B' a → B a) (h : SlR B H x o) : SlR B' H x o := by
  cases x with
  | no => trivial
  | im d =>
    obtain ⟨v, h1, h2⟩ := h
    exact ⟨v, h1, h2.bad hB⟩
  | ow a l =>
    obtain ⟨h1, xs, h2, h3⟩ := h
    exact ⟨h1, xs, h2, h3.bad hB⟩
  | od a l =>
    obtain ⟨h1, xs, h2, h3⟩ := h
    exact ⟨h1, xs, h2, h3.bad hB⟩
  | ot a l =>
    obtain ⟨h1, xs, h2, h3⟩ := h
    exact ⟨h1, xs, h2, h3.bad hB⟩
  | raw v => exact h
theorem set_get {α : Type} {l : List α} {i j : Nat} {x y : α} (h : (l.set i x)[j]? = some y) : (i = j ∧ y = x) ∨ (i ≠ j ∧ l[j]? = some y) := by
  by_cases z : i = j
  · subst z
    rw [List.getElem?_set_self'] at h
    cases e : l[i]? with
    | none => rw [e] at h; cases h
    | some w => rw [e] at h; cases h; exact .inl ⟨rfl, rfl⟩
  · rw [List.getElem?_set_ne z] at h
    exact .inr ⟨z, h⟩
/-- a slot gets what is no owned list -/
theorem Rel.put (R : Rel Z B0 H0 ρ s σ H) {i : Nat} {x : Sl} {o : Option V} (hx : ownOf x = none) (h : SlR (Bad Z B0 ρ) H x o) : Rel Z B0 H0 (ρ.set i x) s (σ.set i o) H := by
  refine ⟨R.ok, by rw [List.length_set, List.length_set]; exact R.len, fun j y e => ?_, nodup_own_set R.nd (fun a z => by rw [hx] at z; cases z), fun a ha => ?_, R.btr, R.frm⟩
  · rcases set_get e with ⟨rfl, rfl⟩ | ⟨ne, e⟩
    · refine ⟨o, ?_, h.bad fun a z => bad_set hx z⟩
      have : i < σ.length := by
        rw [R.len]
        rcases Nat.lt_or_ge i ρ.length with z | z
        · exact z
        · rw [List.getElem?_eq_none (by rw [List.length_set]; exact z)] at e; cases e
      rw [List.getElem?_set_self this]
    · obtain ⟨o', h1, h2⟩ := R.sl j y e
      exact ⟨o', by rw [List.getElem?_set_ne ne]; exact h1, h2.bad fun a z => bad_set hx z⟩
  · rcases mem_own_set ha with z | z
    · exact R.fr a z
    · rw [hx] at z; cases z
theorem Rel.putO (R : Rel Z B0 H0 ρ s σ H) (ok : Z.ok s1 H1) (g : Gr Z H H1) {i : Nat} {q : Addr} {xs : List V} {l : List PyData} (hq : H q = none) (hl : H1 q = some (.lst xs)) (h : ImAll (fun a => Bad Z B0 ρ a ∨ a = q) H1 xs l) : Rel Z B0 H0 (ρ.set i (.ow q l)) s1 (σ.set i (some (.ref q))) H1 := by
  have nz : ¬ Z.at_ q := fun z => Z.trk R.ok z hq
  have nb : ¬ B0 q := fun z => R.btr q z hq
  have no : q ∉ own ρ := fun z => R.otr z hq
  have R1 := R.grow ok g
  have hB : ∀ a, Bad Z B0 (ρ.set i (.ow q l)) a → Bad Z B0 ρ a ∨ a = q := fun a z => by
    rcases z with z | z | z
    · exact .inl (.inl z)
    · exact .inl (.inr (.inl z))
    · rcases mem_own_set z with z | z
      · exact .inl (.inr (.inr z))
      · cases z; exact .inr rfl
  have kl : ∀ b o, H b = some o → ¬ Bad Z B0 ρ b → H1 b = some o ∧ ¬ Bad Z B0 (ρ.set i (.ow q l)) b := fun b o e n => ⟨g b o e fun z => n (.inl z), fun z => (hB b z).elim n fun z => by subst z; rw [hq] at e; cases e⟩
  have kt : ∀ b ys, H b = some (.tup ys) → H1 b = some (.tup ys) := fun b ys e => g b _ e (Zn.ntup R.ok e)
  have kf : ∀ b o u, H b = some (.frz o u) → H1 b = some (.frz o u) := fun b o u e => g b _ e (Zn.nfrz R.ok e)
  refine ⟨ok, by rw [List.length_set, List.length_set]; exact R.len, fun j y e => ?_, nodup_own_set R.nd (fun a z => by cases z; exact no), fun a ha => ?_, R1.btr, R1.frm⟩
  · rcases set_get e with ⟨rfl, rfl⟩ | ⟨ne, e⟩
    · have hi : i < σ.length := by
        rw [R.len]
        rcases Nat.lt_or_ge i ρ.length with z | z
        · exact z
        · rw [List.getElem?_eq_none (by rw [List.length_set]; exact z)] at e; cases e
      exact ⟨_, by rw [List.getElem?_set_self hi], rfl, xs, hl, h.bad hB⟩
    · obtain ⟨o', h1, h2⟩ := R.sl j y e
      refine ⟨o', by rw [List.getElem?_set_ne ne]; exact h1, ?_⟩
      cases y with
      | no => trivial
      | im d =>
        obtain ⟨w, h3, h4⟩ := h2
        exact ⟨w, h3, h4.mono kl kt kf⟩
      | ow a m =>
        obtain ⟨h3, ys, h4, h5⟩ := h2
        exact ⟨h3, ys, g a _ h4 (R.fr a (own_mem e)).2.1, h5.mono kl kt kf⟩
      | od a m =>
        obtain ⟨h3, ys, h4, h5⟩ := h2
        exact ⟨h3, ys, g a _ h4 (R.fr a (own_memG e rfl)).2.1, h5.mono kl kt kf⟩
      | ot a m =>
        obtain ⟨h3, ys, h4, h5⟩ := h2
        exact ⟨h3, ys, g a _ h4 (R.fr a (own_memG e rfl)).2.1, h5.mono kl kt kf⟩
      | raw w => exact h2
  · rcases mem_own_set ha with z | z
    · exact R.fr a z
    · cases z
      exact ⟨R.h0 hq, nz, nb⟩
/-- an owned list is changed -/
theorem Rel.mutL (R : Rel Z B0 H0 ρ s σ H) {i : Nat} {q : Addr} {xs : List V} {l l' : List PyData} (hi : ρ[i]? = some (.ow q l)) (h : ImAll (Bad Z B0 ρ) H xs l') : Rel Z B0 H0 (ρ.set i (.ow q l')) s σ (upd H q (.lst xs)) := by
  have mq := own_mem hi
  obtain ⟨f1, f2, f3⟩ := R.fr q mq
  obtain ⟨o0, s0, e0, xs0, hq0, _⟩ := R.sl i _ hi
  have eo : own (ρ.set i (.ow q l')) = own ρ := own_set_same hi
  have eB : ∀ a, Bad Z B0 (ρ.set i (.ow q l')) a ↔ Bad Z B0 ρ a := fun a => by unfold Bad; rw [eo]
  have kl : ∀ b o, H b = some o → ¬ Bad Z B0 ρ b → upd H q (.lst xs) b = some o ∧ ¬ Bad Z B0 (ρ.set i (.ow q l')) b := fun b o e n => ⟨by rw [upd_ne (fun z => n (by rw [z]; exact .inr (.inr mq)))]; exact e, fun z => n ((eB b).mp z)⟩
  have kt : ∀ b ys, H b = some (.tup ys) → upd H q (.lst xs) b = some (.tup ys) := fun b ys e => by rw [upd_ne (fun z => by rw [z, hq0] at e; cases e)]; exact e
  have kf : ∀ b o u, H b = some (.frz o u) → upd H q (.lst xs) b = some (.frz o u) := fun b o u e => by rw [upd_ne (fun z => by rw [z, hq0] at e; cases e)]; exact e
  refine ⟨Z.st R.ok (fun b o z e => by rw [upd_ne (fun y => f2 (by rw [← y]; exact z))]; exact e) kt kf (fun b u e => by rw [upd_ne (fun z => by rw [z, hq0] at e; cases e)]; exact e), by rw [List.length_set]; exact R.len, fun j y e => ?_, by rw [eo]; exact R.nd, fun a ha => by rw [eo] at ha; exact R.fr a ha, fun a ha z => ?_, fun b o e n => ?_⟩
  · rcases set_get e with ⟨rfl, rfl⟩ | ⟨ne, e9⟩
    · exact ⟨o0, s0, e0, xs, upd_same, h.mono kl kt kf⟩
    · obtain ⟨o', h1, h2⟩ := R.sl j y e9
      refine ⟨o', h1, ?_⟩
      cases y with
      | no => trivial
      | im d =>
        obtain ⟨w, h3, h4⟩ := h2
        exact ⟨w, h3, h4.mono kl kt kf⟩
      | ow a m =>
        obtain ⟨h3, ys, h4, h5⟩ := h2
        have : a ≠ q := fun z => by
          subst z
          exact ne (own_inj R.nd hi e9)
        exact ⟨h3, ys, by rw [upd_ne this]; exact h4, h5.mono kl kt kf⟩
      | od a m =>
        obtain ⟨h3, ys, h4, h5⟩ := h2
        have : a ≠ q := fun z => by
          subst z
          rw [hq0] at h4
          cases h4
        exact ⟨h3, ys, by rw [upd_ne this]; exact h4, h5.mono kl kt kf⟩
      | ot a m =>
        obtain ⟨h3, ys, h4, h5⟩ := h2
        have : a ≠ q := fun z => by
          subst z
          rw [hq0] at h4
          cases h4
        exact ⟨h3, ys, by rw [upd_ne this]; exact h4, h5.mono kl kt kf⟩
      | raw w => exact h2
  · by_cases y : a = q
    · exact f3 (by rw [← y]; exact ha)
    · rw [upd_ne y] at z
      exact R.btr a ha z
  · rw [upd_ne (fun z => by rw [z, f1] at e; cases e)]
    exact R.frm b o e n
where
  own_inj {ρ : List Sl} {i j : Nat} {q : Addr} {l m : List PyData} (nd : (own ρ).Nodup) (h1 : ρ[i]? = some (.ow q l)) (h2 : ρ[j]? = some (.ow q m)) : i = j := by
    induction ρ generalizing i j with
    | nil => cases h1
    | cons y ρ ih =>
      rw [own_cons] at nd
      obtain ⟨n1, n2, n3⟩ := List.nodup_append.mp nd
      cases i with
      | zero =>
        cases j with
        | zero => rfl
        | succ j =>
          cases h1
          exact absurd rfl (n3 q (by simp [ownOf]) q (own_mem (i := j) h2))
      | succ i =>
        cases j with
        | zero =>
          cases h2
          exact absurd rfl (n3 q (by simp [ownOf]) q (own_mem (i := i) h1))
        | succ j => rw [ih n2 (i := i) (j := j) h1 h2]
theorem mut_stp (R : Rel Z B0 H0 ρ s σ H) {i : Nat} {q : Addr} {xs : List V} {l l' : List PyData} (hi : ρ[i]? = some (.ow q l)) : Stp Z B0 ρ H (ρ.set i (.ow q l')) (upd H q (.lst xs)) := by
  have mq := own_mem hi
  obtain ⟨o0, s0, e0, xs0, hq0, _⟩ := R.sl i _ hi
  refine ⟨fun b o e n => by rw [upd_ne (fun z => n (by rw [z]; exact .inr (.inr mq)))]; exact e, fun b ys e => by rw [upd_ne (fun z => by rw [z, hq0] at e; cases e)]; exact e, fun b o u e => by rw [upd_ne (fun z => by rw [z, hq0] at e; cases e)]; exact e, fun a ha => .inl ?_⟩
  rw [own_set_same hi] at ha
  exact ha
/-- name = value -/
def stR (r : Rv) (i : Nat) (ρ : List Sl) (Q : List Sl → Prop) : Prop := match r with
  | .im d => Q (ρ.set i (.im d))
  | .fr l => ∀ a, Q (ρ.set i (.ow a l))
  | .rw v => Q (ρ.set i (.raw v))
  | .bo _ => False
theorem stR_ok (R : Rel Z B0 H0 ρ s σ H) (R1 : Rel Z B0 H0 ρ s1 σ H1) (g : Gr Z H H1) (h : RvR Z B0 ρ H H1 v r) {i : Nat} {Q : List Sl → Prop} (q : stR r i ρ Q) : ∃ ρ', Q ρ' ∧ Rel Z B0 H0 ρ' s1 (σ.set i (some v)) H1 ∧ Stp Z B0 ρ H ρ' H1 := by
  have st := g.stp R
  cases r with
  | im d =>
    refine ⟨_, q, R1.put rfl ⟨v, rfl, h⟩, st.keep, st.tups, st.frzs, fun a ha => ?_⟩
    rcases mem_own_set ha with z | z
    · exact .inl z
    · cases z
  | rw w =>
    refine ⟨_, q, R1.put rfl (by cases (show v = w from h); rfl), st.keep, st.tups, st.frzs, fun a ha => ?_⟩
    rcases mem_own_set ha with z | z
    · exact .inl z
    · cases z
  | fr l =>
    obtain ⟨p, xs, rfl, h1, h2, h3, h4⟩ := h
    refine ⟨_, q p, R.putO R1.ok g h1 h3 h4, st.keep, st.tups, st.frzs, fun a ha => ?_⟩
    rcases mem_own_set ha with z | z
    · exact .inl z
    · cases z
      exact .inr h1
  | bo l => exact q.elim
def dSet (i : Nat) (de : DX Z) : DSt Z := fun De s ρ => de s ρ fun r s1 => stR r i ρ fun ρ' => De.nx s1 ρ'
theorem lift_set {i : Nat} {D : Ends} {σ : L2.St} {H : Hp} (h : liftS Z (dSet i de) D σ H) : tAsg (liftE Z de) (gName i) D σ H := by
  obtain ⟨B0, H0, ρ, s, De, R, hd, hn, _⟩ := h
  refine ⟨B0, H0, ρ, s, _, R, hd, fun r s1 v H1 qx R1 g1 r1 => ?_⟩
  obtain ⟨ρ', q, R', st⟩ := stR_ok R R1 g1 r1 qx
  exact hn s1 ρ' _ H1 q R' st
theorem ds_set {i : Nat} {n : Str} {pos' : Pos} (hN : X.N.Nodup) (hi : X.N[i]? = some n) (hx : Loc X.env.scope n) (he : DE Z X e de) (hs : swapsWith e (some (.Name n pos')) pos.line X.env = pure false := by rfl) (hf : X.fn n = true ∨ X.env.scope.names.lookup n = some .local := by first | exact .inl rfl | exact .inr rfl | assumption) :
    DS Z X (.Assign [.Name n pos'] e pos) (dSet i de) := PS.of (ps_set hN hi hx he hs hf) fun D σ H h => lift_set h
/-! ### blocks -/
def dNext : DSt Z := fun De s ρ => De.nx s ρ
def dSeq (t u : DSt Z) : DSt Z := fun De s ρ => t { De with nx := u De } s ρ
theorem ds_nil : DSs Z X [] dNext := PSs.of pss_nil fun D σ H ⟨B0, H0, ρ, s, De, R, hd, hn, _⟩ => hn s ρ σ H hd R Stp.refl
theorem ds_cons (h1 : DS Z X st t) (h2 : DSs Z X sts t') : DSs Z X (st :: sts) (dSeq t t') := by
  refine PSs.of (pss_cons h1 h2) fun D σ H ⟨B0, H0, ρ, s, De, R, hd, hn, hb, hc, hr⟩ => ?_
  refine ⟨B0, H0, ρ, s, _, R, hd, fun s1 ρ1 σ1 H1 q R1 st => ?_, hb, hc, hr⟩
  exact ⟨B0, H0, ρ1, s1, De, R1, q, fun s2 ρ2 σ2 H2 q R2 st2 => hn s2 ρ2 σ2 H2 q R2 (st.trans R1 st2), fun s2 ρ2 σ2 H2 q R2 st2 => hb s2 ρ2 σ2 H2 q R2 (st.trans R1 st2), fun s2 ρ2 σ2 H2 q R2 st2 => hc s2 ρ2 σ2 H2 q R2 (st.trans R1 st2), hr⟩
theorem ds_one (h1 : DS Z X st t) : DSs Z X [st] t := pss_one h1
theorem ds_pass : DS Z X (.Pass pos) dNext := PS.of ps_pass fun D σ H ⟨B0, H0, ρ, s, De, R, hd, hn, _⟩ => hn s ρ σ H hd R Stp.refl
def dBreak : DSt Z := fun De s ρ => De.bk s ρ
def dCont : DSt Z := fun De s ρ => De.ct s ρ
theorem ds_break : DS Z X (.Break pos) dBreak := PS.of ps_break fun D σ H ⟨B0, H0, ρ, s, De, R, hd, _, hb, _⟩ => hb s ρ σ H hd R Stp.refl
theorem ds_cont : DS Z X (.Continue pos) dCont := PS.of ps_continue fun D σ H ⟨B0, H0, ρ, s, De, R, hd, _, _, hc, _⟩ => hc s ρ σ H hd R Stp.refl
def dIfS (c : DT Z) (t u : DSt Z) : DSt Z := fun De s ρ => c s ρ fun b s1 => if b = true then t De s1 ρ else u De s1 ρ
theorem ds_if {as bs : List Stmt} (hc : DTs Z X c dt) (ha : DSs Z X as t) (hb : DSs Z X bs t') : DS Z X (.If c as bs pos) (dIfS dt t t') := by
  refine PS.of (ps_if hc ha hb) fun D σ H ⟨B0, H0, ρ, s, De, R, hd, hn, hb, hc, hr⟩ => ?_
  refine ⟨B0, H0, ρ, s, _, R, hd, fun b s1 H1 q R1 g => ?_⟩
  have st := g.stp R
  cases b with
  | true => exact ⟨B0, H0, ρ, s1, De, R1, q, fun s2 ρ2 σ2 H2 q R2 st2 => hn s2 ρ2 σ2 H2 q R2 (st.trans R1 st2), fun s2 ρ2 σ2 H2 q R2 st2 => hb s2 ρ2 σ2 H2 q R2 (st.trans R1 st2), fun s2 ρ2 σ2 H2 q R2 st2 => hc s2 ρ2 σ2 H2 q R2 (st.trans R1 st2), hr⟩
  | false => exact ⟨B0, H0, ρ, s1, De, R1, q, fun s2 ρ2 σ2 H2 q R2 st2 => hn s2 ρ2 σ2 H2 q R2 (st.trans R1 st2), fun s2 ρ2 σ2 H2 q R2 st2 => hb s2 ρ2 σ2 H2 q R2 (st.trans R1 st2), fun s2 ρ2 σ2 H2 q R2 st2 => hc s2 ρ2 σ2 H2 q R2 (st.trans R1 st2), hr⟩
/-- a result that leaves the def -/
def Rv.ret : Rv → Rv
  | .bo l => .fr l
  | r => r
theorem ret_ok (R : Rel Z B0 H0 ρ s σ H) (R1 : Rel Z B0 H0 ρ s1 σ H1) (h : RvR Z B0 ρ H H1 v r) : RvR Z B0 [] H0 H1 v r.ret := by
  have hB : ∀ a, Bad Z B0 [] a → Bad Z B0 ρ a := fun a z => by
    rcases z with z | z | z
    · exact .inl z
    · exact .inr (.inl z)
    · cases z
  cases r with
  | im d => exact Im.bad hB h
  | rw w => exact h
  | fr l =>
    obtain ⟨p, xs, rfl, h1, h2, h3, h4⟩ := h
    exact ⟨p, xs, rfl, R.h0 h1, h2, h3, h4.bad fun a z => z.imp (hB a) id⟩
  | bo l =>
    obtain ⟨a, xs, h1, rfl, h3, h4⟩ := h
    obtain ⟨f1, f2, _⟩ := R.fr a h1
    exact ⟨a, xs, rfl, f1, f2, h3, h4.bad fun b z => z.elim (hB b) fun z => by rw [z]; exact .inr (.inr h1)⟩
def dRet (de : DX Z) : DSt Z := fun De s ρ => de s ρ fun r s1 => De.rt r.ret s1
theorem ds_ret (he : DE Z X e de) : DS Z X (.Return (some e) pos) (dRet de) := by
  refine PS.of (ps_ret he) fun D σ H ⟨B0, H0, ρ, s, De, R, hd, _, _, _, hr⟩ => ?_
  refine ⟨B0, H0, ρ, s, _, R, hd, fun r s1 v H1 q R1 g r1 => ?_⟩
  exact hr _ s1 v H1 q R1.ok (fun b o e n => R1.frm b o e n) (ret_ok R R1 r1)
def dExpr (de : DX Z) : DSt Z := fun De s ρ => de s ρ fun _ s1 => De.nx s1 ρ
theorem ds_expr (he : DE Z X e de) (hs : swapsWith e none pos.line X.env = pure false := by rfl) : DS Z X (.Expr e pos) (dExpr de) := by
  refine PS.of (ps_expr he hs) fun D σ H ⟨B0, H0, ρ, s, De, R, hd, hn, _⟩ => ?_
  exact ⟨B0, H0, ρ, s, _, R, hd, fun r s1 v H1 q R1 g r1 => hn s1 ρ σ H1 q R1 (g.stp R)⟩
end
end Lf
namespace Lf
open PySem PySem.Spec PyProof.Rows L2
section
variable {Z : Zn} {X : Cx} {B0 : Addr → Prop} {H0 H H1 H2 : Hp} {ρ ρ1 ρ2 : List Sl} {s s1 s2 : Z.S} {σ : L2.St} {v u : V} {r x y : Rv} {e a b c : Expr} {es rest : List Expr} {de da db dc : DX Z} {dt du : DT Z} {das : DA Z} {pos p : Pos} {K : PySem.W.Frag} {B : Addr → Prop} {st : Stmt} {sts : List Stmt} {t t' : DSt Z}
/-! ### methods that change a list -/
abbrev Mth := List PyData → List Rv → (PyData → List PyData → Prop) → Prop
def Mt2 (rr : V → List V → Hp → VK → Prop) (m : Mth) : Prop := ∀ (Z : Zn) (B0 : Addr → Prop) (ρ : List Sl) (s s' : Z.S) (H0 : Hp) (σ : L2.St) (Ha H : Hp) (q : Addr) (xs vs : List V) (l : List PyData) (rs : List Rv) (Qm : PyData → List PyData → Prop) (Q : VK), Rel Z B0 H0 ρ s σ Ha → Rel Z B0 H0 ρ s' σ H →
  H q = some (.lst xs) → ImAll (Bad Z B0 ρ) H xs l → RvRs Z B0 ρ Ha H vs rs → m l rs Qm → (∀ d v' l' xs', Qm d l' → Im (Bad Z B0 ρ) H v' d → ImAll (Bad Z B0 ρ) H xs' l' → Q v' (upd H q (.lst xs'))) → rr (.ref q) vs H Q
def mApp : Mth := fun l rs Q => match rs with
  | [r] => ∃ d, r.st = some d ∧ l.length < 1000000 ∧ Q .none (l ++ [d])
  | _ => False
theorem smL {n : Nat} (h : n < 1000000) : n < sizeLine := by rw [sizeLine_eq]; omega
theorem m2_app : Mt2 rAppend mApp := by
  intro Z B0 ρ s s' H0 σ Ha H q xs vs l rs Qm Q Ra R hq im rr m k
  unfold mApp at m
  split at m
  · obtain ⟨d, h1, h2, m⟩ := m
    obtain ⟨v, rfl, r1⟩ := rr.one
    exact ⟨q, xs, v, rfl, rfl, hq, by rw [im.length]; exact smL h2, k _ _ _ _ m .non (im.snoc (RvR.st Ra r1 h1))⟩
  · exact m.elim
def mPop : Mth := fun l rs Q => match rs with
  | [] => ∃ d, l[l.length - 1]? = some d ∧ Q d l.dropLast
  | _ => False
theorem ImAll.dropLast : ∀ {vs : List V} {ds : List PyData}, ImAll B H vs ds → ImAll B H vs.dropLast ds.dropLast
  | _, _, .nil => .nil
  | _, _, .cons _ .nil => .nil
  | _, _, .cons h (.cons h2 q) => .cons h (ImAll.dropLast (.cons h2 q))
theorem m2_pop : Mt2 rPop mPop := by
  intro Z B0 ρ s s' H0 σ Ha H q xs vs l rs Qm Q Ra R hq im rr m k
  unfold mPop at m
  split at m
  · obtain ⟨d, h1, m⟩ := m
    cases rr
    rw [← im.length] at h1
    obtain ⟨w, hw, iw⟩ := im.get h1
    exact ⟨q, xs, w, rfl, rfl, hq, hw, k _ _ _ _ m iw im.dropLast⟩
  · exact m.elim
def mPopAt : Mth := fun l rs Q => match rs with
  | [r] => match r.D with
    | some (.int i) => 0 ≤ i ∧ i < 1000000 ∧ ∃ d, l[i.toNat]? = some d ∧ Q d (l.eraseIdx i.toNat)
    | _ => False
  | _ => False
theorem ImAll.erase : ∀ {vs : List V} {ds : List PyData} (n : Nat), ImAll B H vs ds → ImAll B H (vs.eraseIdx n) (ds.eraseIdx n)
  | _, _, _, .nil => .nil
  | _, _, 0, .cons _ q => q
  | _, _, n + 1, .cons h q => .cons h (q.erase n)
theorem m2_popAt : Mt2 rPopAt mPopAt := by
  intro Z B0 ρ s s' H0 σ Ha H q xs vs l rs Qm Q Ra R hq im rr m k
  unfold mPopAt at m
  split at m
  · obtain ⟨v, rfl, r1⟩ := rr.one
    split at m
    · rename_i i e1
      obtain ⟨h0, hb, d, h1, m⟩ := m
      obtain ⟨w, hw, iw⟩ := im.get h1
      rw [r1.vI e1]
      have hlt : i.toNat < xs.length := (List.getElem?_eq_some_iff.mp hw).1
      exact ⟨q, xs, i, i.toNat, w, rfl, rfl, hq, by omega, by omega, PySem.StrLaws.seqIndex_nonneg h0 (by omega), hw, k _ _ _ _ m iw (im.erase _)⟩
    · exact m.elim
  · exact m.elim
def mIns : Mth := fun l rs Q => match rs with
  | [r, x] => match r.D with
    | some (.int i) => 0 ≤ i ∧ i < 1000000 ∧ ∃ d, x.st = some d ∧ l.length < 1000000 ∧ Q .none (l.take i.toNat ++ [d] ++ l.drop i.toNat)
    | _ => False
  | _ => False
theorem m2_ins : Mt2 (fun x vs H Q => ∃ (l : Addr) (xs : List V) (i : Int) (y : V), x = .ref l ∧ vs = [.int i, y] ∧ H l = some (.lst xs) ∧ xs.length < sizeLine ∧ 0 ≤ i ∧ i < 2 ^ 63 ∧ Q .non (upd H l (.lst (xs.take i.toNat ++ [y] ++ xs.drop i.toNat)))) mIns := by
  intro Z B0 ρ s s' H0 σ Ha H q xs vs l rs Qm Q Ra R hq im rr m k
  unfold mIns at m
  split at m
  · obtain ⟨v, u, rfl, r1, r2⟩ := rr.two
    split at m
    · rename_i i e1
      obtain ⟨h0, hb, d, h1, h2, m⟩ := m
      rw [r1.vI e1]
      exact ⟨q, xs, i, u, rfl, rfl, hq, by rw [im.length]; exact smL h2, h0, by omega, k _ _ _ _ m .non (((im.take _).snoc (RvR.st Ra r2 h1)).append (im.drop _))⟩
    · exact m.elim
  · exact m.elim
def mExt : Mth := fun l rs Q => match rs with
  | [r] => match r.D with
    | some (.list m) => l.length + m.length ≤ 1000000 ∧ Q .none (l ++ m)
    | _ => False
  | _ => False
theorem m2_ext : Mt2 rExtend mExt := by
  intro Z B0 ρ s s' H0 σ Ha H q xs vs l rs Qm Q Ra R hq im rr m k
  unfold mExt at m
  split at m
  · obtain ⟨v, rfl, r1⟩ := rr.one
    split at m
    · rename_i l2 e1
      obtain ⟨b, ys, rfl, h1, h2⟩ := r1.lst e1
      exact ⟨q, b, xs, ys, rfl, rfl, hq, h1, by rw [im.length, h2.length]; exact smB m.1, k _ _ _ _ m.2 .non (im.append h2)⟩
    · exact m.elim
  · exact m.elim
/-- xs.m(..) alone -/
def dMt (i : Nat) (m : Mth) (da : DA Z) : DSt Z := fun De s ρ => match ρ[i]? with
  | some (.ow q l) => da s ρ fun rs s1 => m l rs fun _ l' => De.nx s1 (ρ.set i (.ow q l'))
  | _ => False
/-- x = xs.m(..) -/
def dSetMt (j i : Nat) (m : Mth) (da : DA Z) : DSt Z := fun De s ρ => match ρ[i]? with
  | some (.ow q l) => da s ρ fun rs s1 => m l rs fun d l' => De.nx s1 ((ρ.set i (.ow q l')).set j (.im d))
  | _ => False
theorem lift_mt {i : Nat} {m : Mth} {rr : V → List V → Hp → VK → Prop} (h2 : Mt2 rr m) {D : Ends} {σ : L2.St} {H : Hp} (h : liftS Z (dMt i m das) D σ H) : tDrop (tBM K "list" rr (tVar i) (liftA Z das)) D σ H := by
  obtain ⟨B0, H0, ρ, s, De, R, hd, hn, _⟩ := h
  unfold dMt at hd
  split at hd
  · rename_i q l e1
    obtain ⟨o, s0, rfl, xs, hq, im⟩ := R.sl i _ e1
    refine ⟨.ref q, s0, .inl ⟨rfl, xs, SqL.of hq⟩, B0, H0, ρ, s, _, R, hd, fun rs s1 vs H1 qx R1 g1 r1 => ?_⟩
    have hq1 := g1 q _ hq (R.fr q (own_mem e1)).2.1
    have im1 := im.grow badZ R.ok g1
    refine h2 Z B0 ρ s s1 H0 σ H H1 q xs vs l rs _ _ R R1 hq1 im1 r1 qx fun d v' l' xs' qd hv hx => ?_
    exact hn s1 _ σ _ qd (R1.mutL e1 hx) ((g1.stp R).trans R1 (mut_stp R1 e1))
  · exact hd.elim
theorem lift_setmt {i j : Nat} {m : Mth} {rr : V → List V → Hp → VK → Prop} (h2 : Mt2 rr m) {D : Ends} {σ : L2.St} {H : Hp} (h : liftS Z (dSetMt j i m das) D σ H) : tAsg (tBM K "list" rr (tVar i) (liftA Z das)) (gName j) D σ H := by
  obtain ⟨B0, H0, ρ, s, De, R, hd, hn, _⟩ := h
  unfold dSetMt at hd
  split at hd
  · rename_i q l e1
    obtain ⟨o, s0, rfl, xs, hq, im⟩ := R.sl i _ e1
    refine ⟨.ref q, s0, .inl ⟨rfl, xs, SqL.of hq⟩, B0, H0, ρ, s, _, R, hd, fun rs s1 vs H1 qx R1 g1 r1 => ?_⟩
    have hq1 := g1 q _ hq (R.fr q (own_mem e1)).2.1
    have im1 := im.grow badZ R.ok g1
    refine h2 Z B0 ρ s s1 H0 σ H H1 q xs vs l rs _ _ R R1 hq1 im1 r1 qx fun d v' l' xs' qd hv hx => ?_
    have R2 := R1.mutL (l' := l') e1 hx
    have st := (g1.stp R).trans R1 (mut_stp (xs := xs') (l' := l') R1 e1)
    have mq := own_mem e1
    obtain ⟨_, _, _, xs0, hq0, _⟩ := R1.sl i _ e1
    have iv : Im (Bad Z B0 (ρ.set i (.ow q l'))) (upd H1 q (.lst xs')) v' d := hv.mono (fun b o e n => ⟨by rw [upd_ne (fun z => n (by rw [z]; exact .inr (.inr mq)))]; exact e, fun z => n (by unfold Bad at z ⊢; rw [own_set_same e1] at z; exact z)⟩) (fun b ys e => by rw [upd_ne (fun z => by rw [z, hq0] at e; cases e)]; exact e) (fun b o u e => by rw [upd_ne (fun z => by rw [z, hq0] at e; cases e)]; exact e)
    refine hn s1 _ _ _ qd (R2.put rfl ⟨v', rfl, iv⟩) ⟨st.keep, st.tups, st.frzs, fun a ha => ?_⟩
    rcases mem_own_set ha with z | z
    · exact st.owns a z
    · cases z
  · exact hd.elim
theorem ds_mt {i : Nat} {n m : Str} {id : String} {mt : Mth} {rr : V → List V → Hp → VK → Prop} {np apos cpos : Pos} (h2 : Mt2 rr mt) (slot : Slot "list" m id) (hty : typeOf (.builtin id) = pure (.type "method_descriptor")) (hm : MtR X id rr) (hN : X.N[i]? = some n) (hv : Vis X.env.scope n) (ha : DAs Z X (e :: es) das)
    (hd : (n == ("__debug__" : Str)) = false := by decide) (hcd : (n == ("__classdict__" : Str)) = false := by decide) (hbase : attributeBase (.Name n np) m X.env (eval (.Name n np) X.env) = eval (.Name n np) X.env := by rfl)
    (hfew : ((backTo cpos (starEach (e :: es) X.env)).all (fun x => !x.1) && (backToKw cpos (keywordEach [] X.env)).all (fun x => x.1.isSome) && decide ((e :: es).length + ([] : List Keyword).length + (if ([] : List Keyword).isEmpty then 0 else 1) < 30)) = true := by rfl)
    (hline : (apos.endLine == cpos.line) = true := by rfl) (hs : starEach (e :: es) X.env = (false, eval e X.env) :: starEach es X.env := by rfl) (hplain : (backTo cpos (starEach es X.env)).any (·.1) = false := by rfl)
    (hsw : swapsWith (.Call (.Attribute (.Name n np) m apos) (e :: es) [] cpos) none pos.line X.env = pure false := by rfl) : DS Z X (.Expr (.Call (.Attribute (.Name n np) m apos) (e :: es) [] cpos) pos) (dMt i mt das) :=
  PS.of (ps_expr (pe_bm PySem.F.plainAttrs_list slot hty hm (pe_var hN hv hd hcd) ha hbase hfew hline hs hplain) hsw) fun D σ H h => lift_mt h2 h
theorem ds_setmt0 {i j : Nat} {n n2 m : Str} {id : String} {mt : Mth} {rr : V → List V → Hp → VK → Prop} {np apos cpos pos' : Pos} (h2 : Mt2 rr mt) (slot : Slot "list" m id) (hty : typeOf (.builtin id) = pure (.type "method_descriptor")) (hm : MtR X id rr) (hNd : X.N.Nodup) (hj : X.N[j]? = some n2) (hx : Loc X.env.scope n2) (hN : X.N[i]? = some n) (hv : Vis X.env.scope n)
    (hd : (n == ("__debug__" : Str)) = false := by decide) (hcd : (n == ("__classdict__" : Str)) = false := by decide) (hbase : attributeBase (.Name n np) m X.env (eval (.Name n np) X.env) = eval (.Name n np) X.env := by rfl)
    (hline : (apos.endLine == cpos.line) = true := by rfl) (hsw : swapsWith (.Call (.Attribute (.Name n np) m apos) [] [] cpos) (some (.Name n2 pos')) pos.line X.env = pure false := by rfl) (hf : X.fn n2 = true ∨ X.env.scope.names.lookup n2 = some .local := by first | exact .inl rfl | exact .inr rfl | assumption) :
    DS Z X (.Assign [.Name n2 pos'] (.Call (.Attribute (.Name n np) m apos) [] [] cpos) pos) (dSetMt j i mt dANil) :=
  PS.of (ps_set hNd hj hx (pe_bm0 PySem.F.plainAttrs_list slot hty hm (pe_var hN hv hd hcd) hbase hline) hsw hf) fun D σ H h => by
    obtain ⟨w, h1, h2, h3⟩ := lift_setmt (K := X.K) (rr := rr) h2 h
    obtain ⟨B0, H0, ρ, s, Qd, R, hd, hq⟩ := h3
    exact ⟨w, h1, h2, hq [] s [] H hd R Gr.refl .nil⟩
theorem ds_setmt {i j : Nat} {n n2 m : Str} {id : String} {mt : Mth} {rr : V → List V → Hp → VK → Prop} {np apos cpos pos' : Pos} (h2 : Mt2 rr mt) (slot : Slot "list" m id) (hty : typeOf (.builtin id) = pure (.type "method_descriptor")) (hm : MtR X id rr) (hNd : X.N.Nodup) (hj : X.N[j]? = some n2) (hx : Loc X.env.scope n2) (hN : X.N[i]? = some n) (hv : Vis X.env.scope n) (ha : DAs Z X (e :: es) das)
    (hd : (n == ("__debug__" : Str)) = false := by decide) (hcd : (n == ("__classdict__" : Str)) = false := by decide) (hbase : attributeBase (.Name n np) m X.env (eval (.Name n np) X.env) = eval (.Name n np) X.env := by rfl)
    (hfew : ((backTo cpos (starEach (e :: es) X.env)).all (fun x => !x.1) && (backToKw cpos (keywordEach [] X.env)).all (fun x => x.1.isSome) && decide ((e :: es).length + ([] : List Keyword).length + (if ([] : List Keyword).isEmpty then 0 else 1) < 30)) = true := by rfl)
    (hline : (apos.endLine == cpos.line) = true := by rfl) (hs : starEach (e :: es) X.env = (false, eval e X.env) :: starEach es X.env := by rfl) (hplain : (backTo cpos (starEach es X.env)).any (·.1) = false := by rfl)
    (hsw : swapsWith (.Call (.Attribute (.Name n np) m apos) (e :: es) [] cpos) (some (.Name n2 pos')) pos.line X.env = pure false := by rfl) (hf : X.fn n2 = true ∨ X.env.scope.names.lookup n2 = some .local := by first | exact .inl rfl | exact .inr rfl | assumption) :
    DS Z X (.Assign [.Name n2 pos'] (.Call (.Attribute (.Name n np) m apos) (e :: es) [] cpos) pos) (dSetMt j i mt das) :=
  PS.of (ps_set hNd hj hx (pe_bm PySem.F.plainAttrs_list slot hty hm (pe_var hN hv hd hcd) ha hbase hfew hline hs hplain) hsw hf) fun D σ H h => lift_setmt h2 h
/-! ### xs[i] = e -/
def dSetIx (i : Nat) (dk de : DX Z) : DSt Z := fun De s ρ => match ρ[i]? with
  | some (.ow q l) => de s ρ fun r s1 => dk s1 ρ fun k s2 => match k.D with
    | some (.int n) => ∃ j d, ixN l.length n = some j ∧ r.st = some d ∧ De.nx s2 (ρ.set i (.ow q (l.set j d)))
    | _ => False
  | _ => False
theorem ds_setIx {i : Nat} {n : Str} {k : Expr} {dk : DX Z} {np ps : Pos} (hN : X.N[i]? = some n) (hv : Vis X.env.scope n) (hk : DE Z X k dk) (he : DE Z X e de) (hd : (n == ("__debug__" : Str)) = false := by decide) (hcd : (n == ("__classdict__" : Str)) = false := by decide)
    (hs : swapsWithSole [.Subscript (.Name n np) k ps] e pos.line X.env = pure false := by rfl) (hw : swappedStores [.Subscript (.Name n np) k ps] e X.env = pure none := by rfl) (h1 : (assignEach [.Subscript (.Name n np) k ps] X.env).map (·.2) = [assign (.Subscript (.Name n np) k ps) X.env] := by rfl)
    (ht : ∀ v, assign (.Subscript (.Name n np) k ps) X.env v = (do
      let ov ← holding [v] (eval (.Name n np) X.env)
      let iv ← holding [v, ov] (eval k X.env)
      standAt ps
      holding [v, ov, iv] (setItem ov iv v)
      release [v, ov, iv] []) := by intro _; rfl) : DS Z X (.Assign [.Subscript (.Name n np) k ps] e pos) (dSetIx i dk de) := by
  refine PS.of (ps_asg he (pg_sub (pe_var hN hv hd hcd) hk set_list ht) hs hw h1) fun D σ H ⟨B0, H0, ρ, s, De, R, hd, hn, _⟩ => ?_
  unfold dSetIx at hd
  split at hd
  · rename_i q l e1
    refine ⟨B0, H0, ρ, s, _, R, hd, fun r s1 v H1 qx R1 g1 r1 => ?_⟩
    obtain ⟨o, s0, rfl, xs, hq, im⟩ := R1.sl i _ e1
    refine ⟨.ref q, s0, B0, H0, ρ, s1, _, R1, qx, fun k s2 w H2 qk R2 g2 r2 => ?_⟩
    split at qk
    · rename_i n e2
      obtain ⟨j, d, h3, h4, q5⟩ := qk
      have hq2 := g2 q _ hq (R1.fr q (own_mem e1)).2.1
      have im2 := im.grow badZ R1.ok g2
      have r12 := (r1.grow R1 g2)
      refine ⟨q, xs, n, j, rfl, r2.vI e2, hq2, by rw [im.length]; exact h3, ?_⟩
      exact hn s2 _ σ _ q5 (R2.mutL e1 (im2.set j (RvR.st R r12 h4))) ((g1.stp R).trans R1 ((g2.stp R1).trans R2 (mut_stp R2 e1)))
    · exact qk.elim
  · exact hd.elim
/-! ### a op= e of ints -/
def dAug (i : Nat) (op : Op) (de : DX Z) : DSt Z := fun De s ρ => match ρ[i]? with
  | some (.im d) => de s ρ fun y s1 => op (.im d) y fun r => stR r i ρ fun ρ' => De.nx s1 ρ'
  | _ => False
theorem ds_aug {i : Nat} {n : Str} {op : Operator} {opd : Op} {rr : R2} {pos' : Pos} (h2 : Op2 X.K rr opd) (ho : OpR X (inplaceOp op) rr) (hN : X.N.Nodup) (hi : X.N[i]? = some n) (hx : Loc X.env.scope n) (he : DE Z X e de) (hf : X.fn n = true ∨ X.env.scope.names.lookup n = some .local := by first | exact .inl rfl | exact .inr rfl | assumption) :
    DS Z X (.AugAssign (.Name n pos') op e pos) (dAug i opd de) := by
  refine PS.of (ps_aug (ti := rr) hN hi hx he ho hf) fun D σ H ⟨B0, H0, ρ, s, De, R, hd, hn, _⟩ => ?_
  unfold dAug at hd
  split at hd
  · rename_i d e1
    obtain ⟨o, s0, v, rfl, im⟩ := R.sl i _ e1
    refine ⟨v, s0, B0, H0, ρ, s, _, R, hd, fun y s1 u H1 qx R1 g1 r1 => ?_⟩
    refine h2 Z B0 ρ s1 H0 σ H H H1 v u (.im d) y _ _ R1 (RvR.grow (r := .im d) (H := H) R g1 im) r1 qx fun r' v' H' q sm rr => ?_
    obtain ⟨ρ', q', R', st⟩ := stR_ok R (R1.same sm) (g1.trans (Gr.of sm)) (rr.back R1.ok g1) q
    exact hn s1 ρ' _ H' q' R' st
  · exact hd.elim
theorem ds_iadd {i : Nat} {n : Str} {pos' : Pos} (hN : X.N.Nodup) (hi : X.N[i]? = some n) (hx : Loc X.env.scope n) (he : DE Z X e de) (hf : X.fn n = true ∨ X.env.scope.names.lookup n = some .local := by first | exact .inl rfl | exact .inr rfl | assumption) : DS Z X (.AugAssign (.Name n pos') .Add e pos) (dAug i (opI0 fun i j => .int (i + j)) de) := ds_aug (op2_I0 fun _ _ _ _ => .int _) iop_add hN hi hx he hf
theorem ds_isub {i : Nat} {n : Str} {pos' : Pos} (hN : X.N.Nodup) (hi : X.N[i]? = some n) (hx : Loc X.env.scope n) (he : DE Z X e de) (hf : X.fn n = true ∨ X.env.scope.names.lookup n = some .local := by first | exact .inl rfl | exact .inr rfl | assumption) : DS Z X (.AugAssign (.Name n pos') .Sub e pos) (dAug i opSub de) := ds_aug (op2_I0 fun _ _ _ _ => .int _) iop_sub hN hi hx he hf
theorem iop_mulW : OpR X (inplaceOp .Mult) (rI CMulW fun i j => .int (i * j)) := L2.opI fun _ _ _ _ _ _ _ hc q => imul_int q hc.ok
theorem ds_imul {i : Nat} {n : Str} {pos' : Pos} (hN : X.N.Nodup) (hi : X.N[i]? = some n) (hx : Loc X.env.scope n) (he : DE Z X e de) (hf : X.fn n = true ∨ X.env.scope.names.lookup n = some .local := by first | exact .inl rfl | exact .inr rfl | assumption) : DS Z X (.AugAssign (.Name n pos') .Mult e pos) (dAug i (opI CMulW fun i j => .int (i * j)) de) := ds_aug (op2_I fun _ _ _ _ => .int _) iop_mulW hN hi hx he hf
/-! ### a, b = x, y -/
def dPar (i j : Nat) (da db : DX Z) : DSt Z := fun De s ρ => da s ρ fun x s1 => db s1 ρ fun y s2 => stR x i ρ fun ρ1 => stR y j ρ1 fun ρ2 => De.nx s2 ρ2
/-- one more list that nothing may lead through -/
theorem Rel.more (R : Rel Z B0 H0 ρ s σ H) (ok : Z.ok s1 H1) (g : Gr Z H H1) {q : Addr} (hq : H q = none) (ht : H1 q ≠ none) : Rel Z (fun a => B0 a ∨ a = q) H0 ρ s1 σ H1 := by
  have R1 := R.grow ok g
  have no : q ∉ own ρ := fun z => R.otr z hq
  have hB : ∀ a, Bad Z (fun a => B0 a ∨ a = q) ρ a → Bad Z B0 ρ a ∨ a = q := fun a z => by
    rcases z with z | z | z
    · exact .inl (.inl z)
    · exact z.imp (fun z => .inr (.inl z)) id
    · exact .inl (.inr (.inr z))
  have kl : ∀ b o, H b = some o → ¬ Bad Z B0 ρ b → H1 b = some o ∧ ¬ Bad Z (fun a => B0 a ∨ a = q) ρ b := fun b o e n => ⟨g b o e fun z => n (.inl z), fun z => (hB b z).elim n fun z => by subst z; rw [hq] at e; cases e⟩
  have kt : ∀ b ys, H b = some (.tup ys) → H1 b = some (.tup ys) := fun b ys e => g b _ e (Zn.ntup R.ok e)
  have kf : ∀ b o u, H b = some (.frz o u) → H1 b = some (.frz o u) := fun b o u e => g b _ e (Zn.nfrz R.ok e)
  refine ⟨ok, R.len, fun i x e => ?_, R.nd, fun a ha => ⟨(R.fr a ha).1, (R.fr a ha).2.1, fun z => z.elim (R.fr a ha).2.2 fun z => no (by rw [← z]; exact ha)⟩, fun a ha => ha.elim (R1.btr a) fun z => by rw [z]; exact ht, R1.frm⟩
  obtain ⟨o, h1, h2⟩ := R.sl i x e
  refine ⟨o, h1, ?_⟩
  cases x with
  | no => trivial
  | im d =>
    obtain ⟨v, h3, h4⟩ := h2
    exact ⟨v, h3, h4.mono kl kt kf⟩
  | ow a l =>
    obtain ⟨h3, xs, h4, h5⟩ := h2
    exact ⟨h3, xs, g a _ h4 (R.fr a (own_mem e)).2.1, h5.mono kl kt kf⟩
  | od a l =>
    obtain ⟨h3, xs, h4, h5⟩ := h2
    exact ⟨h3, xs, g a _ h4 (R.fr a (own_memG e rfl)).2.1, h5.mono kl kt kf⟩
  | ot a l =>
    obtain ⟨h3, xs, h4, h5⟩ := h2
    exact ⟨h3, xs, g a _ h4 (R.fr a (own_memG e rfl)).2.1, h5.mono kl kt kf⟩
  | raw v => exact h2
theorem Rel.less {B1 : Addr → Prop} (hB : ∀ a, B1 a → B0 a) (R : Rel Z B0 H0 ρ s σ H) : Rel Z B1 H0 ρ s σ H := by
  have hb : ∀ a, Bad Z B1 ρ a → Bad Z B0 ρ a := fun a z => z.imp id fun z => z.imp (hB a) id
  refine ⟨R.ok, R.len, fun i x e => ?_, R.nd, fun a ha => ⟨(R.fr a ha).1, (R.fr a ha).2.1, fun z => (R.fr a ha).2.2 (hB a z)⟩, fun a ha => R.btr a (hB a ha), R.frm⟩
  obtain ⟨o, h1, h2⟩ := R.sl i x e
  exact ⟨o, h1, h2.bad hb⟩
theorem rv_set {B1 : Addr → Prop} {ρ ρ' : List Sl} {H H' : Hp} {v : V} {r : Rv} (hB : ∀ a, Bad Z B0 ρ' a → Bad Z B1 ρ a) (hb : ∀ l, r ≠ .bo l) (h : RvR Z B1 ρ H H' v r) : RvR Z B0 ρ' H H' v r := by
  cases r with
  | im d => exact Im.bad hB h
  | rw u => exact h
  | fr l =>
    obtain ⟨p, xs, rfl, h1, h2, h3, h4⟩ := h
    exact ⟨p, xs, rfl, h1, h2, h3, h4.bad fun a z => z.imp (hB a) id⟩
  | bo l => exact absurd rfl (hb l)
theorem par_fin {B1 : Addr → Prop} {σ1 : L2.St} {j : Nat} {De : DEnds Z} {D : Ends} (hn : ∀ s' ρ' σ' H', De.nx s' ρ' → Rel Z B0 H0 ρ' s' σ' H' → Stp Z B0 ρ H ρ' H' → D.nx σ' H') (R1 : Rel Z B0 H0 ρ1 s1 σ1 H1) (ok : Z.ok s2 H2) (g2 : Gr Z H1 H2) (hB : ∀ a, Bad Z B0 ρ1 a → Bad Z B1 ρ a) (r2 : RvR Z B1 ρ H1 H2 u y) (st1 : Stp Z B0 ρ H ρ1 H1) (qy : stR y j ρ1 fun ρ2 => De.nx s2 ρ2) : D.nx (σ1.set j (some u)) H2 := by
  have hb : ∀ l, y ≠ .bo l := fun l z => by subst z; exact qy
  obtain ⟨ρ', q', R', st⟩ := stR_ok R1 (R1.grow ok g2) g2 (rv_set hB hb r2) qy
  exact hn s2 ρ' _ H2 q' R' (st1.trans R1 st)
theorem par_ok {i j : Nat} {da db : DX Z} {D : Ends} {σ : L2.St} {H : Hp} (h : liftS Z (dPar i j da db) D σ H) : liftE Z da σ H fun v H1 => liftE Z db σ H1 fun w H2 => D.nx ((σ.set i (some v)).set j (some w)) H2 := by
  obtain ⟨B0, H0, ρ, s, De, R, hd, hn, _⟩ := h
  refine ⟨B0, H0, ρ, s, _, R, hd, fun x s1 v H1 qx R1 g1 r1 => ?_⟩
  have st := g1.stp R
  have own_no : ∀ (z : Sl), ownOf z = none → Stp Z B0 ρ H (ρ.set i z) H1 := fun z hz => ⟨st.keep, st.tups, st.frzs, fun a ha => (mem_own_set ha).elim .inl fun y => by rw [hz] at y; cases y⟩
  cases x with
  | bo l => exact ⟨B0, H0, ρ, s1, _, R1, qx, fun y s2 w H2 qy R2 g2 r2 => qy.elim⟩
  | im d => exact ⟨B0, H0, ρ, s1, _, R1, qx, fun y s2 w H2 qy R2 g2 r2 => par_fin (B1 := B0) hn (R1.put (x := .im d) rfl ⟨v, rfl, r1⟩) R2.ok g2 (fun a z => bad_set rfl z) r2 (own_no _ rfl) qy⟩
  | rw u => exact ⟨B0, H0, ρ, s1, _, R1, qx, fun y s2 w H2 qy R2 g2 r2 => par_fin (B1 := B0) hn (R1.put (x := .raw u) rfl (by cases (show v = u from r1); rfl)) R2.ok g2 (fun a z => bad_set rfl z) r2 (own_no _ rfl) qy⟩
  | fr l =>
    obtain ⟨p, xs, rfl, h1, h2, h3, h4⟩ := r1
    refine ⟨fun a => B0 a ∨ a = p, H0, ρ, s1, _, R.more R1.ok g1 h1 (by rw [h3]; exact fun z => nomatch z), qx, fun y s2 w H2 qy R2 g2 r2 => ?_⟩
    refine par_fin hn (R.putO R1.ok g1 h1 h3 h4) R2.ok g2 (fun a z => ?_) r2 ⟨st.keep, st.tups, st.frzs, fun a ha => (mem_own_set ha).elim .inl fun y => by cases y; exact .inr h1⟩ (qy p)
    rcases z with z | z | z
    · exact .inl z
    · exact .inr (.inl (.inl z))
    · rcases mem_own_set z with z | z
      · exact .inr (.inr z)
      · cases z; exact .inr (.inl (.inr rfl))
theorem ds_par {i j : Nat} {n1 n2 : Str} {px py pt : Pos} {kt k2 pt2} (hc : X.calm = true) (hN : X.N.Nodup) (hi : X.N[i]? = some n1) (hj : X.N[j]? = some n2) (hij : i ≠ j) (hx : X.env.scope.names.lookup n1 = some .local) (hy : X.env.scope.names.lookup n2 = some .local) (ha : DE Z X a da) (hb : DE Z X b db)
    (hw : swappedStores [.Tuple [.Name n1 px, .Name n2 py] kt pt] (.Tuple [a, b] k2 pt2) X.env = pure (some [n1, n2]) := by rfl) (hs : swapsWithSole [.Tuple [.Name n1 px, .Name n2 py] kt pt] (.Tuple [a, b] k2 pt2) pos.line X.env = pure false := by rfl)
    (s1 : starEach [a, b] X.env = (false, eval a X.env) :: starEach [b] X.env := by rfl) (s2 : starEach [b] X.env = (false, eval b X.env) :: starEach [] X.env := by rfl) :
    DS Z X (.Assign [.Tuple [.Name n1 px, .Name n2 py] kt pt] (.Tuple [a, b] k2 pt2) pos) (dPar i j da db) := by
  refine PS.of (ps_par hc hN hi hj hij hx hy (pa_cons ha (pa_cons hb pa_nil s2) s1) hw hs) fun D σ H h => ?_
  obtain ⟨B0, H0, ρ, s, Qd, R, hd, hq⟩ := par_ok h
  refine ⟨B0, H0, ρ, s, Qd, R, hd, fun r s' v H' q R' g rr => ?_⟩
  obtain ⟨B1, H1, ρ1, s1, Q1, R1, hd1, hq1⟩ := hq r s' v H' q R' g rr
  exact ⟨B1, H1, ρ1, s1, Q1, R1, hd1, fun r2 s2 w H2 q2 R2 g2 rr2 => ⟨v, w, rfl, hq1 r2 s2 w H2 q2 R2 g2 rr2⟩⟩
/-! ### while -/
def dWhile (c : DT Z) (tb : DSt Z) : DSt Z := fun De s ρ => ∃ I : Nat → Z.S → List Sl → Prop, (∃ m, I m s ρ) ∧ ∀ m s ρ, I m s ρ → c s ρ fun b s1 => if b = true then tb { De with nx := fun s' ρ' => ∃ m', m' < m ∧ I m' s' ρ', ct := fun s' ρ' => ∃ m', m' < m ∧ I m' s' ρ', bk := De.nx } s1 ρ else De.nx s1 ρ
theorem ds_while {body : List Stmt} (hp : PassesOwn (model X.prog X.w) X.A X.env X.xe) (hc : DTs Z X c dt) (hb : DSs Z X body t) : DS Z X (.While c body [] pos) (dWhile dt t) := by
  refine PS.of (ps_while hp hc hb) fun D σ H ⟨B0, H0, ρ, s, De, R, hd, hn, hbk, hct, hr⟩ => ?_
  obtain ⟨I, ⟨m, hm⟩, turn⟩ := hd
  refine ⟨fun m σ' H' => ∃ s' ρ', I m s' ρ' ∧ Rel Z B0 H0 ρ' s' σ' H' ∧ Stp Z B0 ρ H ρ' H', ⟨m, s, ρ, hm, R, Stp.refl⟩, ?_⟩
  rintro m σ1 H1 ⟨s1, ρ1, i1, R1, st1⟩
  refine ⟨B0, H0, ρ1, s1, _, R1, turn m s1 ρ1 i1, fun b s2 H2 q R2 g => ?_⟩
  have st2 := st1.trans R1 (g.stp R1)
  cases b with
  | false => exact hn s2 ρ1 σ1 H2 q R2 st2
  | true =>
    refine ⟨fun σ' H' => ∃ m' s' ρ', m' < m ∧ I m' s' ρ' ∧ Rel Z B0 H0 ρ' s' σ' H' ∧ Stp Z B0 ρ H ρ' H', ?_, ?_⟩
    · rintro σ' H' ⟨m', s', ρ', hlt, i', R', st'⟩
      exact ⟨m', hlt, s', ρ', i', R', st'⟩
    · exact ⟨B0, H0, ρ1, s2, _, R2, q, fun s3 ρ3 σ3 H3 ⟨m', hlt, i'⟩ R3 st3 => ⟨m', s3, ρ3, hlt, i', R3, st2.trans R2 st3⟩, fun s3 ρ3 σ3 H3 q3 R3 st3 => hn s3 ρ3 σ3 H3 q3 R3 (st2.trans R2 st3), fun s3 ρ3 σ3 H3 ⟨m', hlt, i'⟩ R3 st3 => ⟨m', s3, ρ3, hlt, i', R3, st2.trans R2 st3⟩, hr⟩
/-! ### targets -/
abbrev DG (Z : Zn) := PyData → List Sl → (List Sl → Prop) → Prop
/-- an item that is taken apart at once: of a tuple nothing is known but its items -/
inductive Iw (B : Addr → Prop) (H : Hp) : V → PyData → Prop
  | im {v : V} {d : PyData} : Im B H v d → Iw B H v d
  | tup {a : Addr} {xs : List V} {ds : List PyData} : H a = some (.tup xs) → ImAll B H xs ds → Iw B H (.ref a) (.tuple ds)
def Ig (tu : Bool) (B : Addr → Prop) (H : Hp) (v : V) (d : PyData) : Prop := match tu with
  | true => Iw B H v d
  | false => Im B H v d
def isTup : Expr → Bool
  | .Tuple .. => true
  | _ => false
theorem Im.ig {tu : Bool} {B : Addr → Prop} {H : Hp} {v : V} {d : PyData} (h : Im B H v d) : Ig tu B H v d := by
  cases tu
  · exact h
  · exact .im h
def liftG (Z : Zn) (tu : Bool) (d : DG Z) : TG := fun v σ H Q => ∃ (B0 : Addr → Prop) (H0 : Hp) (ρ : List Sl) (s : Z.S) (x : PyData) (Qd : List Sl → Prop), Rel Z B0 H0 ρ s σ H ∧ Ig tu (Bad Z B0 ρ) H v x ∧ d x ρ Qd ∧
  ∀ ρ' σ', Qd ρ' → Rel Z B0 H0 ρ' s σ' H → (∀ a ∈ own ρ', a ∈ own ρ) → Q σ' H
abbrev DGs (Z : Zn) (X : Cx) (tg : Expr) (d : DG Z) : Prop := PG X tg (liftG Z (isTup tg) d)
theorem PG.of {tg : Expr} {t t' : TG} (h : PG X tg t) (w : ∀ v σ H Q, t' v σ H Q → t v σ H Q) : PG X tg t' := ⟨fun pins s σ H v u Q I r q => h.run pins s σ H v u Q I r (w v σ H Q q)⟩
def gN (i : Nat) : DG Z := fun x ρ Q => Q (ρ.set i (.im x))
theorem dg_name {i : Nat} {n : Str} (hN : X.N.Nodup) (hi : X.N[i]? = some n) (hx : Loc X.env.scope n) (hf : X.fn n = true ∨ X.env.scope.names.lookup n = some .local := by first | exact .inl rfl | exact .inr rfl | assumption) : DGs Z X (.Name n pos) (gN i) := by
  refine PG.of (pg_name hN hi hx hf) fun v σ H Q ⟨B0, H0, ρ, s, x, Qd, R, im, hd, hq⟩ => ?_
  refine hq _ _ hd (R.put rfl ⟨v, rfl, im⟩) fun a ha => (mem_own_set ha).elim id fun y => by cases y
/-- names only -/
def gNs : List Nat → List PyData → List Sl → (List Sl → Prop) → Prop
  | [], [], ρ, Q => Q ρ
  | i :: is, d :: ds, ρ, Q => gNs is ds (ρ.set i (.im d)) Q
  | _, _, _, _ => False
def gT (is : List Nat) : DG Z := fun x ρ Q => match x with
  | .tuple ds => gNs is ds ρ Q
  | _ => False
inductive Nms (X : Cx) : List Expr → List Nat → Prop
  | nil : Nms X [] []
  | cons {n : Str} {i : Nat} {pos : Pos} {es : List Expr} {is : List Nat} (hi : X.N[i]? = some n) (hx : Loc X.env.scope n) (hf : X.fn n = true ∨ X.env.scope.names.lookup n = some .local) (hs : (assignEach (.Name n pos :: es) X.env).map (·.2) = assign (.Name n pos) X.env :: (assignEach es X.env).map (·.2)) (h : Nms X es is) : Nms X (.Name n pos :: es) (i :: is)
def tNms : List Nat → TGs
  | [] => gNil
  | i :: is => gCons (gName i) (tNms is)
theorem Nms.pgs (hN : X.N.Nodup) : ∀ {es : List Expr} {is : List Nat}, Nms X es is → PGs X es (tNms is)
  | _, _, .nil => pgs_nil
  | _, _, .cons hi hx hf hs h => pgs_cons (pg_name hN hi hx hf) (h.pgs hN) hs
theorem nms_ok : ∀ {is : List Nat} {vs : List V} {ds : List PyData} {ρ : List Sl} {σ : L2.St} {Qd : List Sl → Prop} {Q : L2.St → Hp → Prop}, Rel Z B0 H0 ρ s σ H → ImAll (Bad Z B0 ρ) H vs ds → gNs is ds ρ Qd → (∀ ρ' σ', Qd ρ' → Rel Z B0 H0 ρ' s σ' H → (∀ a ∈ own ρ', a ∈ own ρ) → Q σ' H) → tNms is vs σ H Q
  | [], _, _, ρ, σ, Qd, Q, R, .nil, hd, hq => ⟨rfl, hq ρ σ hd R fun _ h => h⟩
  | i :: is, _, _, ρ, σ, Qd, Q, R, .cons (v := v) (d := d) h t, hd, hq => by
    refine ⟨_, _, rfl, ?_⟩
    have o1 : ∀ a ∈ own (ρ.set i (.im d)), a ∈ own ρ := fun a ha => (mem_own_set ha).elim id fun y => by cases y
    exact nms_ok (R.put (i := i) (x := .im d) rfl ⟨v, rfl, h⟩) (t.bad fun a z => bad_set rfl z) hd fun ρ' σ' q R' ho => hq ρ' σ' q R' fun a ha => o1 a (ho a ha)
  | [], _, _, _, _, _, _, _, .cons _ _, hd, _ => hd.elim
  | _ :: _, _, _, _, _, _, _, _, .nil, hd, _ => hd.elim
theorem gNs_len : ∀ {is : List Nat} {ds : List PyData} {ρ : List Sl} {Qd : List Sl → Prop}, gNs is ds ρ Qd → ds.length = is.length
  | [], [], _, _, _ => rfl
  | _ :: _, _ :: _, _, _, h => congrArg (· + 1) (gNs_len h)
  | [], _ :: _, _, _, h => h.elim
  | _ :: _, [], _, _, h => h.elim
theorem dg_tup {es : List Expr} {is : List Nat} {k : Nat} (hc : X.calm = true) (hN : X.N.Nodup) (h : Nms X es is) (hn : (assignEach es X.env).length = is.length := by rfl) (hst : (assignEach es X.env).findIdx? (·.1) = none := by rfl) : DGs Z X (.Tuple es k pos) (gT is) := by
  refine PG.of (pg_tup (n := is.length) hc (h.pgs hN) hn hst) fun v σ H Q ⟨B0, H0, ρ, s, x, Qd, R, im, hd, hq⟩ => ?_
  unfold gT at hd
  split at hd
  · rename_i ds
    cases im with
    | tup e q => exact ⟨_, _, rfl, SqT.of e, by rw [q.length]; exact gNs_len hd, nms_ok R q hd hq⟩
    | im im => cases im with
      | ftp e _ q => exact ⟨_, _, rfl, .inl (.inr ⟨_, e⟩), by rw [q.length]; exact gNs_len hd, nms_ok R q hd hq⟩
  · exact hd.elim
/-- a, b = e -/
def dAsg (de : DX Z) (g : DG Z) : DSt Z := fun De s ρ => de s ρ fun r s1 => match r.st with
  | some d => g d ρ fun ρ' => De.nx s1 ρ'
  | _ => False
theorem ds_asg {tg : Expr} {g : DG Z} (he : DE Z X e de) (hg : DGs Z X tg g) (hs : swapsWithSole [tg] e pos.line X.env = pure false := by rfl) (hw : swappedStores [tg] e X.env = pure none := by rfl) (h1 : (assignEach [tg] X.env).map (·.2) = [assign tg X.env] := by rfl) : DS Z X (.Assign [tg] e pos) (dAsg de g) := by
  refine PS.of (ps_asg he hg hs hw h1) fun D σ H ⟨B0, H0, ρ, s, De, R, hd, hn, _⟩ => ?_
  refine ⟨B0, H0, ρ, s, _, R, hd, fun r s1 v H1 qx R1 g1 r1 => ?_⟩
  split at qx
  · rename_i d e1
    refine ⟨B0, H0, ρ, s1, d, _, R1, (RvR.st R r1 e1).ig, qx, fun ρ' σ' q R' ho => ?_⟩
    have st := g1.stp R
    exact hn s1 ρ' σ' H1 q R' ⟨st.keep, st.tups, st.frzs, fun a ha => .inl (ho a ha)⟩
  · exact qx.elim
end
end Lf
namespace Lf
open PySem PySem.Spec PyProof.Rows L2
/-! ### what is walked -/
/-- as long as what P names stands, J yields these -/
def ItOk (tu : Bool) (P Bd : Addr → Prop) (J : It) (items : List PyData) (H : Hp) : Prop := ∀ (Hk : Hp) (Bk : Addr → Prop), (∀ b o, H b = some o → P b → Hk b = some o) → (∀ b o, H b = some o → ¬ Bd b → Hk b = some o ∧ ¬ Bk b) →
  (∀ b xs, H b = some (.tup xs) → Hk b = some (.tup xs)) → (∀ b o u, H b = some (.frz o u) → Hk b = some (.frz o u)) →
  (∀ i, i < items.length → J.go i Hk) ∧ (∀ i d x H', items[i]? = some d → J.yld i Hk x H' → Same Hk H' ∧ Ig tu Bk H' x d) ∧ J.stop items.length Hk
abbrev DI (Z : Zn) := Z.S → List Sl → (List PyData → Bool → Z.S → Prop) → Prop
def keepP (Z : Zn) (B0 : Addr → Prop) (ρ : List Sl) (fz : Bool) : Addr → Prop := fun b => match fz with
  | true => ¬ Bad Z B0 ρ b
  | false => ¬ Z.at_ b
def liftI (Z : Zn) (tu : Bool) (d : DI Z) : TI := fun σ H R => ∃ (B0 : Addr → Prop) (H0 : Hp) (ρ : List Sl) (s : Z.S) (Qd : List PyData → Bool → Z.S → Prop), Rel Z B0 H0 ρ s σ H ∧ d s ρ Qd ∧
  ∀ items fz s' J H', Qd items fz s' → Rel Z B0 H0 ρ s' σ H' → Gr Z H H' → ItOk tu (keepP Z B0 ρ fz) (Bad Z B0 ρ) J items H' → R J H'
abbrev DIs (Z : Zn) (X : Cx) (tg it : Expr) (d : DI Z) : Prop := PI X tg it (liftI Z (isTup tg) d)
section
variable {Z : Zn} {X : Cx} {B0 : Addr → Prop} {H0 H H1 H2 : Hp} {ρ ρ1 ρ2 : List Sl} {s s1 s2 : Z.S} {σ : L2.St} {v u : V} {r x y : Rv} {e a b c tg : Expr} {es rest : List Expr} {de da db dc : DX Z} {dt du : DT Z} {das : DA Z} {pos p : Pos} {K : PySem.W.Frag} {B : Addr → Prop} {st : Stmt} {sts : List Stmt} {t t' : DSt Z}
theorem PI.of {it : Expr} {t t' : TI} (h : PI X tg it t) (w : ∀ σ H R, t' σ H R → t σ H R) : PI X tg it t' := ⟨fun pins s σ H R I q => h.run pins s σ H R I (w σ H R q)⟩
/-- a list or a tuple -/
theorem pi_seq {l : Expr} {tl : TE} (hl : PE X l tl) : PI X tg l (fun σ H R => tl σ H fun x H1 => ∃ a, x = .ref a ∧ (((∃ xs, SqL X.K H1 a xs) ∧ R (Itl X.K a) H1) ∨ ((∃ xs, SqT X.K H1 a xs) ∧ R (Itt X.K a) H1))) := by
  refine ⟨fun pins s σ H R I h => ?_⟩
  refine thn (hl.run pins s σ H _ I h) fun v s1 ⟨x, H1, I1, r1, q1⟩ => ?_
  obtain ⟨a, e, q1⟩ := q1
  subst e
  cases r1
  rcases q1 with ⟨⟨xs, hq⟩, q⟩ | ⟨⟨xs, hq⟩, q⟩
  · obtain ⟨its, rv, p, hz⟩ := I1.list hq
    refine wpAny_pyIter_list p.isList ?_
    refine ⟨s1.heap.objs.size, [s1.heap.objs.size], _, _, H1, rfl, I1.kept (t' := s1.toks) fun b o e => Heap.get?_push_of_some _ e, turn_list a _, ⟨_, Heap.get?_push_size _ rfl, rfl, rfl⟩, fun b hb => ?_, q⟩
    have e : b = s1.heap.objs.size := by simpa using hb
    subst e
    exact I1.fpOk (Nat.le_refl _) (I1.hok.fresh (Nat.le_refl _))
  · obtain ⟨its, rv, p, hz⟩ := I1.tuple hq
    refine wpAny_pyIter_tuple (show s1.heap.IsTuple a its.toArray from p) ?_
    refine ⟨s1.heap.objs.size, [s1.heap.objs.size], _, _, H1, rfl, I1.kept (t' := s1.toks) fun b o e => Heap.get?_push_of_some _ e, turn_tuple a _, ⟨_, Heap.get?_push_size _ rfl, rfl, rfl⟩, fun b hb => ?_, q⟩
    have e : b = s1.heap.objs.size := by simpa using hb
    subst e
    exact I1.fpOk (Nat.le_refl _) (I1.hok.fresh (Nat.le_refl _))
theorem it_lst {tu : Bool} {P Bd : Addr → Prop} {a : Addr} {xs : List V} {l : List PyData} (h : H a = some (.lst xs)) (ha : P a) (im : ImAll Bd H xs l) : ItOk tu P Bd (Itl K a) l H := by
  intro Hk Bk k1 k2 k3 k4
  have h1 := k1 a _ h ha
  have im1 : ImAll Bk Hk xs l := im.mono k2 k3 k4
  refine ⟨fun i hi => ?_, fun i d x H' hd hy => ?_, ⟨xs, SqL.of h1, by rw [im.length]; exact Nat.le_refl _⟩⟩
  · have hx : i < xs.length := by rw [im.length]; exact hi
    exact ⟨xs, xs[i], SqL.of h1, List.getElem?_eq_getElem hx⟩
  · obtain ⟨rfl, hy⟩ := hy
    have hx := hy xs (SqL.of h1)
    obtain ⟨d', hd', iv⟩ := im1.gets hx
    rw [hd] at hd'
    cases hd'
    exact ⟨Same.refl _, iv.ig⟩
theorem sqT_keep {Hk : Hp} {a : Addr} {xs : List V} (k3 : ∀ b xs, H b = some (.tup xs) → Hk b = some (.tup xs)) (k4 : ∀ b o u, H b = some (.frz o u) → Hk b = some (.frz o u)) (h : SqT K H a xs) : SqT K Hk a xs := by
  rcases h with (h | ⟨o, h⟩) | h
  · exact .inl (.inl (k3 _ _ h))
  · exact .inl (.inr ⟨o, k4 _ _ _ h⟩)
  · exact .inr h
theorem it_tupD {tu : Bool} {P Bd : Addr → Prop} {a : Addr} {xs : List V} {l : List PyData} (h : H a = some (.tup xs) ∨ ∃ o, H a = some (.frz o (.tup xs))) (im : ImAll Bd H xs l) : ItOk tu P Bd (Itt K a) l H := by
  intro Hk Bk k1 k2 k3 k4
  have h1 : SqT K Hk a xs := by
    rcases h with h | ⟨o, h⟩
    · exact SqT.of (k3 _ _ h)
    · exact .inl (.inr ⟨o, k4 _ _ _ h⟩)
  have im1 : ImAll Bk Hk xs l := im.mono k2 k3 k4
  refine ⟨fun i hi => ?_, fun i d x H' hd hy => ?_, ⟨xs, h1, by rw [im.length]; exact Nat.le_refl _⟩⟩
  · have hx : i < xs.length := by rw [im.length]; exact hi
    exact ⟨xs, xs[i], h1, List.getElem?_eq_getElem hx⟩
  · obtain ⟨rfl, hy⟩ := hy
    have hx := hy xs h1
    obtain ⟨d', hd', iv⟩ := im1.gets hx
    rw [hd] at hd'
    cases hd'
    exact ⟨Same.refl _, iv.ig⟩
theorem RvR.tupH {l : List PyData} (h : RvR Z B0 ρ H H1 v r) (e : r.D = some (.tuple l)) : ∃ a xs, v = .ref a ∧ (H1 a = some (.tup xs) ∨ ∃ o, H1 a = some (.frz o (.tup xs))) ∧ ImAll (Bad Z B0 ρ) H1 xs l := by
  cases r with
  | im d' =>
    cases e
    cases h with
    | ftp h1 _ h2 => exact ⟨_, _, rfl, .inr ⟨_, h1⟩, h2⟩
  | bo l => cases e
  | fr l => cases e
  | rw u => cases e
/-- for x in e -/
def dISeq (de : DX Z) : DI Z := fun s ρ Q => de s ρ fun r s1 => match r with
  | .im (.list l) => Q l true s1
  | .im (.tuple l) => Q l true s1
  | .fr l => Q l true s1
  | .bo l => Q l false s1
  | _ => False
theorem di_seq (he : DE Z X e de) : DIs Z X tg e (dISeq de) := by
  refine PI.of (pi_seq he) fun σ H R ⟨B0, H0, ρ, s, Qd, R0, hd, hq⟩ => ?_
  refine ⟨B0, H0, ρ, s, _, R0, hd, fun r s1 v H1 qx R1 g1 r1 => ?_⟩
  have imp : ∀ {l : List PyData} {a : Addr} {xs : List V}, H1 a = some (.lst xs) → ¬ Bad Z B0 ρ a → ImAll (Bad Z B0 ρ) H1 xs l → ItOk (isTup tg) (keepP Z B0 ρ true) (Bad Z B0 ρ) (Itl X.K a) l H1 := fun h n im => it_lst h n im
  split at qx
  · rename_i l
    cases r1 with
    | lst h1 n h2 => exact ⟨_, rfl, .inl ⟨⟨_, SqL.of h1⟩, hq _ _ s1 _ H1 qx R1 g1 (imp h1 n h2)⟩⟩
  · rename_i l
    obtain ⟨a, xs, rfl, h1, h2⟩ := RvR.tupH (r := .im (.tuple l)) r1 rfl
    refine ⟨a, rfl, .inr ⟨⟨xs, ?_⟩, hq _ _ s1 _ H1 qx R1 g1 (it_tupD h1 h2)⟩⟩
    rcases h1 with h1 | ⟨o, h1⟩
    · exact SqT.of h1
    · exact .inl (.inr ⟨o, h1⟩)
  · rename_i l
    obtain ⟨p, xs, rfl, h1, h2, h3, h4⟩ := r1
    exact ⟨p, rfl, .inl ⟨⟨xs, SqL.of h3⟩, hq _ _ s1 _ H1 qx R1 g1 (imp h3 (fun z => R0.bad z h1) (h4.bad fun a z => .inl z))⟩⟩
  · rename_i l
    obtain ⟨a, xs, h1, rfl, h3, h4⟩ := r1
    exact ⟨a, rfl, .inl ⟨⟨xs, SqL.of h3⟩, hq _ _ s1 _ H1 qx R1 g1 (it_lst h3 (R1.fr a h1).2.1 h4)⟩⟩
  · exact qx.elim
def rngD (lo : Int) (n : Nat) : List PyData := (List.range n).map fun k => .int (lo + (k : Nat))
theorem rngD_get {lo : Int} {n i : Nat} {d : PyData} (h : (rngD lo n)[i]? = some d) : i < n ∧ d = .int (lo + (i : Nat)) := by
  unfold rngD at h
  rw [List.getElem?_map] at h
  rcases Nat.lt_or_ge i n with z | z
  · rw [List.getElem?_range z] at h
    exact ⟨z, (Option.some.inj h).symm⟩
  · rw [List.getElem?_eq_none (by rw [List.length_range]; exact z)] at h
    cases h
theorem rngD_len {lo : Int} {n : Nat} : (rngD lo n).length = n := by unfold rngD; rw [List.length_map, List.length_range]
theorem it_rng {tu : Bool} {P Bd : Addr → Prop} {lo : Int} {n : Nat} : ItOk tu P Bd (Itr lo n) (rngD lo n) H := by
  intro Hk Bk _ _ _ _
  refine ⟨fun i hi => by rw [rngD_len] at hi; exact hi, fun i d x H' hd hy => ?_, by rw [rngD_len]; exact Nat.le_refl n⟩
  obtain ⟨_, rfl⟩ := rngD_get hd
  obtain ⟨rfl, rfl⟩ := hy
  exact ⟨Same.refl _, (Im.int _).ig⟩
def dIR1 (da : DA Z) : DI Z := fun s ρ Q => da s ρ fun rs s1 => match rs with
  | [x] => match x.D with
    | some (.int j) => -1000000000000 ≤ j ∧ j < 1000000000000 ∧ Q (rngD 0 j.toNat) true s1
    | _ => False
  | _ => False
theorem di_r1 (hg : Gl X "range") (hm : X.mg "range" = none) (ha : DAs Z X [a] das) (hs : starEach [a] X.env = [(false, eval a X.env)] := by rfl) : DIs Z X tg (.Call (.Name "range" p) [a] [] pos) (dIR1 das) := by
  refine PI.of (pi_range1 hg hm ha hs) fun σ H R ⟨B0, H0, ρ, s, Qd, R0, hd, hq⟩ => ?_
  refine ⟨B0, H0, ρ, s, _, R0, hd, fun rs s1 vs H1 qx R1 g1 r1 => ?_⟩
  split at qx
  · obtain ⟨w, rfl, r2⟩ := r1.one
    split at qx
    · rename_i j e1
      exact ⟨j, by rw [r2.vI e1], by omega, by omega, hq _ _ s1 _ H1 qx.2.2 R1 g1 it_rng⟩
    · exact qx.elim
  · exact qx.elim
def dIR2 (da : DA Z) : DI Z := fun s ρ Q => da s ρ fun rs s1 => match rs with
  | [x, y] => match x.D, y.D with
    | some (.int i), some (.int j) => (-1000000000000 ≤ i ∧ i < 1000000000000) ∧ (-1000000000000 ≤ j ∧ j < 1000000000000) ∧ Q (rngD i (j - i).toNat) true s1
    | _, _ => False
  | _ => False
theorem di_r2 (hg : Gl X "range") (hm : X.mg "range" = none) (ha : DAs Z X [a, b] das) (hs : starEach [a, b] X.env = [(false, eval a X.env), (false, eval b X.env)] := by rfl) (hs2 : starEach [b] X.env = [(false, eval b X.env)] := by rfl) : DIs Z X tg (.Call (.Name "range" p) [a, b] [] pos) (dIR2 das) := by
  refine PI.of (pi_range2 hg hm ha hs hs2) fun σ H R ⟨B0, H0, ρ, s, Qd, R0, hd, hq⟩ => ?_
  refine ⟨B0, H0, ρ, s, _, R0, hd, fun rs s1 vs H1 qx R1 g1 r1 => ?_⟩
  split at qx
  · obtain ⟨w, w2, rfl, r2, r3⟩ := r1.two
    split at qx
    · rename_i i j e1 e2
      exact ⟨i, j, by rw [r2.vI e1, r3.vI e2], ⟨by omega, by omega, by omega, by omega⟩, hq _ _ s1 _ H1 qx.2.2 R1 g1 it_rng⟩
    · exact qx.elim
  · exact qx.elim
/-- enumerate -/
def enumD (l : List PyData) : List PyData := (List.range l.length).map fun k => .tuple [.int (k : Nat), l.getD k .none]
theorem enumD_get {l : List PyData} {i : Nat} {d : PyData} (h : (enumD l)[i]? = some d) : ∃ z, l[i]? = some z ∧ d = .tuple [.int (i : Nat), z] := by
  unfold enumD at h
  rw [List.getElem?_map] at h
  rcases Nat.lt_or_ge i l.length with z | z
  · rw [List.getElem?_range z] at h
    refine ⟨l[i], List.getElem?_eq_getElem z, ?_⟩
    have : d = .tuple [.int (i : Nat), l.getD i .none] := (Option.some.inj h).symm
    rw [List.getD_eq_getElem?_getD, List.getElem?_eq_getElem z] at this
    exact this
  · rw [List.getElem?_eq_none (by rw [List.length_range]; exact z)] at h
    cases h
theorem enumD_len {l : List PyData} : (enumD l).length = l.length := by unfold enumD; rw [List.length_map, List.length_range]
theorem it_enumT {P Bd : Addr → Prop} {a : Addr} {xs : List V} {l : List PyData} (h : H a = some (.tup xs) ∨ ∃ o, H a = some (.frz o (.tup xs))) (im : ImAll Bd H xs l) : ItOk true P Bd (ItT K a) (enumD l) H := by
  intro Hk Bk k1 k2 k3 k4
  have h1 : SqT K Hk a xs := by
    rcases h with h | ⟨o, h⟩
    · exact SqT.of (k3 _ _ h)
    · exact .inl (.inr ⟨o, k4 _ _ _ h⟩)
  have im1 : ImAll Bk Hk xs l := im.mono k2 k3 k4
  refine ⟨fun i hi => ?_, fun i d x H' hd hy => ?_, ⟨xs, h1, by rw [enumD_len, im.length]⟩⟩
  · have hx : i < xs.length := by rw [im.length]; rw [enumD_len] at hi; exact hi
    exact ⟨xs, xs[i], h1, List.getElem?_eq_getElem hx⟩
  · obtain ⟨T, w, rfl, hT, rfl, hy⟩ := hy
    obtain ⟨z, hz, rfl⟩ := enumD_get hd
    obtain ⟨d', hd', iv⟩ := im1.gets (hy xs h1)
    rw [hz] at hd'
    cases hd'
    exact ⟨same_new hT, Iw.tup upd_same (.cons (.int _) (.cons (iv.same (same_new hT)) .nil))⟩
def dIEn (da : DA Z) : DI Z := fun s ρ Q => da s ρ fun rs s1 => match rs with
  | [x] => match x.D with
    | some (.tuple l) => Q (enumD l) true s1
    | _ => False
  | _ => False
theorem di_enum {elts : List Expr} {kk : Nat} {tpos : Pos} (hg : Gl X "enumerate") (hm : X.mg "enumerate" = none) (ha : DAs Z X [e] das) (hs : starEach [e] X.env = [(false, eval e X.env)] := by rfl) : DIs Z X (.Tuple elts kk tpos) (.Call (.Name "enumerate" p) [e] [] pos) (dIEn das) := by
  refine PI.of (pi_enumT hg hm ha hs) fun σ H R ⟨B0, H0, ρ, s, Qd, R0, hd, hq⟩ => ?_
  refine ⟨B0, H0, ρ, s, _, R0, hd, fun rs s1 vs H1 qx R1 g1 r1 => ?_⟩
  split at qx
  · obtain ⟨w, rfl, r2⟩ := r1.one
    split at qx
    · rename_i l e1
      obtain ⟨a, xs, rfl, h1, h2⟩ := RvR.tupH r2 e1
      refine ⟨a, xs, rfl, ?_, hq _ _ s1 _ H1 qx R1 g1 (it_enumT h1 h2)⟩
      rcases h1 with h1 | ⟨o, h1⟩
      · exact SqT.of h1
      · exact .inl (.inr ⟨o, h1⟩)
    · exact qx.elim
  · exact qx.elim
/-! ### for -/
def dFor (wi : DI Z) (g : DG Z) (tb : DSt Z) : DSt Z := fun De s ρ => wi s ρ fun items fz s1 => fz = true ∧ ∃ I : Nat → Z.S → List Sl → Prop, I 0 s1 ρ ∧
  (∀ k d s ρ, items[k]? = some d → I k s ρ → g d ρ fun ρ' => tb { De with nx := I (k + 1), ct := I (k + 1), bk := De.nx } s ρ') ∧ ∀ s ρ, I items.length s ρ → De.nx s ρ
theorem ds_for {iter : Expr} {body : List Stmt} {wi : DI Z} {g : DG Z} (hp : PassesOwn (model X.prog X.w) X.A X.env X.xe) (hc : X.calm = true) (hi : DIs Z X tg iter wi) (hg : DGs Z X tg g) (hb : DSs Z X body t) (hs : ∀ x, foldedSetIterable iter X.env x = pure x := by intro _; rfl) : DS Z X (.For tg iter body [] pos) (dFor wi g t) := by
  refine PS.of (ps_for hp hc hi hg hb hs) fun D σ H ⟨B0, H0, ρ, s, De, R, hd, hn, hbk, hct, hr⟩ => ?_
  refine ⟨B0, H0, ρ, s, _, R, hd, fun items fz s1 J H1 q R1 g1 ok => ?_⟩
  obtain ⟨rfl, I, i0, turn, fin⟩ := q
  have st1 := g1.stp R
  refine ⟨fun i m σ' H' => m = items.length - i ∧ i ≤ items.length ∧ ∃ s' ρ', I i s' ρ' ∧ Rel Z B0 H0 ρ' s' σ' H' ∧ Stp Z B0 ρ H1 ρ' H', ⟨items.length, by simp, Nat.zero_le _, s1, ρ, i0, R1, Stp.refl⟩, ?_⟩
  rintro i m σ2 H2 ⟨rfl, hi, s2, ρ2, i2, R2, st2⟩
  have k2 : ∀ b o, H1 b = some o → ¬ Bad Z B0 ρ b → H2 b = some o ∧ ¬ Bad Z B0 ρ2 b := fun b o e n => ⟨st2.keep b o e n, fun z => by
    rcases z with z | z | z
    · exact n (.inl z)
    · exact n (.inr (.inl z))
    · rcases st2.owns b z with z | z
      · exact n (.inr (.inr z))
      · rw [z] at e; cases e⟩
  obtain ⟨go, yl, stop⟩ := ok H2 (Bad Z B0 ρ2) (fun b o e n => st2.keep b o e n) k2 st2.tups st2.frzs
  by_cases hlt : i < items.length
  · refine .inr ⟨go i hlt, fun σ' H' => ∃ s' ρ', I (i + 1) s' ρ' ∧ Rel Z B0 H0 ρ' s' σ' H' ∧ Stp Z B0 ρ H1 ρ' H', fun σ' H' h => ⟨items.length - (i + 1), by omega, rfl, hlt, h⟩, fun x H' hy => ?_⟩
    obtain ⟨sm, im⟩ := yl i items[i] x H' (List.getElem?_eq_getElem hlt) hy
    have R3 := R2.same sm
    have st3 := st2.trans R2 (Gr.stp (H1 := H') R2 (Gr.of sm))
    refine ⟨B0, H0, ρ2, s2, items[i], _, R3, im, turn i _ s2 ρ2 (List.getElem?_eq_getElem hlt) i2, fun ρ3 σ3 q3 R4 ho => ?_⟩
    have st4 : Stp Z B0 ρ H1 ρ3 H' := ⟨st3.keep, st3.tups, st3.frzs, fun a ha => st3.owns a (ho a ha)⟩
    exact ⟨B0, H0, ρ3, s2, _, R4, q3, fun s5 ρ5 σ5 H5 q5 R5 st5 => ⟨s5, ρ5, q5, R5, st4.trans R4 st5⟩, fun s5 ρ5 σ5 H5 q5 R5 st5 => hn s5 ρ5 σ5 H5 q5 R5 (st1.trans R1 (st4.trans R4 st5)), fun s5 ρ5 σ5 H5 q5 R5 st5 => ⟨s5, ρ5, q5, R5, st4.trans R4 st5⟩, hr⟩
  · have e : i = items.length := by omega
    subst e
    exact .inl ⟨stop, hn s2 ρ2 σ2 H2 (fin s2 ρ2 i2) R2 (st1.trans R1 st2)⟩
/-- an owned list is changed no more -/
def frz (i : Nat) (ρ : List Sl) : List Sl := match ρ[i]? with
  | some (.ow _ l) => ρ.set i (.im (.list l))
  | _ => ρ
theorem Rel.frz (R : Rel Z B0 H0 ρ s σ H) (i : Nat) : Rel Z B0 H0 (frz i ρ) s σ H ∧ (∀ a ∈ own (Lf.frz i ρ), a ∈ own ρ) := by
  unfold Lf.frz
  split
  · rename_i q l e1
    obtain ⟨o, s0, rfl, xs, hq, im⟩ := R.sl i _ e1
    have no : q ∉ own (ρ.set i (.im (.list l))) := own_off R.nd e1
    have hB : ∀ a, Bad Z B0 (ρ.set i (.im (.list l))) a → Bad Z B0 ρ a := fun a z => bad_set rfl z
    have := R.put (i := i) (x := .no) (o := some (.ref q)) rfl trivial
    have es : σ.set i (some (.ref q)) = σ := by
      have hl := (List.getElem?_eq_some_iff.mp s0)
      rw [← hl.2]
      exact List.set_getElem_self hl.1
    refine ⟨⟨R.ok, by rw [List.length_set]; exact R.len, fun j y e => ?_, nodup_own_set R.nd (fun a z => by cases z), fun a ha => ?_, R.btr, R.frm⟩, fun a ha => (mem_own_set ha).elim id fun y => by cases y⟩
    · rcases set_get e with ⟨rfl, rfl⟩ | ⟨ne, e9⟩
      · refine ⟨_, s0, .ref q, rfl, .lst hq (fun z => ?_) (im.bad hB)⟩
        rcases z with z | z | z
        · exact (R.fr q (own_mem e1)).2.1 z
        · exact (R.fr q (own_mem e1)).2.2 z
        · exact no z
      · obtain ⟨o', h1, h2⟩ := R.sl j y e9
        exact ⟨o', h1, h2.bad hB⟩
    · rcases mem_own_set ha with z | z
      · exact R.fr a z
      · cases z
  · exact ⟨R, fun _ h => h⟩
where
  own_off {ρ : List Sl} {i : Nat} {q : Addr} {l : List PyData} {d : PyData} (nd : (own ρ).Nodup) (h : ρ[i]? = some (Sl.ow q l)) : q ∉ own (ρ.set i (.im d)) := by
    induction ρ generalizing i with
    | nil => cases h
    | cons y ρ ih =>
      rw [own_cons] at nd
      obtain ⟨n1, n2, n3⟩ := List.nodup_append.mp nd
      cases i with
      | zero =>
        cases h
        rw [List.set_cons_zero, own_cons]
        intro z
        rcases List.mem_append.mp z with z | z
        · cases z
        · exact n3 q (by simp [ownOf]) q z rfl
      | succ i =>
        rw [List.set_cons_succ, own_cons]
        intro z
        rcases List.mem_append.mp z with z | z
        · exact n3 q z q (own_mem (i := i) h) rfl
        · exact ih n2 (i := i) h z
def dFrz (i : Nat) (t : DSt Z) : DSt Z := fun De s ρ => t De s (frz i ρ)
theorem ds_frz (i : Nat) (h : DS Z X st t) : DS Z X st (dFrz i t) := by
  refine PS.of h fun D σ H ⟨B0, H0, ρ, s, De, R, hd, hn, hb, hc, hr⟩ => ?_
  obtain ⟨R', ho⟩ := R.frz i
  have st : Stp Z B0 ρ H (frz i ρ) H := ⟨fun _ _ h _ => h, fun _ _ h => h, fun _ _ _ h => h, fun a ha => .inl (ho a ha)⟩
  exact ⟨B0, H0, _, s, De, R', hd, fun s2 ρ2 σ2 H2 q R2 st2 => hn s2 ρ2 σ2 H2 q R2 (st.trans R' st2), fun s2 ρ2 σ2 H2 q R2 st2 => hb s2 ρ2 σ2 H2 q R2 (st.trans R' st2), fun s2 ρ2 σ2 H2 q R2 st2 => hc s2 ρ2 σ2 H2 q R2 (st.trans R' st2), hr⟩
end
end Lf
namespace Lf
open PySem PySem.Spec PyProof.Rows L2
section
variable {Z : Zn} {X : Cx} {B0 : Addr → Prop} {H0 H H1 H2 : Hp} {ρ ρ1 ρ2 : List Sl} {s s1 s2 : Z.S} {σ : L2.St} {v u : V} {r x y : Rv} {e a b c tg : Expr} {es rest : List Expr} {de da db dc : DX Z} {dt du : DT Z} {das : DA Z} {pos p : Pos} {K : PySem.W.Frag} {B : Addr → Prop}
/-! ### comprehensions -/
theorem wipe_at (σ : L2.St) (i : Nat) : ∀ vs : List Nat, (wipe σ vs)[i]? = if i ∈ vs then (if i < σ.length then some none else none) else σ[i]? := fun vs => by
  by_cases h : i ∈ vs
  · rw [if_pos h]
    by_cases hl : i < σ.length
    · rw [if_pos hl]
      have hw : i < (wipe σ vs).length := by rw [wipe_length]; exact hl
      rw [List.getElem?_eq_getElem hw]
      cases e : (wipe σ vs)[i] with
      | none => rfl
      | some x => exact absurd h (wipe_some (σ := σ) (i := i) (x := x) (by rw [List.getElem?_eq_getElem hw, e])).2
    · rw [if_neg hl, List.getElem?_eq_none (by rw [wipe_length]; omega)]
  · rw [if_neg h, wipe_out h]
theorem wipe_set {σ : L2.St} {i : Nat} {x : Option V} {vs : List Nat} (h : i ∈ vs) : wipe (σ.set i x) vs = wipe σ vs := by
  refine List.ext_getElem? fun j => ?_
  rw [wipe_at, wipe_at, List.length_set]
  by_cases hj : j ∈ vs
  · rw [if_pos hj, if_pos hj]
  · rw [if_neg hj, if_neg hj, List.getElem?_set_ne (fun z => hj (by rw [← z]; exact h))]
theorem wipe_wipe {σ : L2.St} {vs : List Nat} : wipe (wipe σ vs) vs = wipe σ vs := by
  refine List.ext_getElem? fun j => ?_
  rw [wipe_at (wipe σ vs), wipe_length]
  by_cases hj : j ∈ vs
  · rw [if_pos hj, wipe_at, if_pos hj]
  · rw [if_neg hj]
def wipeS (ρ : List Sl) : List Nat → List Sl
  | [] => ρ
  | i :: vs => wipeS (ρ.set i .no) vs
theorem own_wipe : ∀ {vs : List Nat} {ρ : List Sl} {a : Addr}, a ∈ own (wipeS ρ vs) → a ∈ own ρ
  | [], _, _, h => h
  | i :: vs, ρ, a, h => (mem_own_set (own_wipe (vs := vs) h)).elim id fun y => by cases y
theorem wipeS_at : ∀ {vs : List Nat} {ρ : List Sl} {i : Nat} {x : Sl}, (wipeS ρ vs)[i]? = some x → (i ∈ vs ∧ x = .no) ∨ (i ∉ vs ∧ ρ[i]? = some x)
  | [], _, _, _, h => .inr ⟨List.not_mem_nil, h⟩
  | j :: vs, ρ, i, x, h => by
    rcases wipeS_at (vs := vs) h with ⟨h1, h2⟩ | ⟨h1, h2⟩
    · exact .inl ⟨List.mem_cons_of_mem _ h1, h2⟩
    · rcases set_get h2 with ⟨rfl, rfl⟩ | ⟨ne, h3⟩
      · exact .inl ⟨List.mem_cons_self, rfl⟩
      · refine .inr ⟨fun z => ?_, h3⟩
        rcases List.mem_cons.mp z with z | z
        · exact ne z.symm
        · exact h1 z
theorem wipeS_len : ∀ {vs : List Nat} {ρ : List Sl}, (wipeS ρ vs).length = ρ.length
  | [], _ => rfl
  | i :: vs, ρ => by
    show (wipeS (ρ.set i .no) vs).length = _
    rw [wipeS_len (vs := vs), List.length_set]
theorem own_wipe_nd : ∀ {vs : List Nat} {ρ : List Sl}, (own ρ).Nodup → (own (wipeS ρ vs)).Nodup
  | [], _, h => h
  | i :: vs, ρ, h => own_wipe_nd (vs := vs) (nodup_own_set h fun a z => by cases z)
theorem Rel.wipe (R : Rel Z B0 H0 ρ s σ H) (vs : List Nat) : Rel Z B0 H0 (wipeS ρ vs) s (L2.wipe σ vs) H := by
  have hB : ∀ a, Bad Z B0 (wipeS ρ vs) a → Bad Z B0 ρ a := fun a z => z.imp id fun z => z.imp id own_wipe
  refine ⟨R.ok, by rw [wipe_length, wipeS_len]; exact R.len, fun i x e => ?_, own_wipe_nd R.nd, fun a ha => R.fr a (own_wipe ha), R.btr, R.frm⟩
  have hi : i < σ.length := by
    have := (List.getElem?_eq_some_iff.mp e).1
    rw [wipeS_len] at this
    rw [R.len]
    exact this
  rcases wipeS_at e with ⟨h1, rfl⟩ | ⟨h1, h2⟩
  · exact ⟨none, by rw [wipe_at, if_pos h1, if_pos hi], trivial⟩
  · obtain ⟨o, h3, h4⟩ := R.sl i x h2
    exact ⟨o, by rw [wipe_at, if_neg h1]; exact h3, h4.bad hB⟩
/-- a bad list is changed -/
theorem Rel.updB (R : Rel Z B0 H0 ρ s σ H) {q : Addr} {xs ys : List V} (hb : B0 q) (hz : ¬ Z.at_ q) (h0 : H0 q = none) (hq : H q = some (.lst xs)) : Rel Z B0 H0 ρ s σ (upd H q (.lst ys)) := by
  have kl : ∀ b o, H b = some o → ¬ Bad Z B0 ρ b → upd H q (.lst ys) b = some o ∧ ¬ Bad Z B0 ρ b := fun b o e n => ⟨by rw [upd_ne (fun z => n (by rw [z]; exact .inr (.inl hb)))]; exact e, n⟩
  have kt : ∀ b zs, H b = some (.tup zs) → upd H q (.lst ys) b = some (.tup zs) := fun b zs e => by rw [upd_ne (fun z => by rw [z, hq] at e; cases e)]; exact e
  have kf : ∀ b o u, H b = some (.frz o u) → upd H q (.lst ys) b = some (.frz o u) := fun b o u e => by rw [upd_ne (fun z => by rw [z, hq] at e; cases e)]; exact e
  refine ⟨Z.st R.ok (fun b o z e => by rw [upd_ne (fun y => hz (by rw [← y]; exact z))]; exact e) kt kf (fun b u e => by rw [upd_ne (fun z => by rw [z, hq] at e; cases e)]; exact e), R.len, fun j y e => ?_, R.nd, R.fr, fun a ha z => ?_, fun b o e n => ?_⟩
  · obtain ⟨o', h1, h2⟩ := R.sl j y e
    refine ⟨o', h1, ?_⟩
    cases y with
    | no => trivial
    | im d =>
      obtain ⟨w, h3, h4⟩ := h2
      exact ⟨w, h3, h4.mono kl kt kf⟩
    | ow a m =>
      obtain ⟨h3, zs, h4, h5⟩ := h2
      have : a ≠ q := fun z => (R.fr a (own_mem e)).2.2 (by rw [z]; exact hb)
      exact ⟨h3, zs, by rw [upd_ne this]; exact h4, h5.mono kl kt kf⟩
    | od a m =>
      obtain ⟨h3, zs, h4, h5⟩ := h2
      have : a ≠ q := fun z => (R.fr a (own_memG e rfl)).2.2 (by rw [z]; exact hb)
      exact ⟨h3, zs, by rw [upd_ne this]; exact h4, h5.mono kl kt kf⟩
    | ot a m =>
      obtain ⟨h3, zs, h4, h5⟩ := h2
      have : a ≠ q := fun z => (R.fr a (own_memG e rfl)).2.2 (by rw [z]; exact hb)
      exact ⟨h3, zs, by rw [upd_ne this]; exact h4, h5.mono kl kt kf⟩
    | raw w => exact h2
  · by_cases y : a = q
    · rw [y, upd_same] at z; cases z
    · rw [upd_ne y] at z
      exact R.btr a ha z
  · rw [upd_ne (fun z => by rw [z, h0] at e; cases e)]
    exact R.frm b o e n
theorem own_set_no : ∀ {ρ : List Sl} {i : Nat} {z : Sl}, (∀ x, ρ[i]? = some x → ownOf x = none) → ownOf z = none → own (ρ.set i z) = own ρ
  | [], _, _, _, _ => rfl
  | y :: ρ, 0, z, h, hz => by
    rw [List.set_cons_zero, own_cons, own_cons, hz, h y rfl]
  | y :: ρ, i + 1, z, h, hz => by
    rw [List.set_cons_succ, own_cons, own_cons, own_set_no (i := i) (fun x e => h x e) hz]
/-- a comprehension's target -/
def GOk (Z : Zn) (tu : Bool) (gr : TG) (g : DG Z) (vs : List Nat) : Prop := ∀ (B0 : Addr → Prop) (H0 : Hp) (ρ : List Sl) (s : Z.S) (σ : L2.St) (H : Hp) (v : V) (d : PyData) (Qd : List Sl → Prop) (Q : L2.St → Hp → Prop), (∀ i ∈ vs, ∀ x, ρ[i]? = some x → ownOf x = none) → Rel Z B0 H0 ρ s σ H → Ig tu (Bad Z B0 ρ) H v d → g d ρ Qd →
  (∀ ρ' σ', Qd ρ' → Rel Z B0 H0 ρ' s σ' H → own ρ' = own ρ → L2.wipe σ' vs = L2.wipe σ vs → Q σ' H) → gr v σ H Q
theorem gok_name {i : Nat} {vs : List Nat} (h : i ∈ vs) : GOk Z false (gName i) (gN i) vs := fun B0 H0 ρ s σ H v d Qd Q hno R im hd hq =>
  hq _ _ hd (R.put rfl ⟨v, rfl, im⟩) (own_set_no (hno i h) rfl) (wipe_set h)
theorem nms_okW {vs : List Nat} : ∀ {is : List Nat} {us : List V} {ds : List PyData} {ρ : List Sl} {σ : L2.St} {Qd : List Sl → Prop} {Q : L2.St → Hp → Prop}, (∀ i ∈ is, i ∈ vs) → (∀ i ∈ vs, ∀ x, ρ[i]? = some x → ownOf x = none) → Rel Z B0 H0 ρ s σ H → ImAll (Bad Z B0 ρ) H us ds → gNs is ds ρ Qd → (∀ ρ' σ', Qd ρ' → Rel Z B0 H0 ρ' s σ' H → own ρ' = own ρ → L2.wipe σ' vs = L2.wipe σ vs → Q σ' H) → tNms is us σ H Q
  | [], _, _, ρ, σ, Qd, Q, _, _, R, .nil, hd, hq => ⟨rfl, hq ρ σ hd R rfl rfl⟩
  | i :: is, _, _, ρ, σ, Qd, Q, hv, hno, R, .cons (v := v) (d := d) h t, hd, hq => by
    refine ⟨_, _, rfl, ?_⟩
    have hi := hv i List.mem_cons_self
    have o1 : own (ρ.set i (.im d)) = own ρ := own_set_no (hno i hi) rfl
    exact nms_okW (fun j hj => hv j (List.mem_cons_of_mem _ hj)) (fun j hj x e => by
      rcases set_get e with ⟨_, rfl⟩ | ⟨_, e⟩
      · rfl
      · exact hno j hj x e) (R.put (i := i) (x := .im d) rfl ⟨v, rfl, h⟩) (t.bad fun a z => bad_set rfl z) hd fun ρ' σ' q R' ho hw => hq ρ' σ' q R' (ho.trans o1) (hw.trans (wipe_set hi))
  | [], _, _, _, _, _, _, _, _, _, .cons _ _, hd, _ => hd.elim
  | _ :: _, _, _, _, _, _, _, _, _, _, .nil, hd, _ => hd.elim
theorem gok_tup {is : List Nat} {vs : List Nat} {n : Nat} (hn : is.length = n) (h : ∀ i ∈ is, i ∈ vs) : GOk Z true (gTup K n (tNms is)) (gT is) vs := fun B0 H0 ρ s σ H v d Qd Q hno R im hd hq => by
  unfold gT at hd
  split at hd
  · rename_i ds
    cases im with
    | tup e q => exact ⟨_, _, rfl, SqT.of e, by rw [q.length, gNs_len hd, hn], nms_okW h hno R q hd hq⟩
    | im im => cases im with
      | ftp e _ q => exact ⟨_, _, rfl, .inl (.inr ⟨_, e⟩), by rw [q.length, gNs_len hd, hn], nms_okW h hno R q hd hq⟩
  · exact hd.elim
def lcR (g : DG Z) (tt : DT Z) (te : DX Z) (ρ : List Sl) : List PyData → Z.S → List PyData → (List PyData → Z.S → Prop) → Prop
  | [], s, acc, Q => Q acc s
  | d :: ds, s, acc, Q => g d ρ fun ρ' => tt s ρ' fun b s1 => if b = true then te s1 ρ' fun r s2 => ∃ x, r.st = some x ∧ acc.length < 1000000 ∧ lcR g tt te ρ ds s2 (acc ++ [x]) Q else lcR g tt te ρ ds s1 acc Q
def dLc (wi : DI Z) (g : DG Z) (tt : DT Z) (te : DX Z) (vs : List Nat) : DX Z := fun s ρ Q => own (wipeS ρ vs) = own ρ ∧ wi s ρ fun items _ s1 => lcR g tt te (wipeS ρ vs) items s1 [] fun l s' => Q (.fr l) s'
theorem lift_lc {tu : Bool} {wi : DI Z} {g : DG Z} {gr : TG} {tt : DT Z} {te : DX Z} {vs : List Nat} (hg : GOk Z tu gr g vs) {σ : L2.St} {H : Hp} {Q : VK} (h : liftE Z (dLc wi g tt te vs) σ H Q) : tLc (liftI Z tu wi) gr (liftT Z tt) (liftE Z te) vs σ H Q := by
  obtain ⟨B0, H0, ρ, s, Qd, R, ⟨hw0, hd⟩, hq⟩ := h
  refine ⟨B0, H0, ρ, s, _, R, hd, fun items fz s1 J H1 q R1 g1 ok D hD => ?_⟩
  have nz : ¬ Z.at_ D := fun z => Z.trk R1.ok z hD
  have h0D : H0 D = none := R1.h0 hD
  have nB : ∀ a, Bad Z B0 ρ a → a ≠ D := fun a ha z => R1.bad ha (by rw [z]; exact hD)
  let BD : Addr → Prop := fun a => B0 a ∨ a = D
  have bdB : ∀ a, Bad Z BD (wipeS ρ vs) a → Bad Z B0 ρ a ∨ a = D := fun a z => by
    rcases z with z | z | z
    · exact .inl (.inl z)
    · exact z.imp (fun z => .inr (.inl z)) id
    · exact .inl (.inr (.inr (own_wipe z)))
  refine ⟨fun i m H' => m = items.length - i ∧ i ≤ items.length ∧ ∃ s' acc xs, lcR g tt te (wipeS ρ vs) (items.drop i) s' acc (fun l s' => Qd (.fr l) s') ∧ Rel Z BD H0 (wipeS ρ vs) s' (L2.wipe σ vs) H' ∧ Gr Z H1 H' ∧ H' D = some (.lst xs) ∧ ImAll (Bad Z BD ρ) H' xs acc, ?_, ?_⟩
  · refine ⟨items.length, by simp, Nat.zero_le _, s1, [], [], q, ?_, Gr.of (same_new hD), upd_same, .nil⟩
    exact ((R1.more (Z.st R1.ok (fun a o _ e => same_new hD a o e) (fun b _ e => same_new hD b _ e) (fun b _ _ e => same_new hD b _ e) (fun b _ e => same_new hD b _ e)) (Gr.of (same_new hD)) hD (by rw [upd_same]; exact fun z => nomatch z)).wipe vs)
  · rintro i m H' ⟨rfl, hi, s', acc, xs, q, R', g', hD', im'⟩
    have k2 : ∀ b o, H1 b = some o → ¬ Bad Z B0 ρ b → H' b = some o ∧ ¬ Bad Z BD (wipeS ρ vs) b := fun b o e n => ⟨g' b o e fun z => n (.inl z), fun z => (bdB b z).elim n fun z => by rw [z, hD] at e; cases e⟩
    obtain ⟨go, yl, stop⟩ := ok H' (Bad Z BD (wipeS ρ vs)) (fun b o e n => g' b o e fun z => by cases fz with
      | true => exact n (.inl z)
      | false => exact n z) k2 (fun b ys e => g' b _ e (Zn.ntup R1.ok e)) (fun b o u e => g' b _ e (Zn.nfrz R1.ok e))
    by_cases hlt : i < items.length
    · refine .inr ⟨go i hlt, fun G => (i + 1 ≤ items.length) ∧ ∃ s' acc xs, lcR g tt te (wipeS ρ vs) (items.drop (i + 1)) s' acc (fun l s' => Qd (.fr l) s') ∧ Rel Z BD H0 (wipeS ρ vs) s' (L2.wipe σ vs) G ∧ Gr Z H1 G ∧ G D = some (.lst xs) ∧ ImAll (Bad Z BD ρ) G xs acc, fun G h => ⟨items.length - (i + 1), by omega, rfl, h⟩, fun x H2 hy => ?_⟩
      obtain ⟨sm, im⟩ := yl i items[i] x H2 (List.getElem?_eq_getElem hlt) hy
      rw [List.drop_eq_getElem_cons hlt] at q
      have R2 := R'.same sm
      have g2 : Gr Z H1 H2 := g'.trans (Gr.of sm)
      have hD2 := sm _ _ hD'
      have im2 := im'.same sm
      refine hg BD H0 _ s' _ H2 x items[i] _ _ (fun j hj z e => by rcases wipeS_at e with ⟨_, rfl⟩ | ⟨h1, _⟩; rfl; exact absurd hj h1) R2 im q fun ρ3 σ3 q3 R3 ho hw => ?_
      refine ⟨hw.trans wipe_wipe, BD, H0, ρ3, s', _, R3, q3, fun b s4 H4 q4 R4 g4 => ?_⟩
      have R4w : Rel Z BD H0 (wipeS ρ vs) s4 (L2.wipe σ vs) H4 := R2.grow R4.ok g4
      have im4 : ImAll (Bad Z BD ρ) H4 xs acc := im2.grow badZ R2.ok g4
      cases b with
      | false => exact ⟨hlt, s4, acc, xs, q4, R4w, g2.trans g4, g4 D _ hD2 nz, im4⟩
      | true =>
        refine ⟨BD, H0, ρ3, s4, _, R4, q4, fun r s5 w H5 q5 R5 g5 r5 => ?_⟩
        obtain ⟨xd, e5, l5, q5⟩ := q5
        have iw := RvR.st R4 r5 e5
        have im5 : ImAll (Bad Z BD ρ) H5 xs acc := im4.grow badZ R4.ok g5
        have hD5 := g5 D _ (g4 D _ hD2 nz) nz
        have R5w : Rel Z BD H0 (wipeS ρ vs) s5 (L2.wipe σ vs) H5 := R4w.grow R5.ok g5
        refine ⟨xs, hD5, by rw [im5.length]; exact smL l5, hlt, s5, acc ++ [xd], xs ++ [w], q5, R5w.updB (.inr rfl) nz h0D hD5, fun b o e n => ?_, upd_same, ?_⟩
        · rw [upd_ne (fun z => by rw [z, hD] at e; cases e)]
          exact g5 b o (g4 b o (g2 b o e n) n) n
        · have step : ∀ {v : V} {d : PyData}, Im (Bad Z BD ρ) H5 v d → Im (Bad Z BD ρ) (upd H5 D (.lst (xs ++ [w]))) v d := fun h => h.mono (fun b o e n => ⟨by rw [upd_ne (fun z => n (by rw [z]; exact .inr (.inl (.inr rfl))))]; exact e, n⟩) (fun b zs e => by rw [upd_ne (fun z => by rw [z, hD5] at e; cases e)]; exact e) (fun b o u e => by rw [upd_ne (fun z => by rw [z, hD5] at e; cases e)]; exact e)
          have steps : ImAll (Bad Z BD ρ) (upd H5 D (.lst (xs ++ [w]))) xs acc := im5.mono (fun b o e n => ⟨by rw [upd_ne (fun z => n (by rw [z]; exact .inr (.inl (.inr rfl))))]; exact e, n⟩) (fun b zs e => by rw [upd_ne (fun z => by rw [z, hD5] at e; cases e)]; exact e) (fun b o u e => by rw [upd_ne (fun z => by rw [z, hD5] at e; cases e)]; exact e)
          refine steps.snoc (step (iw.bad fun a z => ?_))
          unfold Bad at z ⊢
          rw [ho, hw0]
          exact z
    · have e : i = items.length := by omega
      subst e
      rw [List.drop_length] at q
      refine .inl ⟨stop, hq _ s' _ H' q (R1.grow R'.ok g') (g1.trans g') ⟨D, xs, rfl, none_back R1.ok g1 hD, nz, hD', im'.bad fun a z => ?_⟩⟩
      rcases z with (z | z | z) | z
      · exact .inl z
      · exact .inr (.inl (.inl z))
      · exact .inr (.inr z)
      · exact .inr (.inl (.inr z))
abbrev DPTs (Z : Zn) (X : Cx) (ifs : List Expr) (d : DT Z) : Prop := PTs X ifs (liftT Z d)
def dYes : DT Z := fun s _ Q => Q true s
theorem dp_nil : DPTs Z X [] dYes := ⟨fun pins s σ H Q I ⟨B0, H0, ρ, s1, Qd, R, hd, hq⟩ => pts_nil.run pins s σ H Q I (hq true s1 H hd R Gr.refl)⟩
theorem dp_one (h : DTs Z X c dt) : DPTs Z X [c] dt := pts_one h
theorem de_lc {elt iter : Expr} {ifs : List Expr} {scope : Scope} {ow : List (Str × Nat)} {wi : DI Z} {g : DG Z} {gr : TG} {tt : DT Z} {te : DX Z} {tu : Bool} (hgo : GOk Z tu gr g (ow.map (·.2))) (hc : X.calm = true) (hN : X.N.Nodup) (hi : DIs Z X tg iter wi) (ok : BlkOk X.N X.env.scope scope ow)
    (hg : ∀ (s : Shared) (H : Hp) (C : Addr) (cl : List (Str × Addr)) (fp : List Addr), PG (X.blk s H scope (compEnvC scope cl C X.env) fp) tg gr) (ht : ∀ (s : Shared) (H : Hp) (C : Addr) (cl : List (Str × Addr)) (fp : List Addr), DPTs Z (X.blk s H scope (compEnvC scope cl C X.env) fp) ifs tt)
    (he : ∀ (s : Shared) (H : Hp) (C : Addr) (cl : List (Str × Addr)) (fp : List Addr), DE Z (X.blk s H scope (compEnvC scope cl C X.env) fp) elt te) (hs : ∀ x, foldedSetIterable iter X.env x = pure x := by intro _; rfl) (htu : isTup tg = tu := by rfl) :
    DE Z X (.ListComp elt [⟨tg, iter, ifs, 0⟩] scope pos) (dLc wi g tt te (ow.map (·.2))) := by
  subst htu
  exact PE.of (pe_lc hc hN hi ok hg ht he hs) fun σ H Q h => lift_lc hgo h
theorem ds_setLc {i : Nat} {n : Str} {py spos : Pos} {elt iter : Expr} {ifs : List Expr} {scope : Scope} {ow : List (Str × Nat)} {wi : DI Z} {g : DG Z} {gr : TG} {tt : DT Z} {te : DX Z} {tu : Bool} (hgo : GOk Z tu gr g (ow.map (·.2))) (hc : X.calm = true) (hN : X.N.Nodup) (hy : X.N[i]? = some n) (hyl : X.env.scope.names.lookup n = some .local)
    (hsw : swapsWith (.ListComp elt [⟨tg, iter, ifs, 0⟩] scope pos) (some (.Name n py)) spos.line X.env = pure true) (hi : DIs Z X tg iter wi) (ok : BlkOk X.N X.env.scope scope ow)
    (hg : ∀ (s : Shared) (H : Hp) (C : Addr) (cl : List (Str × Addr)) (fp : List Addr), PG (X.blk s H scope (compEnvC scope cl C X.env) fp) tg gr) (ht : ∀ (s : Shared) (H : Hp) (C : Addr) (cl : List (Str × Addr)) (fp : List Addr), DPTs Z (X.blk s H scope (compEnvC scope cl C X.env) fp) ifs tt)
    (he : ∀ (s : Shared) (H : Hp) (C : Addr) (cl : List (Str × Addr)) (fp : List Addr), DE Z (X.blk s H scope (compEnvC scope cl C X.env) fp) elt te) (hs : ∀ x, foldedSetIterable iter X.env x = pure x := by intro _; rfl) (htu : isTup tg = tu := by rfl) :
    DS Z X (.Assign [.Name n py] (.ListComp elt [⟨tg, iter, ifs, 0⟩] scope pos) spos) (dSet i (dLc wi g tt te (ow.map (·.2)))) := by
  subst htu
  refine PS.of (ps_setLc hc hN hy hyl hsw hi ok hg ht he hs) fun D σ H h => ?_
  have h2 := lift_set h
  exact lift_lc (Q := fun x H1 => gName i x σ H1 D.nx) hgo h2
end
end Lf
namespace Lf
open PySem PySem.Spec PyProof.Rows L2
/-! ### defs -/
def ArgR (B : Addr → Prop) (H : Hp) (v : V) : Sl → Prop
  | .im d => Im B H v d
  | .raw u => v = u
  | _ => False
inductive ArgRs (B : Addr → Prop) (H : Hp) : List V → List Sl → Prop
  | nil : ArgRs B H [] []
  | cons {v : V} {vs : List V} {x : Sl} {xs : List Sl} : ArgR B H v x → ArgRs B H vs xs → ArgRs B H (v :: vs) (x :: xs)
abbrev DF (Z : Zn) := Z.S → List Sl → (Rv → Z.S → Prop) → Prop
def spD (Z : Zn) (F : DF Z) : Sp := fun vs H Q _ => ∃ (B0 : Addr → Prop) (s : Z.S) (as : List Sl) (Qd : Rv → Z.S → Prop), Z.ok s H ∧ (∀ a, B0 a → H a ≠ none) ∧ ArgRs (Bad Z B0 []) H vs as ∧ F s as Qd ∧ ∀ r s' v H', Qd r s' → Z.ok s' H' → Gr Z H H' → RvR Z B0 [] H H' v r → Q v H'
section
variable {Z : Zn} {X : Cx} {B0 : Addr → Prop} {H0 H H1 H2 : Hp} {ρ ρ1 ρ2 : List Sl} {s s1 s2 : Z.S} {σ : L2.St} {v u : V} {r x y : Rv} {e a b c tg : Expr} {es rest : List Expr} {de da db dc : DX Z} {dt du : DT Z} {das : DA Z} {pos p : Pos} {K : PySem.W.Frag} {B : Addr → Prop}
theorem ArgRs.length : ∀ {vs : List V} {as : List Sl}, ArgRs B H vs as → vs.length = as.length
  | _, _, .nil => rfl
  | _, _, .cons _ q => congrArg (· + 1) q.length
theorem ArgRs.own : ∀ {vs : List V} {as : List Sl}, ArgRs B H vs as → ∀ {m : Nat}, Lf.own (as ++ List.replicate m .no) = []
  | _, _, .nil, 0 => rfl
  | _, _, .nil, m + 1 => by
    rw [List.nil_append, List.replicate_succ, own_cons]
    have := ArgRs.own (ArgRs.nil (B := B) (H := H)) (m := m)
    rw [List.nil_append] at this
    rw [this]
    rfl
  | _, _, .cons (x := x) h q, m => by
    rw [List.cons_append, own_cons, q.own]
    cases x with
    | im d => rfl
    | raw u => rfl
    | no => exact h.elim
    | ow _ _ => exact h.elim
    | od _ _ => exact h.elim
    | ot _ _ => exact h.elim
theorem ArgRs.get : ∀ {vs : List V} {as : List Sl} {i : Nat} {x : Sl}, ArgRs B H vs as → as[i]? = some x → ∃ v, vs[i]? = some v ∧ ArgR B H v x
  | _, _, 0, _, .cons h q, e => by cases e; exact ⟨_, rfl, h⟩
  | _, _, i + 1, _, .cons h q, e => q.get (i := i) e
  | _, _, 0, _, .nil, e => by cases e
  | _, _, _ + 1, _, .nil, e => by cases e
theorem rel_start {N : List Str} {vs : List V} {as : List Sl} (ok : Z.ok s H) (hB : ∀ a, B0 a → H a ≠ none) (h : ArgRs (Bad Z B0 []) H vs as) (hl : vs.length ≤ N.length) : Rel Z B0 H (as ++ List.replicate (N.length - as.length) .no) s (L2.start N vs) H := by
  have eo : own (as ++ List.replicate (N.length - as.length) .no) = [] := h.own
  have el := h.length
  refine ⟨ok, ?_, fun i x e => ?_, (by rw [eo]; exact List.nodup_nil), (fun a ha => by rw [eo] at ha; exact absurd ha List.not_mem_nil), hB, fun b o e _ => e⟩
  · unfold L2.start
    simp only [List.length_append, List.length_map, List.length_replicate]
    omega
  · have hb : ∀ a, Bad Z B0 (as ++ List.replicate (N.length - as.length) .no) a → Bad Z B0 [] a := fun a z => by unfold Bad at z ⊢; rw [eo] at z; exact z
    unfold L2.start
    rcases Nat.lt_or_ge i as.length with hi | hi
    · rw [List.getElem?_append_left hi] at e
      obtain ⟨v, hv, ha⟩ := h.get e
      refine ⟨some v, by rw [List.getElem?_append_left (by rw [List.length_map]; omega), List.getElem?_map, hv]; rfl, ?_⟩
      cases x with
      | im d => exact ⟨v, rfl, Im.bad hb ha⟩
      | raw u => cases (show v = u from ha); rfl
      | no => trivial
      | ow _ _ => exact ha.elim
      | od _ _ => exact ha.elim
      | ot _ _ => exact ha.elim
    · rw [List.getElem?_append_right hi] at e
      have hm := List.getElem?_eq_some_iff.mp e
      have hx : x = .no := by rw [← hm.2]; exact List.getElem_replicate ..
      subst hx
      have hlt : i - as.length < N.length - as.length := by have := hm.1; rw [List.length_replicate] at this; exact this
      refine ⟨none, ?_, trivial⟩
      rw [List.getElem?_append_right (by rw [List.length_map]; omega), List.length_map, List.getElem?_replicate, if_pos (by omega)]
/-- the ends of a def -/
def ends (Qd : Rv → Z.S → Prop) : DEnds Z := { nx := fun s' _ => Qd (.im .none) s', rt := Qd }
theorem body_ok {N : List Str} {d : DSt Z} {F : DF Z} {vs : List V} {Q : VK} {E : XK} (hl : vs.length ≤ N.length) (hd : ∀ s as Qd, F s as Qd → d (ends Qd) s (as ++ List.replicate (N.length - as.length) .no)) (h : spD Z F vs H Q E) : liftS Z d { nx := fun _ H' => Q .non H', rt := Q } (L2.start N vs) H := by
  obtain ⟨B0, s, as, Qd, ok, hB, ha, hf, hq⟩ := h
  refine ⟨B0, H, _, s, ends Qd, rel_start ok hB ha hl, hd s as Qd hf, fun s' ρ' σ' H' q R' st => ?_, fun _ _ _ _ q => q.elim, fun _ _ _ _ q => q.elim, fun r s' v H' q ok' g' rr => hq r s' v H' q ok' g' rr⟩
  exact hq _ s' .non H' q R'.ok R'.frm Im.non
end
section
variable {P : Program} {w : World} {K : PySem.W.Frag} {mg : Str → Option Value} {base : Heap} {Z : Zn}
theorem def_ok {nm : Str} {st : Stmt} {N ps : List Str} {k : Nat} {F : DF Z} {d : DSt Z} (M : Mk K mg nm st ps) (Sc : FnScope N ps (defScope st)) (hl : ps.length ≤ N.length) (len : ∀ s as Qd, F s as Qd → as.length = ps.length)
    (body : ∀ (f : Addr) (cdv : Value) (A : Around) (outer : List Env) (s : Shared) (H : Hp) (E : XK), Room k (A.deeper (envOfC nm (defScope st) s.heap.objs.size f cdv)) → DSs Z (cxOf CX0 P w K mg base N nm (defScope st) f cdv A outer s H E).nox (defBody st) d)
    (hd : ∀ s as Qd, F s as Qd → d (ends Qd) s (as ++ List.replicate (N.length - as.length) .no)) : Df P w K mg base CX0 (k + 1) nm ps (spD Z F) := by
  obtain ⟨f, fd, Fn, b, g⟩ := M
  have hlen : ∀ vs H Q E, spD Z F vs H Q E → vs.length = ps.length := fun vs H Q E ⟨B0, s, as, Qd, _, _, ha, hf, _⟩ => by rw [ha.length, len s as Qd hf]
  refine Df.of Fn b g (Fn.ok Sc hlen fun cdv A outer s H vs Q E hr h => ⟨_, body f cdv A outer s H E hr, body_ok ?_ hd h⟩)
  rw [hlen vs H Q E h]
  exact hl
theorem def_okG {nm : Str} {st : Stmt} {N ps : List Str} {k : Nat} {F : DF Z} {d : DSt Z} (M : Mk K mg nm st ps) (Sc : FnScope N ps (defScope st)) (hl : ps.length ≤ N.length) (len : ∀ s as Qd, F s as Qd → as.length = ps.length)
    (body : ∀ (f : Addr) (cdv : Value) (A : Around) (outer : List Env) (s : Shared) (H : Hp) (E : XK), A.guards = some [] → Room k (A.deeper (envOfC nm (defScope st) s.heap.objs.size f cdv)) → DSs Z (cxOf CX0 P w K mg base N nm (defScope st) f cdv A outer s H E).nox (defBody st) d)
    (hd : ∀ s as Qd, F s as Qd → d (ends Qd) s (as ++ List.replicate (N.length - as.length) .no)) : DfG P w K mg base (k + 1) nm ps (spD Z F) := by
  obtain ⟨f, fd, Fn, b, g⟩ := M
  have hlen : ∀ vs H Q E, spD Z F vs H Q E → vs.length = ps.length := fun vs H Q E ⟨B0, s, as, Qd, _, _, ha, hf, _⟩ => by rw [ha.length, len s as Qd hf]
  refine ⟨f, fd, runG_of Fn Sc hlen fun cdv A outer s H vs Q E hgu hr h => ⟨_, body f cdv A outer s H E hgu hr, body_ok ?_ hd h⟩, b, g, Fn.kp, hlen⟩
  rw [hlen vs H Q E h]
  exact hl
theorem Df.imp {CX : CXT} {k : Nat} {x : Str} {ps : List Str} {sp sp' : Sp} (D : Df P w K mg base CX k x ps sp) (h : ∀ vs H Q E, sp' vs H Q E → sp vs H Q E) : Df P w K mg base CX k x ps sp' := by
  obtain ⟨f, fd, F, b, g, kp⟩ := D
  exact ⟨f, fd, F.imp h, b, g, kp⟩
end
/-! ### calls -/
def argOf : Rv → Sl
  | .im d => .im d
  | .bo l => .im (.list l)
  | .fr l => .im (.list l)
  | .rw v => .raw v
def isBo : Rv → Bool
  | .bo _ => true
  | _ => false
def cleanR : Rv → Bool
  | .im d => noL d
  | .fr l => noLs l
  | .rw _ => true
  | .bo _ => false
def okR (rs : List Rv) (r : Rv) : Prop := rs.any isBo = false ∨ cleanR r = true
section
variable {Z : Zn} {X : Cx} {B0 : Addr → Prop} {H0 H H1 H2 : Hp} {ρ ρ1 ρ2 : List Sl} {s s1 s2 : Z.S} {σ : L2.St} {v u : V} {r x y : Rv} {e a b c tg : Expr} {es rest : List Expr} {de da db dc : DX Z} {dt du : DT Z} {das : DA Z} {pos p : Pos} {K : PySem.W.Frag} {B : Addr → Prop}
theorem args_st (R : Rel Z B0 H0 ρ s σ H) {B1 : Addr → Prop} (hB : ∀ a, B1 a → Bad Z B0 ρ a) : ∀ {vs : List V} {rs : List Rv}, RvRs Z B0 ρ H H1 vs rs → rs.any isBo = false → ArgRs B1 H1 vs (rs.map argOf)
  | _, _, .nil, _ => .nil
  | _, _, .cons (r := r) h q, hb => by
    rw [List.any_cons, Bool.or_eq_false_iff] at hb
    refine .cons ?_ (args_st R hB q hb.2)
    cases r with
    | im d => exact Im.bad hB h
    | rw w => exact h
    | fr l => exact Im.bad hB (RvR.st (r := .fr l) R h rfl)
    | bo l => cases hb.1
theorem args_rd (R : Rel Z B0 H0 ρ s σ H) {B1 : Addr → Prop} (hB : ∀ a, B1 a → Z.at_ a ∨ B0 a) : ∀ {vs : List V} {rs : List Rv}, RvRs Z B0 ρ H H1 vs rs → ArgRs B1 H1 vs (rs.map argOf)
  | _, _, .nil => .nil
  | _, _, .cons (r := r) h q => by
    have hB' : ∀ a, B1 a → Bad Z B0 ρ a := fun a z => (hB a z).imp id fun z => .inl z
    refine .cons ?_ (args_rd R hB q)
    cases r with
    | im d => exact Im.bad hB' h
    | rw w => exact h
    | fr l => exact Im.bad hB' (RvR.st (r := .fr l) R h rfl)
    | bo l =>
      obtain ⟨a, xs, h1, rfl, h3, h4⟩ := h
      exact .lst h3 (fun z => (hB a z).elim (R.fr a h1).2.1 (R.fr a h1).2.2) (h4.bad hB')
/-- from a call's result to ours -/
theorem res_ok {Z1 : Zn} {B1 : Addr → Prop} (hz : ∀ a, Bad Z B0 ρ a → Bad Z1 B1 [] a ∨ True) (hB : ∀ a, Bad Z B0 ρ a → Bad Z1 B1 [] a) (hzn : ∀ p, H1 p = none → ¬ Z.at_ p) (h : RvR Z1 B1 [] H1 H2 v r) : RvR Z B0 ρ H1 H2 v r := by
  cases r with
  | im d => exact Im.bad hB h
  | rw w => exact h
  | fr l =>
    obtain ⟨p, xs, rfl, h1, h2, h3, h4⟩ := h
    exact ⟨p, xs, rfl, h1, hzn p h1, h3, h4.bad fun a z => z.imp (hB a) id⟩
  | bo l =>
    obtain ⟨a, xs, h1, _⟩ := h
    cases h1
theorem res_clean {Z1 : Zn} {B1 : Addr → Prop} (hzn : ∀ p, H1 p = none → ¬ Z.at_ p) (hc : cleanR r = true) (h : RvR Z1 B1 [] H1 H2 v r) : RvR Z B0 ρ H1 H2 v r := by
  cases r with
  | im d => exact Im.free hc h
  | rw w => exact h
  | fr l =>
    obtain ⟨p, xs, rfl, h1, h2, h3, h4⟩ := h
    exact ⟨p, xs, rfl, h1, hzn p h1, h3, ImAll.free hc h4⟩
  | bo l => cases hc
/-- a call in the same zone -/
def dCall (F : DF Z) (da : DA Z) : DX Z := fun s ρ Q => da s ρ fun rs s1 => F s1 (rs.map argOf) fun r s2 => okR rs r ∧ Q r s2
/-- a call of a def that knows no zone -/
def dCallP (F : DF Z0) (da : DA Z) : DX Z := fun s ρ Q => da s ρ fun rs s1 => F () (rs.map argOf) fun r _ => okR rs r ∧ Q r s1
theorem app0 {sp : Sp} {vs : List V} {Q : VK} {E : XK} (h : sp vs H Q E) : sp (vs ++ []) H Q E := by rw [List.append_nil]; exact h
theorem lift_call {F : DF Z} {E : XK} {σ : L2.St} {H : Hp} {Q : VK} (h : liftE Z (dCall F das) σ H Q) : tCall (spD Z F) [] E (liftA Z das) σ H Q := by
  obtain ⟨B0, H0, ρ, s, Qd, R, hd, hq⟩ := h
  refine ⟨B0, H0, ρ, s, _, R, hd, fun rs s1 vs H1 qx R1 g1 r1 => app0 ?_⟩
  have hzn : ∀ p, H1 p = none → ¬ Z.at_ p := fun p hp z => Z.trk R1.ok z hp
  cases hb : rs.any isBo with
  | false =>
    have eB : ∀ a, Bad Z (fun a => B0 a ∨ a ∈ own ρ) [] a ↔ Bad Z B0 ρ a := fun a => ⟨fun z => z.imp id fun z => z.elim id (fun z => absurd z List.not_mem_nil), fun z => z.imp id fun z => .inl z⟩
    refine ⟨fun a => B0 a ∨ a ∈ own ρ, s1, _, _, R1.ok, fun a ha => ha.elim (R1.btr a) fun z => R1.otr z, args_st R (fun a z => (eB a).mp z) r1 hb, qx, fun r s2 v H2 q ok2 g2 rr => ?_⟩
    have rr2 : RvR Z B0 ρ H1 H2 v r := res_ok (fun _ _ => .inr trivial) (fun a z => (eB a).mpr z) hzn rr
    exact hq r s2 v H2 q.2 (R1.grow ok2 g2) (g1.trans g2) (rr2.back R1.ok g1)
  | true =>
    refine ⟨B0, s1, _, _, R1.ok, R1.btr, args_rd R (fun a z => z.imp id fun z => z.elim id fun z => by cases z) r1, qx, fun r s2 v H2 q ok2 g2 rr => ?_⟩
    have hc : cleanR r = true := q.1.elim (fun z => by rw [hb] at z; cases z) id
    have rr2 : RvR Z B0 ρ H1 H2 v r := res_clean hzn hc rr
    exact hq r s2 v H2 q.2 (R1.grow ok2 g2) (g1.trans g2) (rr2.back R1.ok g1)
theorem lift_callP {F : DF Z0} {E : XK} {σ : L2.St} {H : Hp} {Q : VK} (h : liftE Z (dCallP F das) σ H Q) : tCall (spD Z0 F) [] E (liftA Z das) σ H Q := by
  obtain ⟨B0, H0, ρ, s, Qd, R, hd, hq⟩ := h
  refine ⟨B0, H0, ρ, s, _, R, hd, fun rs s1 vs H1 qx R1 g1 r1 => app0 ?_⟩
  have hzn : ∀ p, H1 p = none → ¬ Z.at_ p := fun p hp z => Z.trk R1.ok z hp
  have same : ∀ {H2 : Hp}, Gr Z0 H1 H2 → Same H1 H2 := fun g b o e => g b o e id
  cases hb : rs.any isBo with
  | false =>
    have eB : ∀ a, Bad Z0 (fun a => Bad Z B0 ρ a) [] a ↔ Bad Z B0 ρ a := fun a => ⟨fun z => z.elim (fun z => z.elim) fun z => z.elim id (fun z => absurd z List.not_mem_nil), fun z => .inr (.inl z)⟩
    refine ⟨fun a => Bad Z B0 ρ a, (), _, _, trivial, fun a ha => R1.bad ha, args_st R (fun a z => (eB a).mp z) r1 hb, qx, fun r s2 v H2 q ok2 g2 rr => ?_⟩
    have rr2 : RvR Z B0 ρ H1 H2 v r := res_ok (fun _ _ => .inr trivial) (fun a z => (eB a).mpr z) hzn rr
    exact hq r s1 v H2 q.2 (R1.same (same g2)) (g1.trans (Gr.of (same g2))) (rr2.back R1.ok g1)
  | true =>
    refine ⟨fun a => Z.at_ a ∨ B0 a, (), _, _, trivial, fun a ha => ha.elim (fun z => Z.trk R1.ok z) (R1.btr a), args_rd R (fun a z => z.elim (fun z => z.elim) fun z => z.elim id fun z => by cases z) r1, qx, fun r s2 v H2 q ok2 g2 rr => ?_⟩
    have hc : cleanR r = true := q.1.elim (fun z => by rw [hb] at z; cases z) id
    have rr2 : RvR Z B0 ρ H1 H2 v r := res_clean hzn hc rr
    exact hq r s1 v H2 q.2 (R1.same (same g2)) (g1.trans (Gr.of (same g2))) (rr2.back R1.ok g1)
variable {k j : Nat} {ps : List Str} {n : Str} {CX : CXT}
theorem de_call {F : DF Z} {E : XK} (D : Df X.prog X.w X.K X.mg X.base CX k n ps (spD Z F)) (hx : Passes CX X E) (hr : Room j X.A) (ha : DAs Z X (e :: es) das) (hj : k ≤ j := by decide) (hg : Gl X n := by rfl)
    (hdb : (n == ("__debug__" : Str)) = false := by decide) (he : starEach (e :: es) X.env = (false, eval e X.env) :: starEach es X.env := by rfl) (hpl : (backTo pos (starEach es X.env)).any (·.1) = false := by rfl) : DE Z X (.Call (.Name n p) (e :: es) [] pos) (dCall F das) :=
  PE.of (pe_dD D hx hr ha hj hg hdb he hpl) fun σ H Q h => lift_call h
theorem de_callP {F : DF Z0} {E : XK} (D : Df X.prog X.w X.K X.mg X.base CX k n ps (spD Z0 F)) (hx : Passes CX X E) (hr : Room j X.A) (ha : DAs Z X (e :: es) das) (hj : k ≤ j := by decide) (hg : Gl X n := by rfl)
    (hdb : (n == ("__debug__" : Str)) = false := by decide) (he : starEach (e :: es) X.env = (false, eval e X.env) :: starEach es X.env := by rfl) (hpl : (backTo pos (starEach es X.env)).any (·.1) = false := by rfl) : DE Z X (.Call (.Name n p) (e :: es) [] pos) (dCallP F das) :=
  PE.of (pe_dD D hx hr ha hj hg hdb he hpl) fun σ H Q h => lift_callP h
theorem de_callG {F : DF Z} (D : DfG X.prog X.w X.K X.mg X.base k n ps (spD Z F)) (hgu : X.A.guards = some []) (hr : Room j X.A) (ha : DAs Z X (e :: es) das) (hj : k ≤ j := by decide) (hg : Gl X n := by rfl)
    (hdb : (n == ("__debug__" : Str)) = false := by decide) (he : starEach (e :: es) X.env = (false, eval e X.env) :: starEach es X.env := by rfl) (hpl : (backTo pos (starEach es X.env)).any (·.1) = false := by rfl) : DE Z X (.Call (.Name n p) (e :: es) [] pos) (dCall F das) :=
  PE.of (pe_dG D hgu hr ha hj hg hdb he hpl) fun σ H Q h => lift_call h
theorem de_callGP {F : DF Z0} (D : DfG X.prog X.w X.K X.mg X.base k n ps (spD Z0 F)) (hgu : X.A.guards = some []) (hr : Room j X.A) (ha : DAs Z X (e :: es) das) (hj : k ≤ j := by decide) (hg : Gl X n := by rfl)
    (hdb : (n == ("__debug__" : Str)) = false := by decide) (he : starEach (e :: es) X.env = (false, eval e X.env) :: starEach es X.env := by rfl) (hpl : (backTo pos (starEach es X.env)).any (·.1) = false := by rfl) : DE Z X (.Call (.Name n p) (e :: es) [] pos) (dCallP F das) :=
  PE.of (pe_dG D hgu hr ha hj hg hdb he hpl) fun σ H Q h => lift_callP h
/-! ### repr -/
def opRepr : Cb := fun rs Q => match rs with
  | [x] => match x.D with
    | some d => d.showable = true ∧ d.depth ≤ 100 ∧ d.shown.length ≤ sizeLine ∧ Q (.im (.str d.shown))
    | _ => False
  | _ => False
theorem de_repr (sys : ∃ o, X.base.get? sysModules = some o) (hgu : X.A.guards = some []) (hu : X.A.units + 200 < cLine) (hg : Gl X "repr") (hm : X.mg "repr" = none) (ha : DAs Z X (e :: es) das) (he : starEach (e :: es) X.env = (false, eval e X.env) :: starEach es X.env := by rfl) (hpl : (backTo pos (starEach es X.env)).any (·.1) = false := by rfl) : DE Z X (.Call (.Name "repr" p) (e :: es) [] pos) (dCB opRepr das) := by
  refine PE.of (pe_callB (call_reprA sys hgu hu) hg hm (by decide +kernel) ha (by decide) (by decide) he hpl) fun σ H Q h => lift_cb ?_ h
  intro Z B0 ρ s H0 σ Ha H vs xs Qd Q R rr q k
  unfold opRepr at q
  split at q
  · obtain ⟨v, rfl, r1⟩ := rr.one
    split at q
    · rename_i d e1
      exact ⟨v, d, rfl, (r1.rd e1).rp, q.1, q.2.1, q.2.2.1, k _ _ _ q.2.2.2 (Same.refl H) (Im.str _)⟩
    · exact q.elim
  · exact q.elim
/-! ### list(range(..)), tuple(range(..)) -/
theorem rgV_im {lo hi : Int} : ImAll B H (rgV lo hi) (rngD lo (hi - lo).toNat) := by
  unfold rgV rngD
  have h : ∀ l : List Nat, ImAll B H (l.map fun k => V.int (lo + (k : Nat))) (l.map fun k => PyData.int (lo + (k : Nat))) := fun l => by
    induction l with
    | nil => exact .nil
    | cons x l ih => exact .cons (.int _) ih
  exact h _
def dRg1 (tup : Bool) (da : DX Z) : DX Z := fun s ρ Q => da s ρ fun x s1 => match x.D with
  | some (.int j) => j ≤ 1000000 ∧ -1000000 ≤ j ∧ Q (if tup then .im (.tuple (rngD 0 j.toNat)) else .fr (rngD 0 j.toNat)) s1
  | _ => False
def dRg2 (tup : Bool) (da db : DX Z) : DX Z := fun s ρ Q => da s ρ fun x s1 => db s1 ρ fun y s2 => match x.D, y.D with
  | some (.int i), some (.int j) => (i ≤ 1000000 ∧ -1000000 ≤ i) ∧ (j ≤ 1000000 ∧ -1000000 ≤ j) ∧ Q (if tup then .im (.tuple (rngD i (j - i).toNat)) else .fr (rngD i (j - i).toNat)) s2
  | _, _ => False
theorem rg1 {j : Int} : ImAll B H (rgV 0 j) (rngD 0 j.toNat) := by
  have := rgV_im (B := B) (H := H) (lo := 0) (hi := j)
  rw [Int.sub_zero] at this
  exact this
theorem de_listR1 {p2 pos2 : Pos} (hc : X.calm = true) (hg : Gl X "list") (hm : X.mg "list" = none) (hg2 : Gl X "range") (hm2 : X.mg "range" = none) (ha : DE Z X a da) (na2 : starEach [a] X.env = (false, eval a X.env) :: starEach [] X.env := by rfl) (na : starEach [.Call (.Name "range" p2) [a] [] pos2] X.env = (false, eval (.Call (.Name "range" p2) [a] [] pos2) X.env) :: starEach [] X.env := by rfl) :
    DE Z X (.Call (.Name "list" p) [.Call (.Name "range" p2) [a] [] pos2] [] pos) (dRg1 false da) := by
  refine PE.of (pe_listRg hc hg hm (prg_1 hg2 hm2 ha na2) na) fun σ H Q ⟨B0, H0, ρ, s, Qd, R, hd, hq⟩ => ?_
  refine ⟨B0, H0, ρ, s, _, R, hd, fun x s1 v H1 qx R1 g1 r1 => ?_⟩
  split at qx
  · rename_i j e1
    refine ⟨j, r1.vI e1, ⟨by omega, by omega, by omega, by omega, by omega⟩, fun q hq1 => hq _ s1 _ _ qx.2.2 (R1.same (same_new hq1)) (g1.trans (Gr.of (same_new hq1))) ((R1.newL hq1 rg1).back R1.ok g1)⟩
  · exact qx.elim
theorem de_tupR1 {p2 pos2 : Pos} (hc : X.calm = true) (hg : Gl X "tuple") (hm : X.mg "tuple" = none) (hg2 : Gl X "range") (hm2 : X.mg "range" = none) (ha : DE Z X a da) (na2 : starEach [a] X.env = (false, eval a X.env) :: starEach [] X.env := by rfl) (na : starEach [.Call (.Name "range" p2) [a] [] pos2] X.env = (false, eval (.Call (.Name "range" p2) [a] [] pos2) X.env) :: starEach [] X.env := by rfl) :
    DE Z X (.Call (.Name "tuple" p) [.Call (.Name "range" p2) [a] [] pos2] [] pos) (dRg1 true da) := by
  refine PE.of (pe_tupRgK hc hg hm (prg_1 hg2 hm2 ha na2) na) fun σ H Q ⟨B0, H0, ρ, s, Qd, R, hd, hq⟩ => ?_
  refine ⟨B0, H0, ρ, s, _, R, hd, fun x s1 v H1 qx R1 g1 r1 => ?_⟩
  split at qx
  · rename_i j e1
    refine ⟨j, r1.vI e1, ⟨by omega, by omega, by omega, by omega, by omega⟩, fun q o hq1 tk => hq _ s1 _ _ qx.2.2 (R1.same (same_new hq1)) (g1.trans (Gr.of (same_new hq1))) (newT hq1 tk rg1)⟩
  · exact qx.elim
theorem de_listR2 {p2 pos2 : Pos} (hc : X.calm = true) (hg : Gl X "list") (hm : X.mg "list" = none) (hg2 : Gl X "range") (hm2 : X.mg "range" = none) (ha : DE Z X a da) (hb : DE Z X b db) (na2 : starEach [a, b] X.env = (false, eval a X.env) :: starEach [b] X.env := by rfl) (nb : starEach [b] X.env = (false, eval b X.env) :: starEach [] X.env := by rfl) (hp : (backTo pos2 (starEach [b] X.env)).any (·.1) = false := by rfl) (na : starEach [.Call (.Name "range" p2) [a, b] [] pos2] X.env = (false, eval (.Call (.Name "range" p2) [a, b] [] pos2) X.env) :: starEach [] X.env := by rfl) :
    DE Z X (.Call (.Name "list" p) [.Call (.Name "range" p2) [a, b] [] pos2] [] pos) (dRg2 false da db) := by
  refine PE.of (pe_listRg hc hg hm (prg_2 hg2 hm2 ha hb na2 nb hp) na) fun σ H Q ⟨B0, H0, ρ, s, Qd, R, hd, hq⟩ => ?_
  refine ⟨B0, H0, ρ, s, _, R, hd, fun x s1 v H1 qx R1 g1 r1 => ?_⟩
  refine ⟨B0, H0, ρ, s1, _, R1, qx, fun y s2 u H2 qy R2 g2 r2 => ?_⟩
  have r1 := r1.grow R1 g2
  split at qy
  · rename_i i j e1 e2
    refine ⟨i, j, r1.vI e1, r2.vI e2, ⟨by omega, by omega, by omega, by omega, by omega⟩, fun q hq1 => hq _ s2 _ _ qy.2.2 (R2.same (same_new hq1)) (g1.trans (g2.trans (Gr.of (same_new hq1)))) ((R2.newL hq1 rgV_im).back R2.ok (g1.trans g2))⟩
  · exact qy.elim
end
end Lf
namespace Lf
open PySem PySem.Spec PyProof.Rows L2
section
variable {Z : Zn} {X : Cx} {B0 : Addr → Prop} {H0 H H1 H2 : Hp} {ρ ρ1 ρ2 : List Sl} {s s1 s2 : Z.S} {σ : L2.St} {v u : V} {r x y : Rv} {e a b c tg : Expr} {es rest : List Expr} {de da db dc : DX Z} {dt du : DT Z} {das : DA Z} {pos p : Pos} {K : PySem.W.Frag} {B : Addr → Prop}
theorem dv (i : Nat) {n : Str} {pos : Pos} (hN : X.N[i]? = some n := by rfl) (hv : Vis X.env.scope n := by first | exact Or.inl rfl | exact Or.inr (Or.inl rfl) | exact Or.inr (Or.inr rfl)) (hd : (n == ("__debug__" : Str)) = false := by decide)
    (hcd : (n == ("__classdict__" : Str)) = false := by decide) : DE Z X (.Name n pos) (dVar i) := de_var hN hv hd hcd
theorem hu65 {k : Nat} {A : Around} (hr : Room k A) : A.units + 65 < cLine := by have := hr.un; omega
theorem hu200 {k : Nat} {A : Around} (hr : Room k A) : A.units + 200 < cLine := by have := hr.un; omega
/-! ### enumerate of a list or a tuple -/
theorem pi_enumQ {elts : List Expr} {kk : Nat} {tpos : Pos} {ta : TA} (hg : Gl X "enumerate") (hm : X.mg "enumerate" = none) (ha : PA X [e] ta) (hs : starEach [e] X.env = [(false, eval e X.env)] := by rfl) :
    PI X (.Tuple elts kk tpos) (.Call (.Name "enumerate" p) [e] [] pos) (fun σ H R => ta σ H fun vs H1 => ∃ a xs, vs = [.ref a] ∧ ((SqL X.K H1 a xs ∧ R (Ite X.K a) H1) ∨ (SqT X.K H1 a xs ∧ R (ItT X.K a) H1))) := by
  refine ⟨fun pins s σ H R I h => ?_⟩
  refine Call_ (ld_blt I hg hm boot_enumerate (PyProof.Rows.callWith_type1 (thn (ha.run pos pins s σ H _ I h) ?_) hs rfl))
  rintro us s1 ⟨vs, H1, I1, r1, a, xs, rfl, q⟩
  obtain ⟨u, rfl, r⟩ := vals1 r1
  cases (show u = Value.ref a from r)
  rcases q with ⟨hq, q⟩ | ⟨hq, q⟩
  · obtain ⟨its, rv, p', hz⟩ := I1.list hq
    refine call_enumerate_list p'.isList fun h' he hit hsz hk => wpAny_pyIter_enum he ?_
    have I2 : Inv X pins σ H1 { s1 with heap := h' } := I1.kept (t' := s1.toks) hk
    refine ⟨s1.heap.objs.size + 1, [s1.heap.objs.size + 1, s1.heap.objs.size], _, _, H1, rfl, I2, turn_enum a (s1.heap.objs.size + 1) s1.heap.objs.size, ⟨⟨.none, he⟩, hit, Nat.succ_ne_self _⟩, fun b hb => ?_, q⟩
    have e' : b = s1.heap.objs.size + 1 ∨ b = s1.heap.objs.size := by simpa using hb
    have hle : s1.heap.objs.size ≤ b := by
      rcases e' with z | z
      · rw [z]; exact Nat.le_add_right _ _
      · rw [z]; exact Nat.le_refl _
    exact I1.fpOk hle (I1.hok.fresh hle)
  · obtain ⟨its, rv, tp, hz⟩ := I1.tuple hq
    have isT : s1.heap.IsTuple a its.toArray := by
      obtain ⟨o, ho, ht, n, hd⟩ := tp
      exact ⟨o, ho, ht, n, hd⟩
    have al : a < s1.heap.objs.size := by
      obtain ⟨o, ho, _⟩ := tp
      exact Heap.lt_size ho
    refine enumMade (begins_tuple a its.toArray) isT ?_
    intro h1 isE isI kept
    refine wpAny_pyIter_enum isE ?_
    have I2 : Inv X pins σ H1 { s1 with heap := h1 } := I1.kept (t' := s1.toks) kept
    refine ⟨s1.heap.objs.size + 1, [s1.heap.objs.size + 1, s1.heap.objs.size], _, _, H1, rfl, I2, turnT a (s1.heap.objs.size + 1) s1.heap.objs.size, ⟨⟨.none, isE⟩, ⟨_, isI, rfl, rfl⟩, Nat.succ_ne_self _, Nat.ne_of_lt al, Nat.ne_of_gt (Nat.lt_succ_of_lt al)⟩, fun b hb => ?_, q⟩
    have le : s1.heap.objs.size ≤ b := by
      rcases List.mem_cons.mp hb with rfl | hb
      · exact Nat.le_succ _
      · rw [List.mem_singleton.mp hb]
        exact Nat.le_refl _
    exact I1.fpOk le (I1.hok.fresh le)
theorem it_enumL {P Bd : Addr → Prop} {a : Addr} {xs : List V} {l : List PyData} (h : H a = some (.lst xs)) (ha : P a) (im : ImAll Bd H xs l) : ItOk true P Bd (Ite K a) (enumD l) H := by
  intro Hk Bk k1 k2 k3 k4
  have h1 : SqL K Hk a xs := SqL.of (k1 a _ h ha)
  have im1 : ImAll Bk Hk xs l := im.mono k2 k3 k4
  refine ⟨fun i hi => ?_, fun i d x H' hd hy => ?_, ⟨xs, h1, by rw [enumD_len, im.length]; exact Nat.le_refl _⟩⟩
  · have hx : i < xs.length := by rw [im.length]; rw [enumD_len] at hi; exact hi
    exact ⟨xs, xs[i], h1, List.getElem?_eq_getElem hx⟩
  · obtain ⟨T, w, rfl, hT, rfl, hy⟩ := hy
    obtain ⟨z, hz, rfl⟩ := enumD_get hd
    obtain ⟨d', hd', iv⟩ := im1.gets (hy xs h1)
    rw [hz] at hd'
    cases hd'
    exact ⟨same_new hT, Iw.tup upd_same (.cons (.int _) (.cons (iv.same (same_new hT)) .nil))⟩
def dIEnQ (da : DA Z) : DI Z := fun s ρ Q => da s ρ fun rs s1 => match rs with
  | [.im (.tuple l)] => Q (enumD l) true s1
  | [.im (.list l)] => Q (enumD l) true s1
  | [.fr l] => Q (enumD l) true s1
  | [.bo l] => Q (enumD l) false s1
  | _ => False
theorem di_enumQ {elts : List Expr} {kk : Nat} {tpos : Pos} (hg : Gl X "enumerate") (hm : X.mg "enumerate" = none) (ha : DAs Z X [e] das) (hs : starEach [e] X.env = [(false, eval e X.env)] := by rfl) : DIs Z X (.Tuple elts kk tpos) (.Call (.Name "enumerate" p) [e] [] pos) (dIEnQ das) := by
  refine PI.of (pi_enumQ hg hm ha hs) fun σ H R ⟨B0, H0, ρ, s, Qd, R0, hd, hq⟩ => ?_
  refine ⟨B0, H0, ρ, s, _, R0, hd, fun rs s1 vs H1 qx R1 g1 r1 => ?_⟩
  split at qx
  · rename_i l
    obtain ⟨w, rfl, r2⟩ := r1.one
    obtain ⟨a, xs, rfl, h1, h2⟩ := RvR.tupH (r := .im (.tuple l)) r2 rfl
    refine ⟨a, xs, rfl, .inr ⟨?_, hq _ _ s1 _ H1 qx R1 g1 (it_enumT h1 h2)⟩⟩
    rcases h1 with h1 | ⟨o, h1⟩
    · exact SqT.of h1
    · exact .inl (.inr ⟨o, h1⟩)
  · rename_i l
    obtain ⟨w, rfl, r2⟩ := r1.one
    cases r2 with
    | lst h1 n h2 => exact ⟨_, _, rfl, .inl ⟨SqL.of h1, hq _ _ s1 _ H1 qx R1 g1 (it_enumL (P := keepP Z B0 ρ true) h1 n h2)⟩⟩
  · rename_i l
    obtain ⟨w, rfl, r2⟩ := r1.one
    obtain ⟨p, xs, rfl, h1, h2, h3, h4⟩ := r2
    exact ⟨p, xs, rfl, .inl ⟨SqL.of h3, hq _ _ s1 _ H1 qx R1 g1 (it_enumL (P := keepP Z B0 ρ true) h3 (fun z => R0.bad z h1) (h4.bad fun a z => .inl z))⟩⟩
  · rename_i l
    obtain ⟨w, rfl, r2⟩ := r1.one
    obtain ⟨a, xs, h1, rfl, h3, h4⟩ := r2
    exact ⟨a, xs, rfl, .inl ⟨SqL.of h3, hq _ _ s1 _ H1 qx R1 g1 (it_enumL (P := keepP Z B0 ρ false) h3 (R1.fr a h1).2.1 h4)⟩⟩
  · exact qx.elim
/-! ### ys.append(xs.pop(k)) -/
def dAppPop (i j : Nat) (da : DA Z) : DSt Z := fun De s ρ => match ρ[i]?, ρ[j]? with
  | some (.ow q l), some (.ow q' m) => i ≠ j ∧ da s ρ fun rs s1 => mPopAt m rs fun d m' => l.length < 1000000 ∧ De.nx s1 ((ρ.set j (.ow q' m')).set i (.ow q (l ++ [d])))
  | _, _ => False
theorem ds_appPop {i j : Nat} {n n2 : Str} {np np2 ap ap2 cp cp2 : Pos} (hN : X.N[i]? = some n) (hv : Vis X.env.scope n) (hN2 : X.N[j]? = some n2) (hv2 : Vis X.env.scope n2) (ha : DAs Z X [e] das)
    (hd : (n == ("__debug__" : Str)) = false := by decide) (hcd : (n == ("__classdict__" : Str)) = false := by decide) (hd2 : (n2 == ("__debug__" : Str)) = false := by decide) (hcd2 : (n2 == ("__classdict__" : Str)) = false := by decide)
    (hbase : attributeBase (.Name n np) "append" X.env (eval (.Name n np) X.env) = eval (.Name n np) X.env := by rfl) (hbase2 : attributeBase (.Name n2 np2) "pop" X.env (eval (.Name n2 np2) X.env) = eval (.Name n2 np2) X.env := by rfl)
    (hfew2 : ((backTo cp2 (starEach [e] X.env)).all (fun x => !x.1) && (backToKw cp2 (keywordEach [] X.env)).all (fun x => x.1.isSome) && decide ([e].length + ([] : List Keyword).length + (if ([] : List Keyword).isEmpty then 0 else 1) < 30)) = true := by rfl)
    (hfew : ((backTo cp (starEach [.Call (.Attribute (.Name n2 np2) "pop" ap2) [e] [] cp2] X.env)).all (fun x => !x.1) && (backToKw cp (keywordEach [] X.env)).all (fun x => x.1.isSome) && decide ([Expr.Call (.Attribute (.Name n2 np2) "pop" ap2) [e] [] cp2].length + ([] : List Keyword).length + (if ([] : List Keyword).isEmpty then 0 else 1) < 30)) = true := by rfl)
    (hline : (ap.endLine == cp.line) = true := by rfl) (hline2 : (ap2.endLine == cp2.line) = true := by rfl) (hs2 : starEach [e] X.env = (false, eval e X.env) :: starEach [] X.env := by rfl) (hs : starEach [.Call (.Attribute (.Name n2 np2) "pop" ap2) [e] [] cp2] X.env = (false, eval (.Call (.Attribute (.Name n2 np2) "pop" ap2) [e] [] cp2) X.env) :: starEach [] X.env := by rfl)
    (hp : (backTo cp (starEach [] X.env)).any (·.1) = false := by rfl) (hp2 : (backTo cp2 (starEach [] X.env)).any (·.1) = false := by rfl) (hsw : swapsWith (.Call (.Attribute (.Name n np) "append" ap) [.Call (.Attribute (.Name n2 np2) "pop" ap2) [e] [] cp2] [] cp) none pos.line X.env = pure false := by rfl) :
    DS Z X (.Expr (.Call (.Attribute (.Name n np) "append" ap) [.Call (.Attribute (.Name n2 np2) "pop" ap2) [e] [] cp2] [] cp) pos) (dAppPop i j das) := by
  refine PS.of (ps_expr (pe_bm PySem.F.plainAttrs_list PySem.F.slot_list_append PySem.F.type_list_append mt_append (pe_var hN hv hd hcd) (pa_cons (pe_bm PySem.F.plainAttrs_list PySem.F.slot_list_pop PySem.F.type_list_pop mt_popAt (pe_var hN2 hv2 hd2 hcd2) ha hbase2 hfew2 hline2 hs2 hp2) pa_nil hs) hbase hfew hline hs hp) hsw) fun D σ H ⟨B0, H0, ρ, s, De, R, hd, hn, _⟩ => ?_
  unfold dAppPop at hd
  split at hd
  · rename_i q l q' m e1 e2
    obtain ⟨hij, hd⟩ := hd
    obtain ⟨o, s0, rfl, xs, hq, im⟩ := R.sl i _ e1
    obtain ⟨o', s0', rfl, ys, hq', im'⟩ := R.sl j _ e2
    refine ⟨.ref q, s0, .inl ⟨rfl, xs, SqL.of hq⟩, .ref q', s0', .inl ⟨rfl, ys, SqL.of hq'⟩, B0, H0, ρ, s, _, R, hd, fun rs s1 vs H1 qx R1 g1 r1 => ?_⟩
    have hq1' := g1 q' _ hq' (R.fr q' (own_mem e2)).2.1
    refine m2_popAt Z B0 ρ s s1 H0 σ H H1 q' ys vs m rs _ _ R R1 hq1' (im'.grow badZ R.ok g1) r1 qx fun d v' m' ys' qd hv hx => ?_
    obtain ⟨hl, qn⟩ := qd
    have R2 := R1.mutL (l' := m') e2 hx
    have e1' : (ρ.set j (.ow q' m'))[i]? = some (.ow q l) := by rw [List.getElem?_set_ne (Ne.symm hij)]; exact e1
    obtain ⟨_, s02, z, xs2, hq2, im2⟩ := R2.sl i _ e1'
    have mq' := own_mem e2
    obtain ⟨_, _, _, ys0, hq0, _⟩ := R1.sl j _ e2
    have iv : Im (Bad Z B0 (ρ.set j (.ow q' m'))) (upd H1 q' (.lst ys')) v' d := hv.mono (fun b o e n => ⟨by rw [upd_ne (fun z => n (by rw [z]; exact .inr (.inr mq')))]; exact e, fun z => n (by unfold Bad at z ⊢; rw [own_set_same e2] at z; exact z)⟩) (fun b ys e => by rw [upd_ne (fun z => by rw [z, hq0] at e; cases e)]; exact e) (fun b o u e => by rw [upd_ne (fun z => by rw [z, hq0] at e; cases e)]; exact e)
    refine ⟨q, xs2, v', rfl, rfl, hq2, by rw [im2.length]; exact smL hl, ?_⟩
    exact hn s1 _ σ _ qn (R2.mutL e1' (im2.snoc iv)) (((g1.stp R).trans R1 (mut_stp R1 e2)).trans R2 (mut_stp R2 e1'))
  · exact hd.elim
/-! ### {} and a module's numbers -/
def dEmp : DX Z := fun s _ Q => Q (.im (.dict [])) s
theorem de_emp : DE Z X (.Dict [] [] pos) dEmp := by
  refine PE.of pe_dnewK fun σ H Q ⟨B0, H0, ρ, s, Qd, R, hd, hq⟩ => ?_
  exact fun d hd1 => hq _ s _ _ hd (R.same (same_new hd1)) (Gr.of (same_new hd1)) (Im.dct upd_same (fun z => R.bad z hd1) .nil)
theorem de_gi {n : Str} {i : Int} {t : Tok} (hg : Gl X n) (hm : X.mg n = some (.int i t)) (hd : (n == ("__debug__" : Str)) = false := by decide) : DE Z X (.Name n pos) (dC (.int i)) := de_c (pe_glob (v := .int i) hg hm ⟨t, rfl⟩ hd) fun _ _ => .int i
/-! ### comprehensions -/
theorem lcR_fun {g : DG Z} {tt : DT Z} {te : DX Z} {f : PyData → Option PyData} {s : Z.S} {Q : List PyData → Z.S → Prop} : ∀ {items acc : List PyData}, (∀ d ∈ items, ∀ C : Option PyData → Z.S → Prop, C (f d) s → g d ρ fun ρ' => tt s ρ' fun b s1 => if b = true then te s1 ρ' fun r s2 => ∃ x, r.st = some x ∧ C (some x) s2 else C none s1) → acc.length + items.length ≤ 1000000 → Q (acc ++ items.filterMap f) s → lcR g tt te ρ items s acc Q
  | [], acc, _, _, q => by
    rw [List.filterMap_nil, List.append_nil] at q
    exact q
  | d :: ds, acc, h, hl, q => by
    rw [List.length_cons] at hl
    refine h d List.mem_cons_self (fun o s1 => match o with
      | some x => acc.length < 1000000 ∧ lcR g tt te ρ ds s1 (acc ++ [x]) Q
      | none => lcR g tt te ρ ds s1 acc Q) ?_
    have h2 : ∀ d' ∈ ds, ∀ C : Option PyData → Z.S → Prop, C (f d') s → g d' ρ fun ρ' => tt s ρ' fun b s1 => if b = true then te s1 ρ' fun r s2 => ∃ x, r.st = some x ∧ C (some x) s2 else C none s1 := fun d' hd' => h d' (List.mem_cons_of_mem _ hd')
    cases e : f d with
    | none =>
      rw [List.filterMap_cons_none e] at q
      exact lcR_fun h2 (by omega) q
    | some x =>
      rw [List.filterMap_cons_some e] at q
      refine ⟨by omega, lcR_fun h2 (by rw [List.length_append]; show acc.length + 1 + ds.length ≤ 1000000; omega) ?_⟩
      rw [List.append_assoc]
      exact q
theorem lcR_inv {g : DG Z} {tt : DT Z} {te : DX Z} {Q : List PyData → Z.S → Prop} (I : Nat → Z.S → List PyData → Prop) : ∀ {items : List PyData} {k : Nat} {s : Z.S} {acc : List PyData}, (∀ (j : Nat) (d : PyData) (s : Z.S) (acc : List PyData), items[j]? = some d → I (k + j) s acc → g d ρ fun ρ' => tt s ρ' fun b s1 => if b = true then te s1 ρ' fun r s2 => ∃ x, r.st = some x ∧ acc.length < 1000000 ∧ I (k + j + 1) s2 (acc ++ [x]) else I (k + j + 1) s1 acc) → I k s acc →
    (∀ s acc, I (k + items.length) s acc → Q acc s) → (∀ d ∈ items, True) → (∀ {G G' : List Sl → Prop} {d : PyData}, (∀ x, G x → G' x) → g d ρ G → g d ρ G') → (∀ {s : Z.S} {ρ' : List Sl} {G G' : Bool → Z.S → Prop}, (∀ b s, G b s → G' b s) → tt s ρ' G → tt s ρ' G') → (∀ {s : Z.S} {ρ' : List Sl} {G G' : Rv → Z.S → Prop}, (∀ b s, G b s → G' b s) → te s ρ' G → te s ρ' G') → lcR g tt te ρ items s acc Q
  | [], k, s, acc, _, i, q, _, _, _, _ => q s acc i
  | d :: ds, k, s, acc, h, i, q, _, mg, mt, me => by
    have h0 := h 0 d s acc rfl i
    refine mg (fun ρ' z => mt (fun b s1 z => ?_) z) h0
    have go : ∀ s2 acc2, I (k + 0 + 1) s2 acc2 → lcR g tt te ρ ds s2 acc2 Q := fun s2 acc2 i2 => lcR_inv I (k := k + 1) (fun j d' s' acc' hd' i' => by
      have := h (j + 1) d' s' acc' hd' (by rw [show k + (j + 1) = k + 1 + j from by omega]; exact i')
      rw [show k + (j + 1) = k + 1 + j from by omega] at this
      exact this) i2 (fun s' acc' i' => q s' acc' (by rw [List.length_cons, show k + (ds.length + 1) = k + 1 + ds.length from by omega]; exact i')) (fun _ _ => trivial) mg mt me
    cases b with
    | true =>
      exact me (fun r s2 z => by
        obtain ⟨x, h1, h2, h3⟩ := z
        exact ⟨x, h1, h2, go s2 _ h3⟩) z
    | false => exact go s1 acc z
end
end Lf
namespace Lf
open PySem PySem.Spec PyProof.Rows L2
section
variable {Z : Zn} {X : Cx} {st : Stmt}
def dNever : DSt Z := fun _ _ _ => False
theorem ds_never : DS Z X st dNever := PS.of ps_never fun D σ H ⟨_, _, _, _, _, _, hd, _⟩ => hd
end
/-! ### numbers as data -/
abbrev tupN (l : List Nat) : PyData := .tuple (nD l)
theorem nD_len (l : List Nat) : (nD l).length = l.length := List.length_map ..
theorem nD_app (l m : List Nat) : nD (l ++ m) = nD l ++ nD m := List.map_append ..
theorem nD_set (l : List Nat) (i x : Nat) : nD (l.set i x) = (nD l).set i (.int (x : Nat)) := List.map_set ..
theorem nD_rep (n x : Nat) : nD (List.replicate n x) = List.replicate n (.int (x : Nat)) := List.map_replicate ..
theorem nD_get {l : List Nat} {v : Nat} (h : v < l.length) : (nD l)[v]? = some (.int ((l.getD v 0 : Nat))) := by
  unfold nD
  rw [List.getElem?_map, List.getD_eq_getElem?_getD, List.getElem?_eq_getElem h]
  rfl
theorem nD_some {l : List Nat} {i : Nat} {d : PyData} (h : (nD l)[i]? = some d) : ∃ x, l[i]? = some x ∧ d = .int (x : Nat) := by
  unfold nD at h
  rw [List.getElem?_map] at h
  cases e : l[i]? with
  | none => rw [e] at h; cases h
  | some x => rw [e] at h; exact ⟨x, rfl, (Option.some.inj h).symm⟩
theorem nD_at {l : List Nat} {v : Nat} (h : v < l.length) : atI (nD l) ((v : Nat) : Int) = some (.int ((l.getD v 0 : Nat))) := atI_nat (nD_get h)
theorem nD_last (l : List Nat) (x : Nat) : atI (nD (l ++ [x])) (-1) = some (.int (x : Nat)) := by
  rw [nD_app]
  exact atI_last _ _
theorem nD_ix {l : List Nat} {v : Nat} (h : v < l.length) : ixN (nD l).length ((v : Nat) : Int) = some v := by
  unfold ixN
  rw [nD_len, if_pos (by omega), if_pos (by omega), Int.toNat_natCast]
theorem noL_nD : ∀ l : List Nat, noLs (nD l) = true
  | [] => rfl
  | _ :: l => by
    show (true && noLs (nD l)) = true
    rw [noL_nD l]
    rfl
theorem nD_I (l : List Nat) : nD l = (l.map fun x => ((x : Nat) : Int)).map PyData.int := by
  unfold nD
  rw [List.map_map]
  rfl
theorem lay_nD (l : List Nat) : PyData.canLayAll0 (nD l) = true := layRow l
theorem sh_nD (l : List Nat) : SeqAt.shaped (.list (nD l)) = true := by rw [nD_I]; exact shInts _
theorem sh_tupN (l : List Nat) : SeqAt.shaped (tupN l) = true := shRow l
theorem eqv_int (i j : Int) : PyData.eqv (.int i) (.int j) = decide (i = j) := by
  show (i == j) = _
  rw [Bool.eq_iff_iff]; simp
theorem any_nD (x : Nat) : ∀ l : List Nat, ((nD l).any fun z => PyData.eqv z (.int (x : Nat))) = decide (x ∈ l)
  | [] => rfl
  | y :: l => by
    show (PyData.eqv (.int (y : Nat)) (.int (x : Nat)) || ((nD l).any fun z => PyData.eqv z (.int (x : Nat)))) = _
    rw [any_nD x l, eqv_int]
    by_cases h : x = y
    · subst h; simp
    · have : ¬ ((y : Nat) : Int) = (x : Nat) := by omega
      rw [decide_eq_false this, Bool.false_or]
      exact decide_eq_decide.mpr (by simp [h])
theorem rng_nD (n : Nat) : rngD 0 n = nD (List.range n) := by
  unfold rngD nD
  refine List.map_congr_left fun k _ => ?_
  rw [Int.zero_add]
theorem flat_rep (n : Nat) (x : PyData) : (List.replicate n [x]).flatten = List.replicate n x := by
  induction n with
  | zero => rfl
  | succ n ih => rw [List.replicate_succ, List.flatten_cons, ih, List.replicate_succ]; rfl
/-! ### comprehensions over numbers -/
section
variable {Z : Zn} {ρ : List Sl} {s : Z.S}
theorem lcR_map {α : Type} {h : α → PyData} {f : α → Option PyData} {g : DG Z} {tt : DT Z} {te : DX Z} {Q : List PyData → Z.S → Prop} : ∀ {l : List α} {acc : List PyData}, (∀ a ∈ l, ∀ C : Option PyData → Z.S → Prop, C (f a) s → g (h a) ρ fun ρ' => tt s ρ' fun b s1 => if b = true then te s1 ρ' fun r s2 => ∃ x, r.st = some x ∧ C (some x) s2 else C none s1) → acc.length + l.length ≤ 1000000 → Q (acc ++ l.filterMap f) s → lcR g tt te ρ (l.map h) s acc Q
  | [], acc, _, _, q => by
    rw [List.filterMap_nil, List.append_nil] at q
    exact q
  | d :: ds, acc, hs, hl, q => by
    rw [List.length_cons] at hl
    refine hs d List.mem_cons_self (fun o s1 => match o with
      | some x => acc.length < 1000000 ∧ lcR g tt te ρ (ds.map h) s1 (acc ++ [x]) Q
      | none => lcR g tt te ρ (ds.map h) s1 acc Q) ?_
    have h2 := fun a (ha : a ∈ ds) => hs a (List.mem_cons_of_mem _ ha)
    cases e : f d with
    | none =>
      rw [List.filterMap_cons_none e] at q
      exact lcR_map h2 (by omega) q
    | some x =>
      rw [List.filterMap_cons_some e] at q
      refine ⟨by omega, lcR_map h2 (by rw [List.length_append]; show acc.length + 1 + ds.length ≤ 1000000; omega) ?_⟩
      rw [List.append_assoc]
      exact q
theorem lcR_rng {f : Nat → Option PyData} {g : DG Z} {tt : DT Z} {te : DX Z} {Q : List PyData → Z.S → Prop} {n : Nat} (hs : ∀ k, k < n → ∀ C : Option PyData → Z.S → Prop, C (f k) s → g (.int (k : Nat)) ρ fun ρ' => tt s ρ' fun b s1 => if b = true then te s1 ρ' fun r s2 => ∃ x, r.st = some x ∧ C (some x) s2 else C none s1) (hn : n ≤ 1000000) (q : Q ((List.range n).filterMap f) s) : lcR g tt te ρ (rngD 0 n) s [] Q := by
  rw [rng_nD]
  exact lcR_map (fun a ha => hs a (List.mem_range.mp ha)) (by rw [List.length_range]; show 0 + n ≤ 1000000; omega) q
theorem lcR_nD {f : Nat → Option PyData} {g : DG Z} {tt : DT Z} {te : DX Z} {Q : List PyData → Z.S → Prop} {l : List Nat} (hs : ∀ k ∈ l, ∀ C : Option PyData → Z.S → Prop, C (f k) s → g (.int (k : Nat)) ρ fun ρ' => tt s ρ' fun b s1 => if b = true then te s1 ρ' fun r s2 => ∃ x, r.st = some x ∧ C (some x) s2 else C none s1) (hn : l.length ≤ 1000000) (q : Q (l.filterMap f) s) : lcR g tt te ρ (nD l) s [] Q := lcR_map hs (by show 0 + _ ≤ _; omega) q
end
theorem fm_some {α β : Type} (f : α → β) (l : List α) : l.filterMap (fun a => some (f a)) = l.map f := by rw [← List.filterMap_eq_map]; rfl
theorem fm_if {α β : Type} (p : α → Bool) (f : α → β) (l : List α) : l.filterMap (fun a => if p a = true then some (f a) else none) = (l.filter p).map f := by
  induction l with
  | nil => rfl
  | cons a l ih =>
    by_cases h : p a = true
    · rw [List.filterMap_cons_some (b := f a) (by rw [if_pos h]), List.filter_cons_of_pos h, List.map_cons, ih]
    · rw [List.filterMap_cons_none (by rw [if_neg h]), List.filter_cons_of_neg h, ih]
theorem enum_nD (l : List Nat) : enumD (nD l) = (List.range l.length).map fun k => .tuple [.int (k : Nat), .int (l.getD k 0 : Nat)] := by
  unfold enumD
  rw [nD_len]
  refine List.map_congr_left fun k hk => ?_
  rw [List.getD_eq_getElem?_getD (l := nD l), nD_get (List.mem_range.mp hk)]
  rfl
/-! ### the way up -/
def wayN : Nat → List Nat → Nat → List Nat
  | 0, _, v => [v]
  | n + 1, fs, v => if par fs v = v then [v] else v :: wayN n fs (par fs v)
def way (fs : List Nat) (v : Nat) : List Nat := wayN fs.length fs v
theorem wayN_pth {fs : List Nat} : ∀ {n k v : Nat}, Rch fs k v → k ≤ n → Pth fs v (wayN n fs v)
  | n, _, v, .root h, _ => by
    cases n with
    | zero => exact .root h
    | succ n =>
      unfold wayN
      rw [if_pos h]
      exact .root h
  | 0, _, v, .step _ _, h => absurd h (Nat.not_succ_le_zero _)
  | n + 1, _, v, .step ne r, h => by
    unfold wayN
    rw [if_neg ne]
    exact .step ne (wayN_pth r (Nat.le_of_succ_le_succ h))
theorem way_pth {fs : List Nat} (F : Forest fs) {v : Nat} (hv : v < fs.length) : Pth fs v (way fs v) := by
  obtain ⟨l, p, nd, le, _, r, pos⟩ := F.path hv
  exact wayN_pth r (by omega)
theorem way_len {fs : List Nat} (F : Forest fs) {v : Nat} (hv : v < fs.length) : 0 < (way fs v).length ∧ (way fs v).length ≤ fs.length := by
  obtain ⟨l, p, nd, le, _, r, pos⟩ := F.path hv
  rw [(way_pth F hv).inj p]
  exact ⟨pos, le⟩
theorem way_lt {fs : List Nat} (F : Forest fs) {v : Nat} (hv : v < fs.length) : ∀ x ∈ way fs v, x < fs.length := by
  obtain ⟨l, p, nd, le, h, r, pos⟩ := F.path hv
  rw [(way_pth F hv).inj p]
  exact h
end Lf
namespace Lf
open PySem PySem.Spec PyProof.Rows L2
/-! ### all(xs), any(xs) of bools; x in range(n), x not in range(n) -/
section
variable {Z : Zn} {X : Cx} {B0 : Addr → Prop} {H0 H H1 H2 : Hp} {ρ ρ1 ρ2 : List Sl} {s s1 s2 : Z.S} {σ : L2.St} {v u : V} {r x y : Rv} {e a b c tg : Expr} {es rest : List Expr} {de da db dc : DX Z} {dt du : DT Z} {das : DA Z} {pos p : Pos} {K : PySem.W.Frag} {B : Addr → Prop}
theorem bls_of : ∀ {xs : List V} {bs : List Bool}, ImAll B H xs (bs.map .bool) → xs = bs.map V.bl
  | [], [], _ => rfl
  | _, b :: bs, .cons h q => by
    cases h
    rw [List.map_cons, ← bls_of q]
def opAll : Cb := fun rs Q => match rs with
  | [x] => match x.D with
    | some (.list l) => ∃ bs : List Bool, l = bs.map .bool ∧ Q (.im (.bool (bs.all id)))
    | _ => False
  | _ => False
def opAny : Cb := fun rs Q => match rs with
  | [x] => match x.D with
    | some (.list l) => ∃ bs : List Bool, l = bs.map .bool ∧ Q (.im (.bool (bs.any id)))
    | _ => False
  | _ => False
theorem de_all (hc : X.calm = true) (hg : Gl X "all") (hm : X.mg "all" = none) (ha : DAs Z X (e :: es) das) (he : starEach (e :: es) X.env = (false, eval e X.env) :: starEach es X.env := by rfl) (hpl : (backTo pos (starEach es X.env)).any (·.1) = false := by rfl) : DE Z X (.Call (.Name "all" p) (e :: es) [] pos) (dCB opAll das) := by
  refine PE.of (pe_callB (cr_all hc) hg hm (by decide +kernel) ha (by decide) (by decide) he hpl) fun σ H Q h => lift_cb ?_ h
  intro Z B0 ρ s H0 σ Ha H vs xs Qd Q R rr q k
  unfold opAll at q
  split at q
  · obtain ⟨v, rfl, r1⟩ := rr.one
    split at q
    · rename_i l e1
      obtain ⟨bs, rfl, q⟩ := q
      obtain ⟨a, ys, rfl, h1, h2⟩ := r1.lst e1
      rw [bls_of h2] at h1
      exact ⟨a, bs, rfl, SqL.of h1, k _ _ _ q (Same.refl H) (Im.bl _)⟩
    · exact q.elim
  · exact q.elim
theorem de_any (hc : X.calm = true) (hg : Gl X "any") (hm : X.mg "any" = none) (ha : DAs Z X (e :: es) das) (he : starEach (e :: es) X.env = (false, eval e X.env) :: starEach es X.env := by rfl) (hpl : (backTo pos (starEach es X.env)).any (·.1) = false := by rfl) : DE Z X (.Call (.Name "any" p) (e :: es) [] pos) (dCB opAny das) := by
  refine PE.of (pe_callB (cr_any hc) hg hm (by decide +kernel) ha (by decide) (by decide) he hpl) fun σ H Q h => lift_cb ?_ h
  intro Z B0 ρ s H0 σ Ha H vs xs Qd Q R rr q k
  unfold opAny at q
  split at q
  · obtain ⟨v, rfl, r1⟩ := rr.one
    split at q
    · rename_i l e1
      obtain ⟨bs, rfl, q⟩ := q
      obtain ⟨a, ys, rfl, h1, h2⟩ := r1.lst e1
      rw [bls_of h2] at h1
      exact ⟨a, bs, rfl, SqL.of h1, k _ _ _ q (Same.refl H) (Im.bl _)⟩
    · exact q.elim
  · exact q.elim
theorem cr_range1 : CallR X (.type "range") (fun vs H Q => ∃ j, vs = [V.int j] ∧ ∀ p, H p = none → Q (.ref p) (upd H p (.rng 0 j))) := by
  intro pins s σ H vs us Q I r h
  obtain ⟨j, rfl, q⟩ := h
  obtain ⟨u1, rfl, rj⟩ := vals1 r
  obtain ⟨u, rfl⟩ := rj
  refine call_range_1 ⟨.ref s.heap.objs.size, upd H s.heap.objs.size (.rng 0 j), I.laid (t' := s.toks + 1 + 1) (fun b o e => Heap.get?_push_of_some _ e) (Nat.le_refl _) ?_, rfl, q _ (I.hok.fresh (Nat.le_refl _))⟩
  exact ⟨s.toks, u, s.toks + 1, Heap.get?_push_size _ rfl⟩
theorem op_notin_rng : OpR X (compareOp .NotIn) (fun x y H Q => ∃ i a lo hi, x = V.int i ∧ y = V.ref a ∧ H a = some (.rng lo hi) ∧ Q (.bl (!decide (lo ≤ i ∧ i < hi))) H) := by
  intro pins s σ H x y v u Q I rx ry h
  obtain ⟨i, a, lo, hi, rfl, rfl, ha, q⟩ := h
  obtain ⟨k, rfl⟩ := rx
  obtain rfl : u = Value.ref a := ry
  obtain ⟨t1, t2, t3, ho⟩ := I.hok a _ ha
  show wpAny _ _ (do return Value.bool (!(← contains (Value.ref a) (Value.int i k)))) _ _ s
  refine wpAny_bind (wpAny_contains_slot (T := "range") ⟨_, ho, rfl⟩ F.slot_range_contains (call_meets F.slot_range_contains ⟨_, ho, rfl⟩ F.entry_range_contains (F.args_range_contains_2 _ _) (q_contains a lo hi i t1 t2 t3 k)
    ⟨ho, wpAny_truthy_bool (wpAny_pure ⟨.bl _, H, I, rfl, ?_⟩)⟩))
  rw [place1]
  exact q
def opInR (neg : Bool) : Op := fun x y Q => match x.D, y.D with
  | some (.int i), some (.int j) => Q (.im (.bool (neg != decide (0 ≤ i ∧ i < j))))
  | _, _ => False
theorem lift_inR {neg : Bool} {rr : R2} (h2 : ∀ (H : Hp) (i j : Int) (a : Addr) (Q : VK), H a = some (.rng 0 j) → Q (.bl (neg != decide (0 ≤ i ∧ i < j))) H → rr (.int i) (.ref a) H Q) {σ : L2.St} {H : Hp} {Q : VK} (h : liftE Z (dBin (opInR neg) da db) σ H Q) :
    tOp rr (liftE Z da) (tCB (fun vs H Q => ∃ j, vs = [V.int j] ∧ ∀ p, H p = none → Q (.ref p) (upd H p (.rng 0 j))) (tCons (liftE Z db) tNil)) σ H Q := by
  obtain ⟨B0, H0, ρ, s, Qd, R, hd, hq⟩ := h
  refine ⟨B0, H0, ρ, s, _, R, hd, fun x s1 v H1 qx R1 g1 r1 => ?_⟩
  refine ⟨B0, H0, ρ, s1, _, R1, qx, fun y s2 u H2 qy R2 g2 r2 => ?_⟩
  have r1 := r1.grow R1 g2
  unfold opInR at qy
  split at qy
  · rename_i i j e1 e2
    refine ⟨j, by rw [r2.vI e2], fun p hp => ?_⟩
    rw [r1.vI e1]
    exact h2 _ i j p Q upd_same (hq _ s2 _ _ qy (R2.same (same_new hp)) (g1.trans (g2.trans (Gr.of (same_new hp)))) (Im.bl _))
  · exact qy.elim
theorem de_notinR {p2 pos2 : Pos} (hg : Gl X "range") (hmg : X.mg "range" = none) (ha : DE Z X a da) (hb : DE Z X b db) (hs : starEach [b] X.env = (false, eval b X.env) :: starEach [] X.env := by rfl) (hpl : (backTo pos2 (starEach [] X.env)).any (·.1) = false := by rfl)
    (hm : behindInMarks .NotIn (.Call (.Name "range" p2) [b] [] pos2) = false := by rfl) : DE Z X (.Compare a [.NotIn] [.Call (.Name "range" p2) [b] [] pos2] pos) (dBin (opInR true) da db) := by
  refine PE.of (pe_cmpR op_notin_rng ha (pe_callTy cr_range1 hg hmg (by decide +kernel) (pa_cons hb pa_nil hs) (by decide) (by decide) hs hpl) hm) fun σ H Q h => lift_inR (fun H i j a Q h1 q => ⟨i, a, 0, j, rfl, rfl, h1, by rw [Bool.true_bne] at q; exact q⟩) h
theorem de_inR {p2 pos2 : Pos} (hg : Gl X "range") (hmg : X.mg "range" = none) (ha : DE Z X a da) (hb : DE Z X b db) (hs : starEach [b] X.env = (false, eval b X.env) :: starEach [] X.env := by rfl) (hpl : (backTo pos2 (starEach [] X.env)).any (·.1) = false := by rfl)
    (hm : behindInMarks .In (.Call (.Name "range" p2) [b] [] pos2) = false := by rfl) : DE Z X (.Compare a [.In] [.Call (.Name "range" p2) [b] [] pos2] pos) (dBin (opInR false) da db) := by
  refine PE.of (pe_cmpR op_in_rng ha (pe_callTy cr_range1 hg hmg (by decide +kernel) (pa_cons hb pa_nil hs) (by decide) (by decide) hs hpl) hm) fun σ H Q h => lift_inR (fun H i j a Q h1 q => ⟨i, a, 0, j, rfl, rfl, h1, by rw [Bool.false_bne] at q; exact q⟩) h
theorem dt_notinR {p2 pos2 : Pos} (hg : Gl X "range") (hmg : X.mg "range" = none) (ha : DE Z X a da) (hb : DE Z X b db) (hs : starEach [b] X.env = (false, eval b X.env) :: starEach [] X.env := by rfl) (hpl : (backTo pos2 (starEach [] X.env)).any (·.1) = false := by rfl)
    (hm : behindInMarks .NotIn (.Call (.Name "range" p2) [b] [] pos2) = false := by rfl) : DTs Z X (.Compare a [.NotIn] [.Call (.Name "range" p2) [b] [] pos2] pos) (dTst (dBin (opInR true) da db)) := by
  refine PT.of (pt_cmpR op_notin_rng ha (pe_callTy cr_range1 hg hmg (by decide +kernel) (pa_cons hb pa_nil hs) (by decide) (by decide) hs hpl) hm) fun σ H Q h => ?_
  obtain ⟨B0, H0, ρ, s, Qd, R, hd, hq⟩ := lift_tst h
  exact lift_inR (fun H i j a Q h1 q => ⟨i, a, 0, j, rfl, rfl, h1, by rw [Bool.true_bne] at q; exact q⟩) ⟨B0, H0, ρ, s, Qd, R, hd, hq⟩
theorem dt_inR {p2 pos2 : Pos} (hg : Gl X "range") (hmg : X.mg "range" = none) (ha : DE Z X a da) (hb : DE Z X b db) (hs : starEach [b] X.env = (false, eval b X.env) :: starEach [] X.env := by rfl) (hpl : (backTo pos2 (starEach [] X.env)).any (·.1) = false := by rfl)
    (hm : behindInMarks .In (.Call (.Name "range" p2) [b] [] pos2) = false := by rfl) : DTs Z X (.Compare a [.In] [.Call (.Name "range" p2) [b] [] pos2] pos) (dTst (dBin (opInR false) da db)) := by
  refine PT.of (pt_cmpR op_in_rng ha (pe_callTy cr_range1 hg hmg (by decide +kernel) (pa_cons hb pa_nil hs) (by decide) (by decide) hs hpl) hm) fun σ H Q h => ?_
  obtain ⟨B0, H0, ρ, s, Qd, R, hd, hq⟩ := lift_tst h
  exact lift_inR (fun H i j a Q h1 q => ⟨i, a, 0, j, rfl, rfl, h1, by rw [Bool.false_bne] at q; exact q⟩) ⟨B0, H0, ρ, s, Qd, R, hd, hq⟩
end
end Lf
namespace Lf
open PySem PySem.Spec PyProof.Rows L2
/-! ### sizes of what repr shows -/
structure Sw (k m : Nat) (d : PyData) : Prop where
  shows : d.showable = true
  deep : d.depth ≤ k
  short : d.shown.length ≤ m
theorem Sw.mono {k m k' m' : Nat} {d : PyData} (h : Sw k m d) (a : k ≤ k') (b : m ≤ m') : Sw k' m' d := ⟨h.shows, Nat.le_trans h.deep a, Nat.le_trans h.short b⟩
theorem Sw.all {k m : Nat} : ∀ {ds : List PyData}, (∀ d ∈ ds, Sw k m d) → PyData.showableAll ds = true ∧ PyData.depthAll ds ≤ k ∧ ((PyData.shownAll ds).map (·.length)).sum ≤ m * ds.length ∧ (PyData.shownAll ds).length = ds.length
  | [], _ => ⟨rfl, Nat.zero_le _, Nat.zero_le _, rfl⟩
  | d :: ds, h => by
    obtain ⟨h1, h2, h3, h4⟩ := Sw.all (ds := ds) fun y hy => h y (List.mem_cons_of_mem _ hy)
    have g := h d List.mem_cons_self
    refine ⟨?_, ?_, ?_, ?_⟩
    · show (PyData.showable d && PyData.showableAll ds) = true
      rw [g.shows, h1]
      rfl
    · show max (PyData.depth d) (PyData.depthAll ds) ≤ k
      exact Nat.max_le.mpr ⟨g.deep, h2⟩
    · show (PyData.shown d).length + ((PyData.shownAll ds).map (·.length)).sum ≤ m * (ds.length + 1)
      have := g.short
      rw [Nat.mul_succ]
      omega
    · show (PyData.shownAll ds).length + 1 = ds.length + 1
      rw [h4]
theorem Sw.tup {k m n : Nat} {ds : List PyData} (h : ∀ d ∈ ds, Sw k m d) (hn : ds.length ≤ n) : Sw (k + 1) ((m + 2) * n + 3) (.tuple ds) := by
  obtain ⟨h1, h2, h3, h4⟩ := Sw.all h
  refine ⟨h1, Nat.succ_le_succ h2, ?_⟩
  show (tupleText (PyData.shownAll ds)).length ≤ _
  have := tupleText_len_le (PyData.shownAll ds)
  rw [h4] at this
  have : (m + 2) * ds.length ≤ (m + 2) * n := Nat.mul_le_mul_left _ hn
  rw [Nat.add_mul] at this
  omega
theorem Sw.lst {k m n : Nat} {ds : List PyData} (h : ∀ d ∈ ds, Sw k m d) (hn : ds.length ≤ n) : Sw (k + 1) ((m + 2) * n + 3) (.list ds) := by
  obtain ⟨h1, h2, h3, h4⟩ := Sw.all h
  refine ⟨h1, Nat.succ_le_succ h2, ?_⟩
  show (listText (PyData.shownAll ds)).length ≤ _
  have := listText_len_le (PyData.shownAll ds)
  rw [h4] at this
  have : (m + 2) * ds.length ≤ (m + 2) * n := Nat.mul_le_mul_left _ hn
  rw [Nat.add_mul] at this
  omega
theorem Sw.int {i : Int} (h : i.natAbs < 10 ^ 12) : Sw 0 13 (.int i) := by
  refine ⟨decide_eq_true ?_, Nat.le_refl _, PyData.shown_int_le h⟩
  have h2 : i.natAbs < 2 ^ 1920 := Nat.lt_of_lt_of_le h (by decide +kernel)
  by_cases z : i.natAbs = 0
  · rw [z]; decide
  · exact (Nat.log2_lt z).mpr h2
theorem Sw.nat {x : Nat} (h : x < 10 ^ 12) : Sw 0 13 (.int (x : Nat)) := Sw.int (by rw [Int.natAbs_natCast]; exact h)
theorem Sw.bool (b : Bool) : Sw 0 5 (.bool b) := by cases b <;> exact ⟨rfl, Nat.le_refl _, by decide +kernel⟩
theorem Sw.none : Sw 0 5 .none := ⟨rfl, Nat.le_refl _, by decide +kernel⟩
theorem Sw.tupN {l : List Nat} {n : Nat} (h : ∀ x ∈ l, x < 10 ^ 12) (hn : l.length ≤ n) : Sw 1 (15 * n + 3) (Lf.tupN l) := Sw.tup (m := 13) (fun d hd => by
  obtain ⟨x, hx, e⟩ := List.mem_map.mp hd
  rw [← e]
  exact Sw.nat (h x hx)) (by rw [nD_len]; exact hn)
theorem Sw.lstN {l : List Nat} {n : Nat} (h : ∀ x ∈ l, x < 10 ^ 12) (hn : l.length ≤ n) : Sw 1 (15 * n + 3) (.list (nD l)) := Sw.lst (m := 13) (fun d hd => by
  obtain ⟨x, hx, e⟩ := List.mem_map.mp hd
  rw [← e]
  exact Sw.nat (h x hx)) (by rw [nD_len]; exact hn)
theorem Sw.fits {k m : Nat} {d : PyData} (h : Sw k m d) (a : k ≤ 100) (b : m ≤ 10000000) : d.showable = true ∧ d.depth ≤ 100 ∧ d.shown.length ≤ sizeLine := ⟨h.shows, Nat.le_trans h.deep a, Nat.le_trans h.short (Nat.le_trans b (by rw [sizeLine_eq]; omega))⟩
theorem Sw.forest {fs : List Nat} (F : Forest fs) : Sw 1 363 (Lf.tupN fs) := Sw.tupN (n := 24) (fun x hx => by
  obtain ⟨i, hi⟩ := List.getElem?_of_mem hx
  have := F.rng i (List.getElem?_eq_some_iff.mp hi).1
  unfold par at this
  rw [List.getD_eq_getElem?_getD, hi] at this
  have := F.few
  have : x < fs.length := by assumption
  omega) F.few
/-- the two sides show alike -/
theorem ne_same (z : Str) : (!decide (z = z)) = false := by rw [decide_eq_true rfl]; rfl
end Lf
namespace Lf
open PySem PySem.Spec PyProof.Rows L2
/-! ### what is not asked exactly: tests with any outcome, comprehensions of which only the items are known, drawn values -/
theorem ite_both {c : Prop} [Decidable c] {A B : Prop} (a : A) (b : B) : if c then A else B := by
  by_cases h : c
  · rw [if_pos h]; exact a
  · rw [if_neg h]; exact b
theorem lcR_prop {Z : Zn} {ρ : List Sl} {R : PyData → Prop} {g : DG Z} {tt : DT Z} {te : DX Z} {s : Z.S} {Q : List PyData → Z.S → Prop} : ∀ {items acc : List PyData}, (∀ d ∈ items, ∀ C : Option PyData → Z.S → Prop, C none s → (∀ x, R x → C (some x) s) → g d ρ fun ρ' => tt s ρ' fun b s1 => if b = true then te s1 ρ' fun r s2 => ∃ x, r.st = some x ∧ C (some x) s2 else C none s1) → acc.length + items.length ≤ 1000000 → (∀ x ∈ acc, R x) →
    (∀ l : List PyData, l.length ≤ acc.length + items.length → (∀ x ∈ l, R x) → Q l s) → lcR g tt te ρ items s acc Q
  | [], acc, _, _, ha, q => q acc (by show _ ≤ _ + 0; omega) ha
  | d :: ds, acc, h, hl, ha, q => by
    rw [List.length_cons] at hl
    refine h d List.mem_cons_self (fun o s1 => match o with
      | some x => acc.length < 1000000 ∧ lcR g tt te ρ ds s1 (acc ++ [x]) Q
      | none => lcR g tt te ρ ds s1 acc Q) ?_ ?_
    · exact lcR_prop (fun d' hd' => h d' (List.mem_cons_of_mem _ hd')) (by omega) ha fun l hl' => q l (by rw [List.length_cons]; omega)
    · intro x hx
      refine ⟨by omega, lcR_prop (fun d' hd' => h d' (List.mem_cons_of_mem _ hd')) (by rw [List.length_append]; show acc.length + 1 + _ ≤ _; omega) (fun y hy => ?_) fun l hl' => q l (by rw [List.length_append] at hl'; rw [List.length_cons]; have : l.length ≤ acc.length + 1 + ds.length := hl'; omega)⟩
      rcases List.mem_append.mp hy with z | z
      · exact ha y z
      · rw [List.mem_singleton.mp z]; exact hx
/-- rows of values that repr shows shortly -/
structure Ts (n : Nat) (ds : List PyData) : Prop where
  len : ds.length ≤ n
  it : ∀ d ∈ ds, Sw 4 400 d
theorem Ts.nil {n : Nat} : Ts n [] := ⟨Nat.zero_le _, fun _ h => absurd h List.not_mem_nil⟩
theorem Ts.one {d : PyData} (h : Sw 4 400 d) : Ts 1 [d] := ⟨Nat.le_refl _, fun x hx => by rw [List.mem_singleton.mp hx]; exact h⟩
theorem Ts.mono {n m : Nat} {ds : List PyData} (h : Ts n ds) (le : n ≤ m) : Ts m ds := ⟨Nat.le_trans h.len le, h.it⟩
theorem Ts.app {n m : Nat} {ds es : List PyData} (h : Ts n ds) (k : Ts m es) : Ts (n + m) (ds ++ es) := ⟨by rw [List.length_append]; have := h.len; have := k.len; omega, fun d hd => (List.mem_append.mp hd).elim (h.it d) (k.it d)⟩
theorem Ts.rev {n : Nat} {ds : List PyData} (h : Ts n ds) : Ts n ds.reverse := ⟨by rw [List.length_reverse]; exact h.len, fun d hd => h.it d (List.mem_reverse.mp hd)⟩
theorem Ts.cut {n : Nat} {ds : List PyData} (h : Ts n ds) (lo hi : Option Int) : Ts n (cutD ds lo hi) := by
  unfold cutD
  refine ⟨?_, fun d hd => h.it d (List.mem_of_mem_drop (List.mem_of_mem_take hd))⟩
  rw [List.length_take, List.length_drop]
  have := h.len
  omega
theorem Ts.nD {n : Nat} {l : List Nat} (h : ∀ x ∈ l, x < 10 ^ 12) (hl : l.length ≤ n) : Ts n (nD l) := ⟨by rw [nD_len]; exact hl, fun d hd => by
  obtain ⟨x, hx, rfl⟩ := List.mem_map.mp hd
  exact (Sw.nat (h x hx)).mono (by decide) (by decide)⟩
theorem Ts.fit {n m : Nat} {ds es : List PyData} (h : Ts n ds) (k : Ts m es) (le : n + m ≤ 1000000 := by decide) : ds.length + es.length ≤ 1000000 := Nat.le_trans (Nat.add_le_add h.len k.len) le
/-- values that a law asks about -/
structure Vd (d : PyData) : Prop where
  sw : Sw 5 100000 d
  len : ∀ ds, d = .tuple ds → ds.length ≤ 200
theorem Ts.tup {n : Nat} {ds : List PyData} (h : Ts n ds) (hn : n ≤ 200) : Vd (.tuple ds) := ⟨(Sw.tup h.it h.len).mono (Nat.le_refl _) (by have : 402 * n ≤ 402 * 200 := Nat.mul_le_mul_left _ hn; omega), fun es e => by cases e; exact Nat.le_trans h.len hn⟩
theorem Ts.lst {n : Nat} {ds : List PyData} (h : Ts n ds) (hn : n ≤ 200) : Vd (.list ds) := ⟨(Sw.lst h.it h.len).mono (Nat.le_refl _) (by have : 402 * n ≤ 402 * 200 := Nat.mul_le_mul_left _ hn; omega), fun es e => by cases e⟩
theorem Vd.all {ds es : List PyData} (h : ∀ d ∈ ds, Vd d) (k : ∀ d ∈ es, Vd d) : ∀ d ∈ ds ++ es, Vd d := fun d hd => (List.mem_append.mp hd).elim (h d) (k d)
theorem Vd.cons {d : PyData} {es : List PyData} (h : Vd d) (k : ∀ d ∈ es, Vd d) : ∀ x ∈ d :: es, Vd x := fun x hx => (List.mem_cons.mp hx).elim (fun z => z ▸ h) (k x)
theorem Vd.nil : ∀ x ∈ ([] : List PyData), Vd x := fun _ h => absurd h List.not_mem_nil
end Lf
namespace Lf
open PySem PySem.Spec PyProof.Rows L2
/-! ### t[::-1] of any tuple -/
section
variable {X : Cx}
def tRevS (K : PySem.W.Frag) (te : TE) : TE := fun σ H Q => te σ H fun x H1 => ∃ (a : Addr) (xs : List V), x = .ref a ∧ SqT K H1 a xs ∧ ∀ p o, H1 p = none → Tk o → Q (.ref p) (upd H1 p (.frz o (.tup xs.reverse)))
theorem pe_revS {e : Expr} {te : TE} {k : Nat} {p1 p2 p3 pos : Pos} (he : PE X e te) : PE X (.Subscript e (.Slice none none (some (.UnaryOp .USub (.Constant (.int 1) k p1) p2)) p3) pos) (tRevS X.K te) := by
  refine ⟨fun pins s σ H Q I h => ?_⟩
  refine Subscript_ (thn (he.run pins s σ H _ I h) ?_)
  rintro v s1 ⟨x, H1, I1, r1, a, xs, rfl, hx, q⟩
  cases (show v = Value.ref a from r1)
  have hst : PE X (.UnaryOp .USub (.Constant (.int 1) k p1) p2) (tUn (rU fun i => .int (-i)) (tC (.int 1))) := pe_un un_neg pe_int
  refine wpAny_Slice (thn (po_none.run pins s1 σ H1 (fun o G => o = none ∧ G = H1) I1 ⟨rfl, rfl⟩) ?_)
  rintro vl s2 ⟨ol, G2, I2, pl, rfl, rfl⟩
  refine thn (po_none.run pins s2 σ G2 (fun o G => o = none ∧ G = G2) I2 ⟨rfl, rfl⟩) ?_
  rintro vu s3 ⟨ou, G3, I3, pu, rfl, rfl⟩
  cases pl
  cases pu
  rw [evalPart_some]
  refine thn (hst.run pins s3 σ G3 (fun y G => y = .int (-1) ∧ G = G3) I3 ⟨1, rfl, rfl, rfl⟩) ?_
  rintro vs s4 ⟨y, H4, I4, ry, rfl, rfl⟩
  obtain ⟨tk, rfl⟩ := ry
  have I5 : Inv X pins σ H4 { s4 with heap := s4.heap.push { cls := .type "slice", data := .fields #[.none, .none, .int (-1) tk] } } := I4.kept (t' := s4.toks) fun b ob z => Heap.get?_push_of_some _ z
  obtain ⟨its, rv, plain, small⟩ := I5.tuple hx
  have same := rv.length
  show wpAny (model X.prog X.w) X.A (subscriptTail e (.Slice none none (some (.UnaryOp .USub (.Constant (.int 1) k p1) p2)) p3) (.ref a) (.ref s4.heap.objs.size)) (EP X pins σ Q) X.xe { s4 with heap := s4.heap.push { cls := .type "slice", data := .fields #[.none, .none, .int (-1) tk] } }
  refine tail_any (ops := [.ref a, .ref s4.heap.objs.size]) plain.typeIs (PyProof.Rows.slot_tuple_getitem.lookup) ?_ (by with_unfolding_all rfl)
  refine getBackA plain (Heap.IsSliceOf.new _ _ _ _) (same ▸ small) ?_
  exact ⟨.ref _, _, laidT (tk := s4.toks) I5 rv.reverse (by rw [List.length_reverse]; exact small), rfl, q _ _ (I5.hok.fresh (Nat.le_refl _)) tk_new⟩
variable {Z : Zn} {e : Expr} {de : DX Z} {k : Nat} {p1 p2 p3 pos : Pos}
def opRevT : Rv → (Rv → Prop) → Prop := fun x Q => match x.D with
  | some (.tuple l) => Q (.im (.tuple l.reverse))
  | _ => False
theorem de_rev (he : DE Z X e de) : DE Z X (.Subscript e (.Slice none none (some (.UnaryOp .USub (.Constant (.int 1) k p1) p2)) p3) pos) (dUn opRevT de) := by
  refine PE.of (pe_revS he) fun σ H Q ⟨B0, H0, ρ, s, Qd, R, hd, hq⟩ => ?_
  refine ⟨B0, H0, ρ, s, _, R, hd, fun x s1 v H1 qx R1 g1 r1 => ?_⟩
  unfold opRevT at qx
  split at qx
  · rename_i l e1
    obtain ⟨a, xs, rfl, h1, h2⟩ := r1.tup (K := X.K) e1
    refine ⟨a, xs, rfl, h1, fun p o hp tk => hq _ s1 _ _ qx (R1.same (same_new hp)) (g1.trans (Gr.of (same_new hp))) ?_⟩
    exact (newT hp tk h2.reverse).back R1.ok g1
  · exact qx.elim
end
end Lf
namespace Lf
open PySem PySem.Spec PyProof.Rows L2
/-! ### xs != [] of a list with any items -/
section
variable {Z : Zn} {X : Cx} {a b : Expr} {da db : DX Z} {pos : Pos} {K : PySem.W.Frag}
def opNeE : Op := fun x y Q => match x.D, y.D with
  | some (.list l), some (.list []) => Q (.im (.bool (!l.isEmpty)))
  | _, _ => False
theorem o2_neE : Op2 K (fun x y H Q => ∃ (a b : Addr) (xs : List V), x = .ref a ∧ y = .ref b ∧ SqL K H a xs ∧ H b = some (.lst []) ∧ Q (.bl (!xs.isEmpty)) H) opNeE := by
  intro Z B0 ρ s H0 σ Ha Hb H v u x y Qd Q R rx ry q k
  unfold opNeE at q
  split at q
  · rename_i l e1 e2
    obtain ⟨a, xs, rfl, h1, h2⟩ := rx.lst e1
    obtain ⟨b, ys, rfl, h3, h4⟩ := ry.lst e2
    cases h4
    refine ⟨a, b, xs, rfl, rfl, SqL.of h1, h3, ?_⟩
    have e : xs.isEmpty = l.isEmpty := by cases h2 <;> rfl
    rw [e]
    exact k _ _ _ q (Same.refl H) (Im.bl _)
  · exact q.elim
theorem dt_neE (hu : X.A.units + 65 < cLine) (ha : DE Z X a da) (hb : DE Z X b db) (hm : behindInMarks .NotEq b = false := by rfl) : DTs Z X (.Compare a [.NotEq] [b] pos) (dTst (dBin opNeE da db)) := dt_cmp (op_neEL (by omega)) o2_neE ha hb hm
theorem de_neE (hu : X.A.units + 65 < cLine) (ha : DE Z X a da) (hb : DE Z X b db) (hm : behindInMarks .NotEq b = false := by rfl) : DE Z X (.Compare a [.NotEq] [b] pos) (dBin opNeE da db) := PE.of (pe_cmpR (op_neEL (by omega)) ha hb hm) fun σ H Q h => lift_bin (K := X.K) o2_neE h
end
end Lf
namespace Lf
open PySem PySem.Spec PyProof.Rows L2
/-! ### min(t) of a tuple of ints -/
section
variable {Z : Zn} {X : Cx} {e : Expr} {es : List Expr} {das : DA Z} {pos p : Pos}
theorem foldl_min (n : Int) : ∀ ns : List Int, ns.foldl min n ∈ n :: ns ∧ ∀ y ∈ n :: ns, ns.foldl min n ≤ y := fun ns => by
  induction ns generalizing n with
  | nil => exact ⟨List.mem_cons_self, fun y hy => by rw [List.mem_singleton.mp hy]; exact Int.le_refl _⟩
  | cons m ns ih =>
    rw [List.foldl_cons]
    obtain ⟨h1, h2⟩ := ih (min n m)
    refine ⟨?_, fun y hy => ?_⟩
    · rcases List.mem_cons.mp h1 with h | h
      · rw [h]
        rcases Int.le_total n m with z | z
        · rw [Int.min_eq_left z]; simp
        · rw [Int.min_eq_right z]; simp
      · exact List.mem_cons_of_mem _ (List.mem_cons_of_mem _ h)
    · have h3 := h2 (min n m) List.mem_cons_self
      rcases List.mem_cons.mp hy with rfl | hy
      · exact Int.le_trans h3 (Int.min_le_left _ _)
      · rcases List.mem_cons.mp hy with rfl | hy
        · exact Int.le_trans h3 (Int.min_le_right _ _)
        · exact h2 y (List.mem_cons_of_mem _ hy)
theorem cr_minT (hc : X.calm = true) (hu : X.A.units + 65 < cLine) : CallR X (.builtin "min") (fun vs H Q => ∃ (a : Addr) (ns : List Int), vs = [V.ref a] ∧ SqT X.K H a (ns.map V.int) ∧ 0 < ns.length ∧ ∀ m, m ∈ ns → (∀ y ∈ ns, m ≤ y) → Q (.int m) H) := by
  intro pins s σ H vs us Q I r h
  obtain ⟨a, ns, rfl, hs, hne, q⟩ := h
  obtain ⟨u, rfl, r1⟩ := vals1 r
  cases (show u = Value.ref a from r1)
  obtain ⟨its, rv, ht, _⟩ := I.tuple hs
  cases ns with
  | nil => exact absurd hne (Nat.lt_irrefl 0)
  | cons n ns =>
    obtain ⟨as, ra⟩ := Dp.readsAll I ((n :: ns).map PyData.int) _ its (dpInts (K := X.K) (H := H) (n :: ns)) rv
    refine PySem.W.min_tuple_data (x := .int n) (xs := ns.map .int) (as := as) (I.ok.hd hc) ht ra (alike_ints (n :: ns)) ?_ fun i v h' tk bs hi rd hk => ?_
    · have := deepInts (n :: ns)
      show X.A.units + 1 + PyData.depthAll ((n :: ns).map PyData.int) < cLine
      rw [this]
      omega
    · rw [PySem.W.minD_ints] at rd
      cases rd with
      | int i t =>
        obtain ⟨h1, h2⟩ := foldl_min n ns
        exact ⟨.int _, H, I.kept hk, ⟨_, rfl⟩, q _ h1 h2⟩
def opMinT : Cb := fun rs Q => match rs with
  | [x] => match x.D with
    | some (.tuple l) => ∃ ns : List Int, l = ns.map .int ∧ 0 < ns.length ∧ ∀ m, m ∈ ns → (∀ y ∈ ns, m ≤ y) → Q (.im (.int m))
    | _ => False
  | _ => False
theorem de_minT (hc : X.calm = true) (hu : X.A.units + 65 < cLine) (hg : Gl X "min") (hm : X.mg "min" = none) (ha : DAs Z X (e :: es) das) (he : starEach (e :: es) X.env = (false, eval e X.env) :: starEach es X.env := by rfl) (hpl : (backTo pos (starEach es X.env)).any (·.1) = false := by rfl) : DE Z X (.Call (.Name "min" p) (e :: es) [] pos) (dCB opMinT das) := by
  refine PE.of (pe_callB (cr_minT hc hu) hg hm (by decide +kernel) ha (by decide) (by decide) he hpl) fun σ H Q h => lift_cb ?_ h
  intro Z B0 ρ s H0 σ Ha H vs xs Qd Q R rr q k
  unfold opMinT at q
  split at q
  · obtain ⟨v, rfl, r1⟩ := rr.one
    split at q
    · rename_i l e1
      obtain ⟨ns, rfl, hn, q⟩ := q
      obtain ⟨a, ys, rfl, h1, h2⟩ := r1.tup (K := X.K) e1
      rw [nums_of h2] at h1
      exact ⟨a, ns, rfl, h1, hn, fun m hm up => k _ _ _ (q m hm up) (Same.refl H) (Im.int _)⟩
    · exact q.elim
  · exact q.elim
end
end Lf
namespace Lf
open PySem PySem.Spec PyProof.Rows L2
/-! ### a, b = xs, xs a local list -/
section
variable {Z : Zn} {X : Cx} {pos : Pos} {k : Nat}
def dAsgL (i : Nat) (is : List Nat) : DSt Z := fun De s ρ => match ρ[i]? with
  | some (.ow _ l) => gNs is l ρ fun ρ' => De.nx s ρ'
  | _ => False
theorem ds_asgL {es : List Expr} {is : List Nat} {i : Nat} {n : Str} {np tp : Pos} (hNi : X.N[i]? = some n) (hv : Vis X.env.scope n) (hc : X.calm = true) (hN : X.N.Nodup) (h : Nms X es is) (hd : (n == ("__debug__" : Str)) = false := by decide) (hcd : (n == ("__classdict__" : Str)) = false := by decide) (hn : (assignEach es X.env).length = is.length := by rfl) (hst : (assignEach es X.env).findIdx? (·.1) = none := by rfl)
    (hs : swapsWithSole [.Tuple es k tp] (.Name n np) pos.line X.env = pure false := by rfl) (hw : swappedStores [.Tuple es k tp] (.Name n np) X.env = pure none := by rfl) (h1 : (assignEach [.Tuple es k tp] X.env).map (·.2) = [assign (.Tuple es k tp) X.env] := by rfl) : DS Z X (.Assign [.Tuple es k tp] (.Name n np) pos) (dAsgL i is) := by
  refine PS.of (ps_asg (pe_var hNi hv hd hcd) (pg_lst (n := is.length) hc (h.pgs hN) hn hst) hs hw h1) fun D σ H ⟨B0, H0, ρ, s, De, R, hd, hn, _⟩ => ?_
  unfold dAsgL at hd
  split at hd
  · rename_i q l e1
    obtain ⟨o, h2, rfl, xs, h3, h4⟩ := R.sl i _ e1
    refine ⟨.ref q, h2, q, xs, rfl, SqL.of h3, by rw [h4.length]; exact gNs_len hd, nms_ok R h4 hd fun ρ' σ' q' R' ho => ?_⟩
    exact hn s ρ' σ' H q' R' ⟨fun _ _ e _ => e, fun _ _ e => e, fun _ _ _ e => e, fun a ha => .inl (ho a ha)⟩
  · exact hd.elim
end
end Lf
set_option maxHeartbeats 4000000
namespace Lf
open PySem PySem.Spec PyProof.Rows L2
/-! ### tuple * int, also by 0 and 1 -/
theorem tuple_mul1 (l : Addr) (items : Array Value) (n : Nat) (dd : Option Addr) (sl : Array (Option Value)) (u : Tok) :
    Meets (Builtin.«tuple.__mul__» ⟨[.ref l, .int 1 u], []⟩) (fun _ R s => s.heap.get? l = some { cls := .type "tuple", dict := dd, data := .seq items n, slots := sl } ∧ R (.ok (.ret (Value.ref l))) s) :=
  .of_wp fun prog w A R s h => by
    obtain ⟨hp, g, d, tk, os⟩ := s
    obtain ⟨hl, h⟩ := h
    have f1 := AutoSeq1.idx_int
    have c1 : (items.isEmpty || (1 : Int) == 1) = true := by simp
    wp_walk using wpAny_loadPart' hl
    exact ⟨_, rfl, h⟩
theorem tuple_mul0 (l : Addr) (items : Array Value) (n : Nat) (dd : Option Addr) (sl : Array (Option Value)) (x : Int) (u : Tok) (c0 : (decide (x < -(2 ^ 63)) || decide (x ≥ 2 ^ 63)) = false) (c1 : (items.isEmpty || x == 1) = false) (c2 : (decide (x ≤ 0) || items.isEmpty) = true) :
    Meets (Builtin.«tuple.__mul__» ⟨[.ref l, .int x u], []⟩) (fun _ R s => s.heap.get? l = some { cls := .type "tuple", dict := dd, data := .seq items n, slots := sl } ∧
      R (.ok (.ret (Value.ref s.heap.objs.size))) { s with heap := s.heap.push { cls := Value.type "tuple", data := Data.seq #[] }, toks := s.toks }) :=
  .of_wp fun prog w A R s h => by
    obtain ⟨hp, g, d, tk, os⟩ := s
    obtain ⟨hl, h⟩ := h
    have f1 := AutoSeq1.idx_int
    wp_walk using wpAny_loadPart' hl
    repeat (first
      | (refine wpAny_ite_false (decide_eq_false (by rw [c0]; exact Bool.false_ne_true)) ?_; wp_walk using wpAny_loadPart' hl)
      | (refine wpAny_ite_false (decide_eq_false (by rw [c1]; exact Bool.false_ne_true)) ?_; wp_walk using wpAny_loadPart' hl)
      | (refine wpAny_ite_true (decide_eq_true c2) ?_; wp_walk using wpAny_loadPart' hl)
      | (refine wpAny_ite_false (decide_eq_false (by decide)) ?_; wp_walk using wpAny_loadPart' hl))
    exact ⟨_, rfl, h⟩
section
variable {X : Cx}
def rRepS (K : PySem.W.Frag) : R2 := fun x y H Q => ∃ l k xs, x = .ref l ∧ y = .int k ∧ SqT K H l xs ∧ xs ≠ [] ∧ -1000 ≤ k ∧ k ≤ 1 ∧ (k = 1 → Q (.ref l) H) ∧ (k ≤ 0 → ∀ p o, H p = none → Tk o → Q (.ref p) (upd H p (.frz o (.tup []))))
theorem op_repS : OpR X (binaryOp .Mult) (rRepS X.K) := by
  intro pins s σ H x y v u Q I rx ry h
  obtain ⟨l, k, xs, rfl, rfl, hT, hne, h1, h2, q1, q0⟩ := h
  cases rx
  obtain ⟨t, rfl⟩ := ry
  obtain ⟨its, r, ⟨⟨cls, dd, data, sl⟩, ho, hc, n, hd⟩, hs⟩ := I.tuple hT
  simp only at hc hd
  subst hc hd
  have hle : its.length = xs.length := r.length.symm
  have hn : its ≠ [] := fun e => hne (by
    rw [e] at hle
    exact List.eq_nil_of_length_eq_zero hle.symm)
  have hi : its.toArray.isEmpty = false := by
    cases its with
    | nil => exact absurd rfl hn
    | cons a b => rfl
  by_cases hk : k = 1
  · subst hk
    refine wpAny_binaryOp_repeat_ref (T := "tuple") (U := "int") (by decide) ⟨_, ho, rfl⟩ (fun s' => typeIs_int s' 1 t) noFill_tuple_mul F.fills_int_mul F.slot_int_rmul repeat_tuple F.slot_int_index.lookup
      (call_meets F.slot_int_rmul (typeIs_int s 1 t) F.entry_int_rmul (F.args_int_rmul_2 _ _) (int_rmul_tuple 1 t l its.toArray n dd sl)
        ⟨ho, rfl, ⟨_, ho, rfl⟩, call_meets F.slot_tuple_mul ⟨_, ho, rfl⟩ F.entry_tuple_mul (F.args_tuple_mul_2 _ _) (tuple_mul1 l its.toArray n dd sl t) ⟨ho, ?_⟩⟩)
    exact ⟨.ref l, H, I, rfl, q1 rfl⟩
  · have c0 : (decide (k < -(2 ^ 63)) || decide (k ≥ 2 ^ 63)) = false := by
      rw [decide_eq_false (by omega), decide_eq_false (by omega)] <;> rfl
    have c1 : (its.toArray.isEmpty || k == 1) = false := by
      rw [hi, Bool.false_or]
      exact beq_eq_false_iff_ne.mpr hk
    have c2 : (decide (k ≤ 0) || its.toArray.isEmpty) = true := by
      rw [decide_eq_true (by omega)]
      rfl
    refine wpAny_binaryOp_repeat_ref (T := "tuple") (U := "int") (by decide) ⟨_, ho, rfl⟩ (fun s' => typeIs_int s' k t) noFill_tuple_mul F.fills_int_mul F.slot_int_rmul repeat_tuple F.slot_int_index.lookup
      (call_meets F.slot_int_rmul (typeIs_int s k t) F.entry_int_rmul (F.args_int_rmul_2 _ _) (int_rmul_tuple k t l its.toArray n dd sl)
        ⟨ho, rfl, ⟨_, ho, rfl⟩, call_meets F.slot_tuple_mul ⟨_, ho, rfl⟩ F.entry_tuple_mul (F.args_tuple_mul_2 _ _) (tuple_mul0 l its.toArray n dd sl k t c0 c1 c2) ⟨ho, ?_⟩⟩)
    exact ⟨.ref s.heap.objs.size, _, laidT (tk := s.toks) (us := []) I .nil (Nat.zero_le _), rfl, q0 (by omega) _ _ (I.hok.fresh (Nat.le_refl _)) tk_new⟩
variable {Z : Zn} {a b : Expr} {da db : DX Z} {pos : Pos}
def opMulT : Op := fun x y Q => match x.D, y.D with
  | some (.int i), some (.int j) => CMulW i j ∧ Q (.im (.int (i * j)))
  | some (.list l), some (.int k) => -(2 ^ 63) ≤ k ∧ k < 2 ^ 63 ∧ l.length * k.toNat ≤ 1000000 ∧ Q (.fr (List.replicate k.toNat l).flatten)
  | some (.tuple l), some (.int k) => l ≠ [] ∧ -1000 ≤ k ∧ k ≤ 1 ∧ l.length ≤ 1000 ∧ Q (.im (.tuple (List.replicate k.toNat l).flatten))
  | _, _ => False
theorem de_mulT (ha : DE Z X a da) (hb : DE Z X b db) : DE Z X (.BinOp a .Mult b pos) (dBin opMulT da db) := by
  refine PE.of (pe_op ((op_mulW.or op_rep).or op_repS) ha hb) fun σ H Q h => lift_bin (K := X.K) ?_ h
  intro Z B0 ρ s H0 σ Ha Hb H v u x y Qd Q R rx ry q k
  unfold opMulT at q
  split at q
  · rename_i i j e1 e2
    exact .inl (.inl ⟨i, j, rx.vI e1, ry.vI e2, q.1, k _ _ _ q.2 (Same.refl H) (Im.int _)⟩)
  · rename_i l m e1 e2
    obtain ⟨a, xs, rfl, h1, h2⟩ := rx.lst e1
    exact .inl (.inr ⟨a, m, xs, rfl, ry.vI e2, h1, q.1, q.2.1, by rw [h2.length]; exact smB q.2.2.1, fun p hp => k _ _ _ q.2.2.2 (same_new hp) (R.newL hp (h2.rep _))⟩)
  · rename_i l m e1 e2
    obtain ⟨hne, k1, k2, hl, q⟩ := q
    obtain ⟨a, xs, rfl, h1, h2⟩ := rx.tup (K := X.K) e1
    have hx : xs ≠ [] := fun z => hne (by
      have := h2.length
      rw [z] at this
      exact List.length_eq_zero_iff.mp this.symm)
    have hm : m ≤ 1 := k2
    refine .inr ⟨a, m, xs, rfl, ry.vI e2, h1, hx, k1, hm, fun z => ?_, fun z p o hp tk => ?_⟩
    · subst z
      have e : (List.replicate (Int.toNat 1) l).flatten = l := by simp
      rw [e] at q
      refine k _ _ _ q (Same.refl H) ?_
      cases x with
      | im d => cases e1; exact rx
      | _ => cases e1
    · have e : (List.replicate (Int.toNat m) l).flatten = [] := by rw [show m.toNat = 0 from by omega]; rfl
      rw [e] at q
      exact k _ _ _ q (same_new hp) (newT hp tk .nil)
  · exact q.elim
def opBits : Rv → (Rv → Prop) → Prop := fun x Q => match x.D with
  | some (.int i) => Q (.im (.int (Builtin.Int.intBits i : Nat)))
  | _ => False
theorem de_bits {apos : Pos} (ha : DE Z X a da) (hbase : attributeBase a "bit_length" X.env (eval a X.env) = eval a X.env := by rfl) (hline : (apos.endLine == pos.line) = true := by rfl) : DE Z X (.Call (.Attribute a "bit_length" apos) [] [] pos) (dUn opBits da) := by
  refine PE.of (pe_bits ha hbase hline) fun σ H Q ⟨B0, H0, ρ, s, Qd, R, hd, hq⟩ => ?_
  refine ⟨B0, H0, ρ, s, _, R, hd, fun x s1 v H1 qx R1 g1 r1 => ?_⟩
  unfold opBits at qx
  split at qx
  · rename_i i e1
    rw [r1.vI e1]
    exact ⟨i, rfl, hq _ s1 _ H1 qx R1 g1 (Im.int _)⟩
  · exact qx.elim
end
end Lf
namespace Lf
open PySem PySem.Spec PyProof.Rows L2
section
variable {Z : Zn} {X : Cx} {e : Expr} {de : DX Z} {pos : Pos}
/-- xs += ys, of lists -/
def dAugL (i : Nat) (de : DX Z) : DSt Z := fun De s ρ => match ρ[i]? with
  | some (.ow q l) => de s ρ fun y s1 => match y.D with
    | some (.list m) => l.length + m.length ≤ 1000000 ∧ De.nx s1 (ρ.set i (.ow q (l ++ m)))
    | _ => False
  | _ => False
theorem ds_iaddL {i : Nat} {n : Str} {pos' : Pos} (hN : X.N.Nodup) (hi : X.N[i]? = some n) (hx : Loc X.env.scope n) (he : DE Z X e de) (hf : X.fn n = true ∨ X.env.scope.names.lookup n = some .local := by first | exact .inl rfl | exact .inr rfl | assumption) :
    DS Z X (.AugAssign (.Name n pos') .Add e pos) (dAugL i de) := by
  refine PS.of (ps_aug (ti := rExt2) hN hi hx he iop_ext hf) fun D σ H ⟨B0, H0, ρ, s, De, R, hd, hn, _⟩ => ?_
  unfold dAugL at hd
  split at hd
  · rename_i q l e1
    obtain ⟨o, s0, rfl, xs, hq, im⟩ := R.sl i _ e1
    refine ⟨.ref q, s0, B0, H0, ρ, s, _, R, hd, fun y s1 u H1 qx R1 g1 r1 => ?_⟩
    split at qx
    · rename_i m e2
      obtain ⟨b, ys, rfl, h1, h2⟩ := r1.lst e2
      have hq1 := g1 q _ hq (R.fr q (own_mem e1)).2.1
      have im1 := im.grow badZ R.ok g1
      refine ⟨q, b, xs, ys, rfl, rfl, hq1, h1, by rw [im1.length, h2.length]; exact smB qx.1, ?_⟩
      have es : σ.set i (some (.ref q)) = σ := by
        refine List.ext_getElem? fun j => ?_
        rw [List.getElem?_set]
        split
        · next z =>
          subst z
          rw [if_pos (List.getElem?_eq_some_iff.mp s0).1, s0]
        · rfl
      show D.nx (σ.set i (some (.ref q))) _
      rw [es]
      exact hn s1 _ σ _ qx.2 (R1.mutL e1 (im1.append h2)) ((g1.stp R).trans R1 (mut_stp R1 e1))
    · exact qx.elim
  · exact hd.elim
/-- xs[k] += e, of ints -/
def dAugIx (i : Nat) (dk de : DX Z) : DSt Z := fun De s ρ => match ρ[i]? with
  | some (.ow q l) => dk s ρ fun k s1 => match k.D with
    | some (.int n) => ∃ (j : Nat) (x : Int), n = (j : Nat) ∧ l[j]? = some (.int x) ∧ de s1 ρ fun r s2 => match r.D with
      | some (.int y) => De.nx s2 (ρ.set i (.ow q (l.set j (.int (x + y)))))
      | _ => False
    | _ => False
  | _ => False
theorem ds_iaddIx {i : Nat} {n : Str} {k : Expr} {dk : DX Z} {np ps : Pos} (hN : X.N[i]? = some n) (hv : Vis X.env.scope n) (hk : DE Z X k dk) (he : DE Z X e de) (hd : (n == ("__debug__" : Str)) = false := by decide) (hcd : (n == ("__classdict__" : Str)) = false := by decide)
    (ha : ∀ ov iv new, augStore k ov iv new = (do holding [new, ov, iv] (setItem ov iv new); release [new, ov, iv] []; pure .next) := by intros; rfl) : DS Z X (.AugAssign (.Subscript (.Name n np) k ps) .Add e pos) (dAugIx i dk de) := by
  refine PS.of (ps_augS (pe_var hN hv hd hcd) hk get_listN he ip_add set_list ha) fun D σ H ⟨B0, H0, ρ, s, De, R, hd, hn, _⟩ => ?_
  unfold dAugIx at hd
  split at hd
  · rename_i q l e1
    obtain ⟨o, s0, rfl, xs, hq, im⟩ := R.sl i _ e1
    refine ⟨.ref q, s0, B0, H0, ρ, s, _, R, hd, fun k s1 w H1 qk R1 g1 r1 => ?_⟩
    split at qk
    · rename_i m e2
      obtain ⟨j, x, rfl, hx, qk⟩ := qk
      have hq1 := g1 q _ hq (R.fr q (own_mem e1)).2.1
      have im1 := im.grow badZ R.ok g1
      obtain ⟨v, hv, iv⟩ := im1.get hx
      cases iv
      refine ⟨q, xs, j, .int x, rfl, r1.vI e2, SqL.of hq1, hv, B0, H0, ρ, s1, _, R1, qk, fun r s2 u H2 qr R2 g2 r2 => ?_⟩
      split at qr
      · rename_i y e3
        have hq2 := g2 q _ hq1 (R1.fr q (own_mem e1)).2.1
        have im2 := im1.grow badZ R1.ok g2
        have hj : j < xs.length := (List.getElem?_eq_some_iff.mp hv).1
        refine ⟨x, y, rfl, r2.vI e3, q, xs, _, j, rfl, r1.vI e2, hq2, by unfold ixN; rw [if_pos (by omega), if_pos (by omega), Int.toNat_natCast], ?_⟩
        exact hn s2 _ σ _ qr (R2.mutL e1 (im2.set j (.int _))) ((g1.stp R).trans R1 ((g2.stp R1).trans R2 (mut_stp R2 e1)))
      · exact qr.elim
    · exact qk.elim
  · exact hd.elim
/-- a, b = x, y, of names that a comprehension reads -/
theorem ds_parC {i j : Nat} {n1 n2 : Str} {px py pt : Pos} {kt k2 pt2} {a b : Expr} {da db : DX Z} (hc : X.calm = true) (hN : X.N.Nodup) (hi : X.N[i]? = some n1) (hj : X.N[j]? = some n2) (hx : Loc X.env.scope n1) (hy : Loc X.env.scope n2) (ha : DE Z X a da) (hb : DE Z X b db)
    (hs : swapsWithSole [.Tuple [.Name n1 px, .Name n2 py] kt pt] (.Tuple [a, b] k2 pt2) pos.line X.env = pure false := by rfl) (hw : swappedStores [.Tuple [.Name n1 px, .Name n2 py] kt pt] (.Tuple [a, b] k2 pt2) X.env = pure none := by rfl) (h1 : (assignEach [.Tuple [.Name n1 px, .Name n2 py] kt pt] X.env).map (·.2) = [assign (.Tuple [.Name n1 px, .Name n2 py] kt pt) X.env] := by rfl)
    (s1 : starEach [a, b] X.env = (false, eval a X.env) :: starEach [b] X.env := by rfl) (s2 : starEach [b] X.env = (false, eval b X.env) :: starEach [] X.env := by rfl)
    (fx : X.fn n1 = true ∨ X.env.scope.names.lookup n1 = some .local := by first | exact .inl rfl | exact .inr rfl) (fy : X.fn n2 = true ∨ X.env.scope.names.lookup n2 = some .local := by first | exact .inl rfl | exact .inr rfl)
    (g1 : (assignEach [.Name n1 px, .Name n2 py] X.env).map (·.2) = assign (.Name n1 px) X.env :: (assignEach [.Name n2 py] X.env).map (·.2) := by rfl) (g2 : (assignEach [.Name n2 py] X.env).map (·.2) = assign (.Name n2 py) X.env :: (assignEach [] X.env).map (·.2) := by rfl)
    (gl : (assignEach [.Name n1 px, .Name n2 py] X.env).length = 2 := by rfl) (gf : (assignEach [.Name n1 px, .Name n2 py] X.env).findIdx? (·.1) = none := by rfl) :
    DS Z X (.Assign [.Tuple [.Name n1 px, .Name n2 py] kt pt] (.Tuple [a, b] k2 pt2) pos) (dPar i j da db) := by
  refine PS.of (ps_asg (pe_tup (pa_cons ha (pa_cons hb pa_nil s2) s1)) (pg_tup hc (pgs_cons (pg_name hN hi hx fx) (pgs_cons (pg_name hN hj hy fy) pgs_nil g2) g1) gl gf) hs hw h1) fun D σ H h => ?_
  have h' : liftS Z (dPar i j da db) { D with nx := fun σ' H' => ∀ p xs, H' p = none → D.nx σ' (upd H' p (.tup xs)) } σ H := by
    obtain ⟨B0, H0, ρ, s, De, R, hd, hn, hr⟩ := h
    refine ⟨B0, H0, ρ, s, De, R, hd, fun s' ρ' σ' H' q R' st p xs hp => ?_, hr⟩
    have sm := same_new (o := .tup xs) hp
    exact hn s' ρ' σ' _ q (R'.same sm) (st.trans R' ((Gr.of sm).stp R'))
  obtain ⟨B0, H0, ρ, s, Qd, R, hd, hq⟩ := par_ok h'
  refine ⟨B0, H0, ρ, s, Qd, R, hd, fun r s' v H' q R' g rr => ?_⟩
  obtain ⟨B1, H1, ρ1, s1, Q1, R1, hd1, hq1⟩ := hq r s' v H' q R' g rr
  refine ⟨B1, H1, ρ1, s1, Q1, R1, hd1, fun r2 s2 w H2 q2 R2 g2 rr2 => ⟨by show 2 ≤ sizeLine; decide, fun p hp => ⟨p, [v, w], rfl, SqT.of upd_same, rfl, v, [w], rfl, w, [], rfl, rfl, ?_⟩⟩⟩
  exact hq1 r2 s2 w H2 q2 R2 g2 rr2 p [v, w] hp
end
end Lf
namespace Lf
open PySem PySem.Spec PyProof.Rows L2
/-! ### a, b, c = x, y, z -/
section
variable {Z : Zn} {X : Cx} {B0 B1 : Addr → Prop} {H0 H H1 H2 : Hp} {ρ ρ' : List Sl} {s s1 s2 : Z.S} {σ σ' : L2.St} {v : V} {r : Rv} {da db dc : DX Z} {pos : Pos}
def slOf : Rv → Addr → Sl
  | .im d, _ => .im d
  | .fr l, p => .ow p l
  | .rw v, _ => .raw v
  | .bo _, _ => .no
theorem stR_at {i : Nat} {Q : List Sl → Prop} (q : stR r i ρ Q) (p : Addr) : Q (ρ.set i (slOf r p)) := by
  cases r with
  | im d => exact q
  | fr l => exact q p
  | rw u => exact q
  | bo l => exact q.elim
theorem pend {k : Nat} (R : Rel Z B1 H0 ρ s σ H) (R' : Rel Z B0 H0 ρ' s σ' H) (hB : ∀ a, Bad Z B0 ρ' a → Bad Z B1 ρ a) (R2 : Rel Z B1 H0 ρ s2 σ H2) (g : Gr Z H H2) (rr : RvR Z B1 ρ H H2 v r) (hb : ∀ l, r ≠ .bo l) :
    ∃ (B2 : Addr → Prop) (p : Addr), Rel Z B2 H0 ρ s2 σ H2 ∧ Rel Z B0 H0 (ρ'.set k (slOf r p)) s2 (σ'.set k (some v)) H2 ∧ (∀ a, Bad Z B0 (ρ'.set k (slOf r p)) a → Bad Z B2 ρ a) ∧ Stp Z B0 ρ' H (ρ'.set k (slOf r p)) H2 := by
  have rr' := rv_set hB hb rr
  have R3 := R'.grow R2.ok g
  have st := g.stp R'
  cases r with
  | im d => exact ⟨B1, 0, R2, R3.put rfl ⟨v, rfl, rr'⟩, fun a z => hB a (bad_set rfl z), st.keep, st.tups, st.frzs, fun a ha => (mem_own_set ha).elim .inl fun y => by cases y⟩
  | rw u => exact ⟨B1, 0, R2, R3.put rfl (by cases (show v = u from rr'); rfl), fun a z => hB a (bad_set rfl z), st.keep, st.tups, st.frzs, fun a ha => (mem_own_set ha).elim .inl fun y => by cases y⟩
  | bo l => exact absurd rfl (hb l)
  | fr l =>
    obtain ⟨p, xs, rfl, h1, h2, h3, h4⟩ := rr'
    refine ⟨fun a => B1 a ∨ a = p, p, R.more R2.ok g h1 (by rw [h3]; exact fun z => nomatch z), R'.putO R2.ok g h1 h3 h4, fun a z => ?_, st.keep, st.tups, st.frzs, fun a ha => (mem_own_set ha).elim .inl fun y => by cases y; exact .inr h1⟩
    have up : ∀ b, Bad Z B1 ρ b → Bad Z (fun a => B1 a ∨ a = p) ρ b := fun b z => z.imp id fun z => z.imp .inl id
    rcases z with z | z | z
    · exact .inl z
    · exact up a (hB a (.inr (.inl z)))
    · rcases mem_own_set z with z | z
      · exact up a (hB a (.inr (.inr z)))
      · cases z; exact .inr (.inl (.inr rfl))
def dPar3 (i j k : Nat) (da db dc : DX Z) : DSt Z := fun De s ρ => da s ρ fun x s1 => db s1 ρ fun y s2 => dc s2 ρ fun z s3 => stR x i ρ fun ρ1 => stR y j ρ1 fun ρ2 => stR z k ρ2 fun ρ3 => De.nx s3 ρ3
theorem isBo_no (r : Rv) : (∀ l, r ≠ .bo l) ∨ ∃ l, r = .bo l := by
  cases r with
  | bo l => exact .inr ⟨l, rfl⟩
  | _ => exact .inl fun l e => nomatch e
theorem par3_ok {i j k : Nat} {D : Ends} {σ : L2.St} {H : Hp} (h : liftS Z (dPar3 i j k da db dc) D σ H) : liftE Z da σ H fun v H1 => liftE Z db σ H1 fun w H2 => liftE Z dc σ H2 fun u H3 => D.nx (((σ.set i (some v)).set j (some w)).set k (some u)) H3 := by
  obtain ⟨B0, H0, ρ, s, De, R, hd, hn, _⟩ := h
  refine ⟨B0, H0, ρ, s, _, R, hd, fun x s1 v H1 qx R1 g1 r1 => ?_⟩
  rcases isBo_no x with hx | ⟨l, rfl⟩
  · obtain ⟨B2, p, Ra, Rb, hB, st1⟩ := pend (k := i) R R (fun a z => z) R1 g1 r1 hx
    refine ⟨B2, H0, ρ, s1, _, Ra, qx, fun y s2 w H2 qy R2 g2 r2 => ?_⟩
    rcases isBo_no y with hy | ⟨l, rfl⟩
    · obtain ⟨B3, p3, Rc, Rd, hB3, st2⟩ := pend (k := j) Ra Rb hB R2 g2 r2 hy
      refine ⟨B3, H0, ρ, s2, _, Rc, qy, fun z s3 u H3 qz R3 g3 r3 => ?_⟩
      have q1 := stR_at qz p
      have q2 := stR_at q1 p3
      rcases isBo_no z with hz | ⟨l, rfl⟩
      · obtain ⟨B4, p4, Re, Rf, hB4, st3⟩ := pend (k := k) Rc Rd hB3 R3 g3 r3 hz
        exact hn s3 _ _ H3 (stR_at q2 p4) Rf ((st1.trans Rb st2).trans Rd st3)
      · exact q2.elim
    · exact ⟨B2, H0, ρ, s2, _, R2, qy, fun z s3 u H3 qz R3 g3 r3 => (stR_at qz p : False).elim⟩
  · exact ⟨B0, H0, ρ, s1, _, R1, qx, fun y s2 w H2 qy R2 g2 r2 => ⟨B0, H0, ρ, s2, _, R2, qy, fun z s3 u H3 qz R3 g3 r3 => (show False from qz).elim⟩⟩
theorem ds_par3 {i j k : Nat} {n1 n2 n3 : Str} {px py pz pt : Pos} {kt k2 pt2} {a b c : Expr} (hc : X.calm = true) (hN : X.N.Nodup) (hi : X.N[i]? = some n1) (hj : X.N[j]? = some n2) (hk : X.N[k]? = some n3) (hx : Loc X.env.scope n1) (hy : Loc X.env.scope n2) (hz : Loc X.env.scope n3) (ha : DE Z X a da) (hb : DE Z X b db) (hcc : DE Z X c dc)
    (hs : swapsWithSole [.Tuple [.Name n1 px, .Name n2 py, .Name n3 pz] kt pt] (.Tuple [a, b, c] k2 pt2) pos.line X.env = pure false := by rfl) (hw : swappedStores [.Tuple [.Name n1 px, .Name n2 py, .Name n3 pz] kt pt] (.Tuple [a, b, c] k2 pt2) X.env = pure none := by rfl) (h1 : (assignEach [.Tuple [.Name n1 px, .Name n2 py, .Name n3 pz] kt pt] X.env).map (·.2) = [assign (.Tuple [.Name n1 px, .Name n2 py, .Name n3 pz] kt pt) X.env] := by rfl)
    (s1 : starEach [a, b, c] X.env = (false, eval a X.env) :: starEach [b, c] X.env := by rfl) (s2 : starEach [b, c] X.env = (false, eval b X.env) :: starEach [c] X.env := by rfl) (s3 : starEach [c] X.env = (false, eval c X.env) :: starEach [] X.env := by rfl)
    (fx : X.fn n1 = true ∨ X.env.scope.names.lookup n1 = some .local := by first | exact .inl rfl | exact .inr rfl) (fy : X.fn n2 = true ∨ X.env.scope.names.lookup n2 = some .local := by first | exact .inl rfl | exact .inr rfl) (fz : X.fn n3 = true ∨ X.env.scope.names.lookup n3 = some .local := by first | exact .inl rfl | exact .inr rfl)
    (g1 : (assignEach [.Name n1 px, .Name n2 py, .Name n3 pz] X.env).map (·.2) = assign (.Name n1 px) X.env :: (assignEach [.Name n2 py, .Name n3 pz] X.env).map (·.2) := by rfl) (g2 : (assignEach [.Name n2 py, .Name n3 pz] X.env).map (·.2) = assign (.Name n2 py) X.env :: (assignEach [.Name n3 pz] X.env).map (·.2) := by rfl) (g3 : (assignEach [.Name n3 pz] X.env).map (·.2) = assign (.Name n3 pz) X.env :: (assignEach [] X.env).map (·.2) := by rfl)
    (gl : (assignEach [.Name n1 px, .Name n2 py, .Name n3 pz] X.env).length = 3 := by rfl) (gf : (assignEach [.Name n1 px, .Name n2 py, .Name n3 pz] X.env).findIdx? (·.1) = none := by rfl) :
    DS Z X (.Assign [.Tuple [.Name n1 px, .Name n2 py, .Name n3 pz] kt pt] (.Tuple [a, b, c] k2 pt2) pos) (dPar3 i j k da db dc) := by
  refine PS.of (ps_asg (pe_tup (pa_cons ha (pa_cons hb (pa_cons hcc pa_nil s3) s2) s1)) (pg_tup hc (pgs_cons (pg_name hN hi hx fx) (pgs_cons (pg_name hN hj hy fy) (pgs_cons (pg_name hN hk hz fz) pgs_nil g3) g2) g1) gl gf) hs hw h1) fun D σ H h => ?_
  have h' : liftS Z (dPar3 i j k da db dc) { D with nx := fun σ' H' => ∀ p xs, H' p = none → D.nx σ' (upd H' p (.tup xs)) } σ H := by
    obtain ⟨B0, H0, ρ, s, De, R, hd, hn, hr⟩ := h
    refine ⟨B0, H0, ρ, s, De, R, hd, fun s' ρ' σ' H' q R' st p xs hp => ?_, hr⟩
    have sm := same_new (o := .tup xs) hp
    exact hn s' ρ' σ' _ q (R'.same sm) (st.trans R' ((Gr.of sm).stp R'))
  obtain ⟨B0, H0, ρ, s, Qd, R, hd, hq⟩ := par3_ok h'
  refine ⟨B0, H0, ρ, s, Qd, R, hd, fun r s' v H' q R' g rr => ?_⟩
  obtain ⟨B1, H1, ρ1, s1, Q1, R1, hd1, hq1⟩ := hq r s' v H' q R' g rr
  refine ⟨B1, H1, ρ1, s1, Q1, R1, hd1, fun r2 s2 w H2 q2 R2 g2 rr2 => ?_⟩
  obtain ⟨B2, H3, ρ2, s3, Q2, R3, hd2, hq2⟩ := hq1 r2 s2 w H2 q2 R2 g2 rr2
  refine ⟨B2, H3, ρ2, s3, Q2, R3, hd2, fun r3 s4 u H4 q3 R4 g4 rr3 => ⟨by show 3 ≤ sizeLine; decide, fun p hp => ⟨p, [v, w, u], rfl, SqT.of upd_same, rfl, v, [w, u], rfl, w, [u], rfl, u, [], rfl, rfl, ?_⟩⟩⟩
  exact hq2 r3 s4 u H4 q3 R4 g4 rr3 p [v, w, u] hp
end
end Lf
namespace Lf
open PySem PySem.Spec PyProof.Rows L2
/-! ### own objects of any kind; own dicts -/
theorem viaP {α : Type} {M : α → Prop} {G : α → Prop} {C : Prop} (main : (∀ o, M o → G o) → C) (fin : ∀ o, M o → G o) : C := main fin
theorem viaR {Z : Zn} {M : Nat → Prop} {t : DSt Z} {De : DEnds Z} {s : Z.S} (R : Nat → List Sl) {C : Prop} (main : (∀ o, M o → t De s (R o)) → C) (fin : ∀ o, M o → t De s (R o)) : C := main fin
section
variable {Z : Zn} {X : Cx} {B0 B1 B B' : Addr → Prop} {H0 H H' H1 H2 : Hp} {ρ ρ' : List Sl} {s s1 s2 : Z.S} {σ σ' : L2.St} {v : V} {r : Rv} {da db dc dk de : DX Z} {e k : Expr} {pos : Pos}
theorem SlR.move {y : Sl} {o : Option V} (kl : ∀ b o, H b = some o → ¬ B b → H' b = some o ∧ ¬ B' b) (kt : ∀ b xs, H b = some (.tup xs) → H' b = some (.tup xs)) (kf : ∀ b o u, H b = some (.frz o u) → H' b = some (.frz o u)) (ko : ∀ a ob, ownOf y = some a → H a = some ob → H' a = some ob) (h : SlR B H y o) : SlR B' H' y o := by
  cases y with
  | no => trivial
  | im d =>
    obtain ⟨w, h3, h4⟩ := h
    exact ⟨w, h3, h4.mono kl kt kf⟩
  | ow a m =>
    obtain ⟨h3, ys, h4, h5⟩ := h
    exact ⟨h3, ys, ko a _ rfl h4, h5.mono kl kt kf⟩
  | od a m =>
    obtain ⟨h3, ys, h4, h5⟩ := h
    exact ⟨h3, ys, ko a _ rfl h4, h5.mono kl kt kf⟩
  | ot a m =>
    obtain ⟨h3, ys, h4, h5⟩ := h
    exact ⟨h3, ys, ko a _ rfl h4, h5.mono kl kt kf⟩
  | raw w => exact h
theorem SlR.ref {x : Sl} {o : Option V} {q : Addr} (h : SlR B H x o) (hx : ownOf x = some q) : o = some (.ref q) := by
  cases x with
  | no => cases hx
  | im d => cases hx
  | raw w => cases hx
  | ow a m => cases hx; exact h.1
  | od a m => cases hx; exact h.1
  | ot a m => cases hx; exact h.1
/-- a new owned object -/
theorem Rel.putG (R : Rel Z B0 H0 ρ s σ H) {i : Nat} {q : Addr} {o : HO} {x : Sl} (hq : H q = none) (hx : ownOf x = some q) (h : SlR (fun a => Bad Z B0 ρ a ∨ a = q) (upd H q o) x (some (.ref q))) : Rel Z B0 H0 (ρ.set i x) s (σ.set i (some (.ref q))) (upd H q o) := by
  have nz : ¬ Z.at_ q := fun z => Z.trk R.ok z hq
  have nb : ¬ B0 q := fun z => R.btr q z hq
  have no : q ∉ own ρ := fun z => R.otr z hq
  have sm := same_new (o := o) hq
  have R1 := R.same sm
  have hB : ∀ a, Bad Z B0 (ρ.set i x) a → Bad Z B0 ρ a ∨ a = q := fun a z => by
    rcases z with z | z | z
    · exact .inl (.inl z)
    · exact .inl (.inr (.inl z))
    · rcases mem_own_set z with z | z
      · exact .inl (.inr (.inr z))
      · rw [hx] at z; cases z; exact .inr rfl
  refine ⟨R1.ok, by rw [List.length_set, List.length_set]; exact R.len, fun j y e => ?_, nodup_own_set R.nd (fun a z => by rw [hx] at z; cases z; exact no), fun a ha => ?_, R1.btr, R1.frm⟩
  · rcases set_get e with ⟨rfl, rfl⟩ | ⟨ne, e⟩
    · have hi : i < σ.length := by
        rw [R.len]
        rcases Nat.lt_or_ge i ρ.length with z | z
        · exact z
        · rw [List.getElem?_eq_none (by rw [List.length_set]; exact z)] at e; cases e
      exact ⟨_, by rw [List.getElem?_set_self hi], h.bad hB⟩
    · obtain ⟨o', h1, h2⟩ := R.sl j y e
      refine ⟨o', by rw [List.getElem?_set_ne ne]; exact h1, ?_⟩
      refine h2.move (fun b o e n => ⟨sm b o e, fun z => (hB b z).elim n fun z => by subst z; rw [hq] at e; cases e⟩) (fun b ys e => sm b _ e) (fun b o u e => sm b _ e) (fun a ob _ e => sm a _ e)
  · rcases mem_own_set ha with z | z
    · exact R.fr a z
    · rw [hx] at z
      cases z
      exact ⟨R.h0 hq, nz, nb⟩
theorem own_setG : ∀ {ρ : List Sl} {i : Nat} {x x' : Sl} {q : Addr}, ρ[i]? = some x → ownOf x = some q → ownOf x' = some q → own (ρ.set i x') = own ρ
  | [], _, _, _, _, h, _, _ => by cases h
  | y :: ρ, 0, x, x', q, h, h1, h2 => by
    cases h
    rw [List.set_cons_zero, own_cons, own_cons, h1, h2]
  | y :: ρ, i + 1, x, x', q, h, h1, h2 => by
    rw [List.set_cons_succ, own_cons, own_cons, own_setG (i := i) h h1 h2]
theorem own_injG : ∀ {ρ : List Sl} {i j : Nat} {x y : Sl} {q : Addr}, (own ρ).Nodup → ρ[i]? = some x → ownOf x = some q → ρ[j]? = some y → ownOf y = some q → i = j
  | [], _, _, _, _, _, _, h, _, _, _ => by cases h
  | z :: ρ, i, j, x, y, q, nd, h1, hx, h2, hy => by
    rw [own_cons] at nd
    obtain ⟨n1, n2, n3⟩ := List.nodup_append.mp nd
    cases i with
    | zero =>
      cases j with
      | zero => rfl
      | succ j =>
        cases h1
        exact absurd rfl (n3 q (by rw [hx]; simp) q (own_memG (i := j) h2 hy))
    | succ i =>
      cases j with
      | zero =>
        cases h2
        exact absurd rfl (n3 q (by rw [hy]; simp) q (own_memG (i := i) h1 hx))
      | succ j => rw [own_injG n2 (i := i) (j := j) h1 hx h2 hy]
theorem keepG (R : Rel Z B0 H0 ρ s σ H) {i : Nat} {q : Addr} {o : HO} {x : Sl} (hi : ρ[i]? = some x) (hx : ownOf x = some q) : (∀ b ob, H b = some ob → ¬ Bad Z B0 ρ b → upd H q o b = some ob ∧ ¬ Bad Z B0 ρ b) ∧ (∀ b ys, H b = some (.tup ys) → upd H q o b = some (.tup ys)) ∧ (∀ b ob u, H b = some (.frz ob u) → upd H q o b = some (.frz ob u)) := by
  have mq := own_memG hi hx
  obtain ⟨ob, hob, n1, n2⟩ := R.ob hi hx
  exact ⟨fun b ob e n => ⟨by rw [upd_ne (fun z => n (by rw [z]; exact .inr (.inr mq)))]; exact e, n⟩, fun b ys e => by rw [upd_ne (fun z => by rw [z, hob] at e; exact n1 _ (Option.some.inj e))]; exact e, fun b ou u e => by rw [upd_ne (fun z => by rw [z, hob] at e; exact n2 _ _ (Option.some.inj e))]; exact e⟩
/-- an owned object is changed -/
theorem Rel.mutG (R : Rel Z B0 H0 ρ s σ H) {i : Nat} {q : Addr} {o : HO} {x x' : Sl} (hi : ρ[i]? = some x) (hx : ownOf x = some q) (hx' : ownOf x' = some q) (h : SlR (Bad Z B0 ρ) (upd H q o) x' (some (.ref q))) : Rel Z B0 H0 (ρ.set i x') s σ (upd H q o) := by
  have mq := own_memG hi hx
  obtain ⟨f1, f2, f3⟩ := R.fr q mq
  obtain ⟨o0, s0, e0⟩ := R.sl i _ hi
  have e0 := e0.ref hx
  subst e0
  have eo : own (ρ.set i x') = own ρ := own_setG hi hx hx'
  have eB : ∀ a, Bad Z B0 (ρ.set i x') a ↔ Bad Z B0 ρ a := fun a => by unfold Bad; rw [eo]
  obtain ⟨kl, kt, kf⟩ := keepG (o := o) R hi hx
  refine ⟨Z.st R.ok (fun b o z e => by rw [upd_ne (fun y => f2 (by rw [← y]; exact z))]; exact e) kt kf (fun b u e => by rw [upd_ne (fun z => R.nx hi hx u (by rw [← z]; exact e))]; exact e), by rw [List.length_set]; exact R.len, fun j y e => ?_, by rw [eo]; exact R.nd, fun a ha => by rw [eo] at ha; exact R.fr a ha, fun a ha z => ?_, fun b o e n => ?_⟩
  · rcases set_get e with ⟨rfl, rfl⟩ | ⟨ne, e9⟩
    · exact ⟨_, s0, h.bad fun a z => (eB a).mp z⟩
    · obtain ⟨o', h1, h2⟩ := R.sl j y e9
      refine ⟨o', h1, h2.move (fun b ob e n => ⟨(kl b ob e n).1, fun z => n ((eB b).mp z)⟩) kt kf fun a ob hy e => ?_⟩
      rw [upd_ne (fun z => by subst z; exact ne (own_injG R.nd hi hx e9 hy))]
      exact e
  · by_cases y : a = q
    · exact f3 (by rw [← y]; exact ha)
    · rw [upd_ne y] at z
      exact R.btr a ha z
  · rw [upd_ne (fun z => by rw [z, f1] at e; cases e)]
    exact R.frm b o e n
theorem mut_stpG (R : Rel Z B0 H0 ρ s σ H) {i : Nat} {q : Addr} {o : HO} {x x' : Sl} (hi : ρ[i]? = some x) (hx : ownOf x = some q) (hx' : ownOf x' = some q) : Stp Z B0 ρ H (ρ.set i x') (upd H q o) := by
  obtain ⟨kl, kt, kf⟩ := keepG (o := o) R hi hx
  refine ⟨fun b o e n => (kl b o e n).1, kt, kf, fun a ha => .inl ?_⟩
  rw [own_setG hi hx hx'] at ha
  exact ha
/-! ### the entries of a dict, as data -/
section
variable {κ : Type} [DecidableEq κ]
def valD (es : List (κ × PyData)) (k : κ) : Option PyData := (es.find? fun kv => decide (kv.1 = k)).map (·.2)
def putD (es : List (κ × PyData)) (k : κ) (d : PyData) : List (κ × PyData) :=
  if (es.any fun kv => decide (kv.1 = k)) = true then es.map (fun kv => if kv.1 = k then (kv.1, d) else kv) else es ++ [(k, d)]
theorem ImPs.length : ∀ {kvs : List (κ × V)} {es : List (κ × PyData)}, ImPs B H kvs es → kvs.length = es.length
  | _, _, .nil => rfl
  | _, _, .cons _ q => congrArg (· + 1) q.length
theorem ImPs.val {k : κ} : ∀ {kvs : List (κ × V)} {es : List (κ × PyData)}, ImPs B H kvs es → (valD es k = none ∧ valV kvs k = none) ∨ ∃ d v, valD es k = some d ∧ valV kvs k = some v ∧ Im B H v d
  | _, _, .nil => .inl ⟨rfl, rfl⟩
  | _, _, .cons (k := j) (v := v) (d := d) (r := r) (es := es) h q => by
    by_cases z : j = k
    · exact .inr ⟨d, v, by simp [valD, List.find?_cons, z], by simp [valV, List.find?_cons, z], h⟩
    · have e1 : valD ((j, d) :: es) k = valD es k := by simp [valD, List.find?_cons, z]
      have e2 : valV ((j, v) :: r) k = valV r k := by simp [valV, List.find?_cons, z]
      rw [e1, e2]
      exact q.val
theorem ImPs.anyk {k : κ} : ∀ {kvs : List (κ × V)} {es : List (κ × PyData)}, ImPs B H kvs es → (kvs.any fun kv => decide (kv.1 = k)) = (es.any fun kv => decide (kv.1 = k))
  | _, _, .nil => rfl
  | _, _, .cons h q => by rw [List.any_cons, List.any_cons, q.anyk]
theorem ImPs.mapk {k : κ} {v : V} {d : PyData} (hv : Im B H v d) : ∀ {kvs : List (κ × V)} {es : List (κ × PyData)}, ImPs B H kvs es → ImPs B H (kvs.map fun kv => if kv.1 = k then (kv.1, v) else kv) (es.map fun kv => if kv.1 = k then (kv.1, d) else kv)
  | _, _, .nil => .nil
  | _, _, .cons (k := j) h q => by
    rw [List.map_cons, List.map_cons]
    by_cases z : j = k
    · rw [if_pos z, if_pos z]
      exact .cons hv (q.mapk hv)
    · rw [if_neg z, if_neg z]
      exact .cons h (q.mapk hv)
theorem ImPs.snoc {k : κ} {v : V} {d : PyData} (hv : Im B H v d) : ∀ {kvs : List (κ × V)} {es : List (κ × PyData)}, ImPs B H kvs es → ImPs B H (kvs ++ [(k, v)]) (es ++ [(k, d)])
  | _, _, .nil => .cons hv .nil
  | _, _, .cons h q => .cons h (q.snoc hv)
theorem ImPs.put {k : κ} {v : V} {d : PyData} {kvs : List (κ × V)} {es : List (κ × PyData)} (q : ImPs B H kvs es) (hv : Im B H v d) : ImPs B H (putK kvs k v) (putD es k d) := by
  unfold putK putD
  rw [q.anyk]
  split
  · exact q.mapk hv
  · exact q.snoc hv
theorem putD_len (es : List (κ × PyData)) (k : κ) (d : PyData) : (putD es k d).length ≤ es.length + 1 := by
  unfold putD
  split
  · rw [List.length_map]; omega
  · rw [List.length_append]; exact Nat.le_refl _
theorem valD_put (es : List (κ × PyData)) (k j : κ) (d : PyData) : valD (putD es k d) j = if j = k then some d else valD es j := by
  have hmap : ∀ es : List (κ × PyData), valD (es.map fun kv => if kv.1 = k then (kv.1, d) else kv) j = if j = k then (if (es.any fun kv => decide (kv.1 = k)) = true then some d else none) else valD es j := fun es => by
    induction es with
    | nil => split <;> rfl
    | cons p es ih =>
      obtain ⟨a, b⟩ := p
      rw [List.map_cons]
      by_cases z : a = k
      · by_cases y : j = k
        · subst z; subst y
          simp [valD]
        · have : ¬ a = j := fun w => y (by rw [← w, z])
          rw [if_pos z, if_neg y]
          rw [if_neg y] at ih
          have e1 : valD ((a, d) :: (es.map fun kv => if kv.1 = k then (kv.1, d) else kv)) j = valD (es.map fun kv => if kv.1 = k then (kv.1, d) else kv) j := by simp [valD, List.find?_cons, this]
          have e2 : valD ((a, b) :: es) j = valD es j := by simp [valD, List.find?_cons, this]
          rw [e1, e2, ih]
      · rw [if_neg z]
        by_cases w : a = j
        · have y : ¬ j = k := fun y => z (by rw [w, y])
          rw [if_neg y]
          simp [valD, List.find?_cons, w]
        · have e1 : valD ((a, b) :: (es.map fun kv => if kv.1 = k then (kv.1, d) else kv)) j = valD (es.map fun kv => if kv.1 = k then (kv.1, d) else kv) j := by simp [valD, List.find?_cons, w]
          have e2 : valD ((a, b) :: es) j = valD es j := by simp [valD, List.find?_cons, w]
          rw [e1, e2, ih, List.any_cons, decide_eq_false z, Bool.false_or]
  unfold putD
  split
  · next h =>
    rw [hmap es, if_pos h]
  · next h =>
    have hno : ∀ p ∈ es, ¬ p.1 = k := fun p hp z => h (List.any_eq_true.mpr ⟨p, hp, decide_eq_true z⟩)
    unfold valD
    rw [List.find?_append]
    by_cases y : j = k
    · subst y
      rw [List.find?_eq_none.mpr (fun p hp => by simpa using hno p hp)]
      simp
    · rw [if_neg y]
      have : ¬ k = j := fun w => y w.symm
      simp [this]
end
/-! ### x = {}; x[k] = e; x[k]; k in x -/
def keyOf : PyData → Option Key
  | .int i => some (.inl i)
  | .str z => some (.inr z)
  | _ => none
theorem RvR.key {d : PyData} {key : Key} (h : RvR Z B0 ρ H H1 v r) (e : r.D = some d) (ek : keyOf d = some key) : v = kV key := by
  cases d with
  | int i => cases ek; exact h.vI e
  | str i => cases ek; exact h.vS e
  | _ => cases ek
def dNewD (i : Nat) : DSt Z := fun De s ρ => ∀ a, De.nx s (ρ.set i (.od a []))
theorem ds_newD {i : Nat} {n : Str} {pos' dpos : Pos} (hNd : X.N.Nodup) (hj : X.N[i]? = some n) (hx : Loc X.env.scope n) (hsw : swapsWith (.Dict [] [] dpos) (some (.Name n pos')) pos.line X.env = pure false := by rfl) (hf : X.fn n = true ∨ X.env.scope.names.lookup n = some .local := by first | exact .inl rfl | exact .inr rfl | assumption) :
    DS Z X (.Assign [.Name n pos'] (.Dict [] [] dpos) pos) (dNewD i) := by
  refine PS.of (ps_set hNd hj hx pe_dnewK hsw hf) fun D σ H ⟨B0, H0, ρ, s, De, R, hd, hn, _⟩ => ?_
  intro p hp
  have st := (Gr.of (Z := Z) (same_new (o := .dK []) hp)).stp R
  refine hn s _ _ _ (hd p) (R.putG hp rfl ⟨rfl, [], upd_same, .nil⟩) ⟨st.keep, st.tups, st.frzs, fun a ha => (mem_own_set ha).elim .inl fun y => by cases y; exact .inr hp⟩
def dPutD (i : Nat) (dk de : DX Z) : DSt Z := fun De s ρ => match ρ[i]? with
  | some (.od q es) => de s ρ fun r s1 => dk s1 ρ fun k s2 => ∃ d kd key, r.st = some d ∧ k.D = some kd ∧ keyOf kd = some key ∧ es.length < 1000000 ∧ De.nx s2 (ρ.set i (.od q (putD es key d)))
  | _ => False
theorem ds_putD {i : Nat} {n : Str} {np ps : Pos} (hu : X.A.units + 65 < cLine) (hN : X.N[i]? = some n) (hv : Vis X.env.scope n) (hk : DE Z X k dk) (he : DE Z X e de) (hd : (n == ("__debug__" : Str)) = false := by decide) (hcd : (n == ("__classdict__" : Str)) = false := by decide)
    (hs : swapsWith e (some (.Subscript (.Name n np) k ps)) pos.line X.env = pure false := by rfl) : DS Z X (.Assign [.Subscript (.Name n np) k ps] e pos) (dPutD i dk de) := by
  refine PS.of (ps_dput (by omega) (pe_var hN hv hd hcd) hk he hs) fun D σ H ⟨B0, H0, ρ, s, De, R, hd, hn, _⟩ => ?_
  unfold dPutD at hd
  split at hd
  · rename_i q es e1
    refine ⟨B0, H0, ρ, s, _, R, hd, fun r s1 v H1 qx R1 g1 r1 => ?_⟩
    obtain ⟨o, s0, rfl, kvs, hq, im⟩ := R1.sl i _ e1
    refine ⟨.ref q, s0, B0, H0, ρ, s1, _, R1, qx, fun y s2 w H2 qk R2 g2 r2 => ?_⟩
    obtain ⟨d, kd, key, h1, h2, h3, h4, qn⟩ := qk
    obtain ⟨_, _, _, kvs2, hq2, im2⟩ := R2.sl i _ e1
    have iv := RvR.st R (r1.grow R1 g2) h1
    refine ⟨q, upd H2 q (.dK (putK kvs2 key v)), rfl, ?_, ?_⟩
    · rw [r2.key h2 h3]
      exact DPut.k hq2 (by rw [im2.length]; exact smL h4)
    · obtain ⟨kl, kt, kf⟩ := keepG (o := .dK (putK kvs2 key v)) R2 e1 rfl
      exact hn s2 _ σ _ qn (R2.mutG e1 rfl rfl ⟨rfl, _, upd_same, (im2.put iv).mono kl kt kf⟩) ((g1.stp R).trans R1 ((g2.stp R1).trans R2 (mut_stpG R2 e1 rfl rfl)))
  · exact hd.elim
def dGetD (i : Nat) (dk : DX Z) : DX Z := fun s ρ Q => match ρ[i]? with
  | some (.od q es) => dk s ρ fun k s1 => ∃ kd key d, k.D = some kd ∧ keyOf kd = some key ∧ valD es key = some d ∧ Q (.im d) s1
  | _ => False
theorem de_getD {i : Nat} {n : Str} {np : Pos} (hu : X.A.units + 65 < cLine) (hN : X.N[i]? = some n) (hv : Vis X.env.scope n) (hk : DE Z X k dk) (hs : NoSl k := by intro _ _; rfl) (hd : (n == ("__debug__" : Str)) = false := by decide) (hcd : (n == ("__classdict__" : Str)) = false := by decide) : DE Z X (.Subscript (.Name n np) k pos) (dGetD i dk) := by
  refine PE.of (pe_dget (by omega) (pe_var hN hv hd hcd) hk hs) fun σ H Q ⟨B0, H0, ρ, s, Qd, R, hd, hq⟩ => ?_
  unfold dGetD at hd
  split at hd
  · rename_i q es e1
    obtain ⟨o, s0, rfl, kvs, hq0, im⟩ := R.sl i _ e1
    refine ⟨.ref q, s0, B0, H0, ρ, s, _, R, hd, fun y s1 w H1 qk R1 g1 r1 => ?_⟩
    obtain ⟨kd, key, d, h2, h3, h4, qn⟩ := qk
    obtain ⟨_, _, _, kvs1, hq1, im1⟩ := R1.sl i _ e1
    rcases im1.val (k := key) with ⟨z, _⟩ | ⟨d', v', z1, z2, z3⟩
    · rw [h4] at z; cases z
    · rw [h4] at z1
      cases z1
      refine ⟨q, v', rfl, ?_, hq _ s1 v' H1 qn R1 g1 z3⟩
      rw [r1.key h2 h3, ← z2]
      exact DGet.k hq1
  · exact hd.elim
def dInD (neg : Bool) (i : Nat) (dk : DX Z) : DX Z := fun s ρ Q => dk s ρ fun k s1 => match ρ[i]? with
  | some (.od q es) => ∃ kd key, k.D = some kd ∧ keyOf kd = some key ∧ Q (.im (.bool (neg != (valD es key).isSome))) s1
  | _ => False
/-! ### a, b, c = x, y, {} -/
def dPar3D (i j k : Nat) (da db : DX Z) : DSt Z := fun De s ρ => da s ρ fun x s1 => db s1 ρ fun y s2 => stR x i ρ fun ρ1 => stR y j ρ1 fun ρ2 => ∀ a, De.nx s2 (ρ2.set k (.od a []))
theorem par3D_ok {i j k : Nat} {D : Ends} {σ : L2.St} {H : Hp} (h : liftS Z (dPar3D i j k da db) D σ H) : liftE Z da σ H fun v H1 => liftE Z db σ H1 fun w H2 => ∀ u, H2 u = none → D.nx (((σ.set i (some v)).set j (some w)).set k (some (.ref u))) (upd H2 u (.dK [])) := by
  obtain ⟨B0, H0, ρ, s, De, R, hd, hn, _⟩ := h
  refine ⟨B0, H0, ρ, s, _, R, hd, fun x s1 v H1 qx R1 g1 r1 => ?_⟩
  rcases isBo_no x with hx | ⟨l, rfl⟩
  · obtain ⟨B2, p, Ra, Rb, hB, st1⟩ := pend (k := i) R R (fun a z => z) R1 g1 r1 hx
    refine ⟨B2, H0, ρ, s1, _, Ra, qx, fun y s2 w H2 qy R2 g2 r2 u hu => ?_⟩
    rcases isBo_no y with hy | ⟨l, rfl⟩
    · obtain ⟨B3, p3, Rc, Rd, hB3, st2⟩ := pend (k := j) Ra Rb hB R2 g2 r2 hy
      have q1 := stR_at qy p
      have q2 := stR_at q1 p3
      have st := (Gr.of (Z := Z) (same_new (o := .dK []) hu)).stp Rd
      exact hn s2 _ _ _ (q2 u) (Rd.putG hu rfl ⟨rfl, [], upd_same, .nil⟩) ((st1.trans Rb st2).trans Rd ⟨st.keep, st.tups, st.frzs, fun a ha => (mem_own_set ha).elim .inl fun y => by cases y; exact .inr hu⟩)
    · exact (stR_at qy p : False).elim
  · exact ⟨B0, H0, ρ, s1, _, R1, qx, fun y s2 w H2 qy R2 g2 r2 => (show False from qy).elim⟩
theorem ds_par3D {i j k : Nat} {n1 n2 n3 : Str} {px py pz pt pd : Pos} {kt k2 pt2} {a b : Expr} (hc : X.calm = true) (hN : X.N.Nodup) (hi : X.N[i]? = some n1) (hj : X.N[j]? = some n2) (hk : X.N[k]? = some n3) (hx : Loc X.env.scope n1) (hy : Loc X.env.scope n2) (hz : Loc X.env.scope n3) (ha : DE Z X a da) (hb : DE Z X b db)
    (hs : swapsWithSole [.Tuple [.Name n1 px, .Name n2 py, .Name n3 pz] kt pt] (.Tuple [a, b, .Dict [] [] pd] k2 pt2) pos.line X.env = pure false := by rfl) (hw : swappedStores [.Tuple [.Name n1 px, .Name n2 py, .Name n3 pz] kt pt] (.Tuple [a, b, .Dict [] [] pd] k2 pt2) X.env = pure none := by rfl) (h1 : (assignEach [.Tuple [.Name n1 px, .Name n2 py, .Name n3 pz] kt pt] X.env).map (·.2) = [assign (.Tuple [.Name n1 px, .Name n2 py, .Name n3 pz] kt pt) X.env] := by rfl)
    (s1 : starEach [a, b, .Dict [] [] pd] X.env = (false, eval a X.env) :: starEach [b, .Dict [] [] pd] X.env := by rfl) (s2 : starEach [b, .Dict [] [] pd] X.env = (false, eval b X.env) :: starEach [.Dict [] [] pd] X.env := by rfl) (s3 : starEach [.Dict [] [] pd] X.env = (false, eval (.Dict [] [] pd) X.env) :: starEach [] X.env := by rfl)
    (fx : X.fn n1 = true ∨ X.env.scope.names.lookup n1 = some .local := by first | exact .inl rfl | exact .inr rfl) (fy : X.fn n2 = true ∨ X.env.scope.names.lookup n2 = some .local := by first | exact .inl rfl | exact .inr rfl) (fz : X.fn n3 = true ∨ X.env.scope.names.lookup n3 = some .local := by first | exact .inl rfl | exact .inr rfl)
    (g1 : (assignEach [.Name n1 px, .Name n2 py, .Name n3 pz] X.env).map (·.2) = assign (.Name n1 px) X.env :: (assignEach [.Name n2 py, .Name n3 pz] X.env).map (·.2) := by rfl) (g2 : (assignEach [.Name n2 py, .Name n3 pz] X.env).map (·.2) = assign (.Name n2 py) X.env :: (assignEach [.Name n3 pz] X.env).map (·.2) := by rfl) (g3 : (assignEach [.Name n3 pz] X.env).map (·.2) = assign (.Name n3 pz) X.env :: (assignEach [] X.env).map (·.2) := by rfl)
    (gl : (assignEach [.Name n1 px, .Name n2 py, .Name n3 pz] X.env).length = 3 := by rfl) (gf : (assignEach [.Name n1 px, .Name n2 py, .Name n3 pz] X.env).findIdx? (·.1) = none := by rfl) :
    DS Z X (.Assign [.Tuple [.Name n1 px, .Name n2 py, .Name n3 pz] kt pt] (.Tuple [a, b, .Dict [] [] pd] k2 pt2) pos) (dPar3D i j k da db) := by
  refine PS.of (ps_asg (pe_tup (pa_cons ha (pa_cons hb (pa_cons pe_dnewK pa_nil s3) s2) s1)) (pg_tup hc (pgs_cons (pg_name hN hi hx fx) (pgs_cons (pg_name hN hj hy fy) (pgs_cons (pg_name hN hk hz fz) pgs_nil g3) g2) g1) gl gf) hs hw h1) fun D σ H h => ?_
  have h' : liftS Z (dPar3D i j k da db) { D with nx := fun σ' H' => ∀ p xs, H' p = none → D.nx σ' (upd H' p (.tup xs)) } σ H := by
    obtain ⟨B0, H0, ρ, s, De, R, hd, hn, hr⟩ := h
    refine ⟨B0, H0, ρ, s, De, R, hd, fun s' ρ' σ' H' q R' st p xs hp => ?_, hr⟩
    have sm := same_new (o := .tup xs) hp
    exact hn s' ρ' σ' _ q (R'.same sm) (st.trans R' ((Gr.of sm).stp R'))
  obtain ⟨B0, H0, ρ, s, Qd, R, hd, hq⟩ := par3D_ok h'
  refine ⟨B0, H0, ρ, s, Qd, R, hd, fun r s' v H' q R' g rr => ?_⟩
  obtain ⟨B1, H1, ρ1, s1, Q1, R1, hd1, hq1⟩ := hq r s' v H' q R' g rr
  refine ⟨B1, H1, ρ1, s1, Q1, R1, hd1, fun r2 s2 w H2 q2 R2 g2 rr2 u hu => ⟨by show 3 ≤ sizeLine; decide, fun p hp => ⟨p, [v, w, .ref u], rfl, SqT.of upd_same, rfl, v, [w, .ref u], rfl, w, [.ref u], rfl, .ref u, [], rfl, rfl, ?_⟩⟩⟩
  exact hq1 r2 s2 w H2 q2 R2 g2 rr2 u hu p [v, w, .ref u] hp
/-! ### xs.insert(i, xs.pop(j)) -/
def dInsPop (i : Nat) (da db : DX Z) : DSt Z := fun De s ρ => match ρ[i]? with
  | some (.ow q l) => da s ρ fun x s1 => db s1 ρ fun y s2 => match x.D, y.D with
    | some (.int n), some (.int m) => 0 ≤ n ∧ n < 1000000 ∧ 0 ≤ m ∧ m < 1000000 ∧ l.length < 1000000 ∧ ∃ d, l[m.toNat]? = some d ∧ De.nx s2 (ρ.set i (.ow q ((l.eraseIdx m.toNat).take n.toNat ++ [d] ++ (l.eraseIdx m.toNat).drop n.toNat)))
    | _, _ => False
  | _ => False
theorem ds_insPop {i : Nat} {n : Str} {a b : Expr} {np np2 ap ap2 cp cp2 : Pos} (hN : X.N[i]? = some n) (hv : Vis X.env.scope n) (ha : DE Z X a da) (hb : DE Z X b db)
    (hd : (n == ("__debug__" : Str)) = false := by decide) (hcd : (n == ("__classdict__" : Str)) = false := by decide)
    (hbase : attributeBase (.Name n np) "insert" X.env (eval (.Name n np) X.env) = eval (.Name n np) X.env := by rfl) (hbase2 : attributeBase (.Name n np2) "pop" X.env (eval (.Name n np2) X.env) = eval (.Name n np2) X.env := by rfl)
    (hfew2 : ((backTo cp2 (starEach [b] X.env)).all (fun x => !x.1) && (backToKw cp2 (keywordEach [] X.env)).all (fun x => x.1.isSome) && decide ([b].length + ([] : List Keyword).length + (if ([] : List Keyword).isEmpty then 0 else 1) < 30)) = true := by rfl)
    (hfew : ((backTo cp (starEach [a, .Call (.Attribute (.Name n np2) "pop" ap2) [b] [] cp2] X.env)).all (fun x => !x.1) && (backToKw cp (keywordEach [] X.env)).all (fun x => x.1.isSome) && decide ([a, Expr.Call (.Attribute (.Name n np2) "pop" ap2) [b] [] cp2].length + ([] : List Keyword).length + (if ([] : List Keyword).isEmpty then 0 else 1) < 30)) = true := by rfl)
    (hline : (ap.endLine == cp.line) = true := by rfl) (hline2 : (ap2.endLine == cp2.line) = true := by rfl) (hs2 : starEach [b] X.env = (false, eval b X.env) :: starEach [] X.env := by rfl)
    (hs : starEach [a, .Call (.Attribute (.Name n np2) "pop" ap2) [b] [] cp2] X.env = (false, eval a X.env) :: starEach [.Call (.Attribute (.Name n np2) "pop" ap2) [b] [] cp2] X.env := by rfl) (hs3 : starEach [.Call (.Attribute (.Name n np2) "pop" ap2) [b] [] cp2] X.env = (false, eval (.Call (.Attribute (.Name n np2) "pop" ap2) [b] [] cp2) X.env) :: starEach [] X.env := by rfl)
    (hp : (backTo cp (starEach [.Call (.Attribute (.Name n np2) "pop" ap2) [b] [] cp2] X.env)).any (·.1) = false := by rfl) (hp2 : (backTo cp2 (starEach [] X.env)).any (·.1) = false := by rfl) (hsw : swapsWith (.Call (.Attribute (.Name n np) "insert" ap) [a, .Call (.Attribute (.Name n np2) "pop" ap2) [b] [] cp2] [] cp) none pos.line X.env = pure false := by rfl) :
    DS Z X (.Expr (.Call (.Attribute (.Name n np) "insert" ap) [a, .Call (.Attribute (.Name n np2) "pop" ap2) [b] [] cp2] [] cp) pos) (dInsPop i da db) := by
  refine PS.of (ps_expr (pe_bm PySem.F.plainAttrs_list PySem.F.slot_list_insert PySem.F.type_list_insert mt_insert (pe_var hN hv hd hcd) (pa_cons ha (pa_cons (pe_bm PySem.F.plainAttrs_list PySem.F.slot_list_pop PySem.F.type_list_pop mt_popAt (pe_var hN hv hd hcd) (pa_cons hb pa_nil hs2) hbase2 hfew2 hline2 hs2 hp2) pa_nil hs3) hs) hbase hfew hline hs hp) hsw) fun D σ H ⟨B0, H0, ρ, s, De, R, hd, hn, _⟩ => ?_
  unfold dInsPop at hd
  split at hd
  · rename_i q l e1
    obtain ⟨o, s0, rfl, xs, hq, im⟩ := R.sl i _ e1
    refine ⟨.ref q, s0, .inl ⟨rfl, xs, SqL.of hq⟩, B0, H0, ρ, s, _, R, hd, fun x s1 v H1 qx R1 g1 r1 => ?_⟩
    obtain ⟨_, _, _, xs1, hq1, im1⟩ := R1.sl i _ e1
    refine ⟨.ref q, s0, .inl ⟨rfl, xs1, SqL.of hq1⟩, B0, H0, ρ, s1, _, R1, qx, fun y s2 w H2 qy R2 g2 r2 => ?_⟩
    split at qy
    · rename_i m1 m2 ex ey
      obtain ⟨a1, a2, a3, a4, a5, d, hdd, qn⟩ := qy
      obtain ⟨_, _, _, xs2, hq2, im2⟩ := R2.sl i _ e1
      obtain ⟨u, hu, iu⟩ := im2.get hdd
      have hlt : m2.toNat < xs2.length := (List.getElem?_eq_some_iff.mp hu).1
      have ll := im2.length
      refine ⟨q, xs2, m2, m2.toNat, u, rfl, by rw [r2.vI ey], hq2, by omega, by omega, PySem.StrLaws.seqIndex_nonneg a3 (by omega), hu, ?_⟩
      refine ⟨q, xs2.eraseIdx m2.toNat, m1, u, rfl, by rw [r1.vI ex], upd_same, ?_, a1, by omega, ?_⟩
      · rw [List.length_eraseIdx_of_lt hlt]
        exact smL (by omega)
      · have e2 : upd (upd H2 q (.lst (xs2.eraseIdx m2.toNat))) q (.lst ((xs2.eraseIdx m2.toNat).take m1.toNat ++ [u] ++ (xs2.eraseIdx m2.toNat).drop m1.toNat)) = upd H2 q (.lst ((xs2.eraseIdx m2.toNat).take m1.toNat ++ [u] ++ (xs2.eraseIdx m2.toNat).drop m1.toNat)) := by
          funext b
          by_cases z : b = q
          · rw [z, upd_same, upd_same]
          · rw [upd_ne z, upd_ne z, upd_ne z]
        show D.nx σ _
        rw [e2]
        exact hn s2 _ σ _ qn (R2.mutL e1 ((((im2.erase m2.toNat).take _).snoc iu).append ((im2.erase m2.toNat).drop _))) ((g1.stp R).trans R1 ((g2.stp R1).trans R2 (mut_stp R2 e1)))
    · exact qy.elim
  · exact hd.elim
end
end Lf
namespace Lf
open PySem PySem.Spec PyProof.Rows L2
section
variable {Z : Zn} {X : Cx} {a b e : Expr} {es : List Expr} {da db : DX Z} {das : DA Z} {pos p : Pos} {K : PySem.W.Frag}
/-! ### x is True, x is not False -/
def opIsB (neg : Bool) : Op := fun x y Q => match x.D, y.D with
  | some (.bool i), some (.bool j) => Q (.im (.bool (neg != decide (i = j))))
  | _, _ => False
theorem o2_isB : Op2 K rIsB (opIsB false) := by
  intro Z B0 ρ s H0 σ Ha Hb H v u x y Qd Q R rx ry q k
  unfold opIsB at q
  split at q
  · rename_i i j e1 e2
    refine ⟨i, j, rx.vB e1, ry.vB e2, k _ _ _ q (Same.refl H) ?_⟩
    rw [Bool.false_bne]
    exact Im.bl _
  · exact q.elim
theorem o2_notB : Op2 K rNotB (opIsB true) := by
  intro Z B0 ρ s H0 σ Ha Hb H v u x y Qd Q R rx ry q k
  unfold opIsB at q
  split at q
  · rename_i i j e1 e2
    refine ⟨i, j, rx.vB e1, ry.vB e2, k _ _ _ q (Same.refl H) ?_⟩
    rw [Bool.true_bne]
    exact Im.bl _
  · exact q.elim
theorem dt_isB (ha : DE Z X a da) (hb : DE Z X b db) (hm : behindInMarks .Is b = false := by rfl) : DTs Z X (.Compare a [.Is] [b] pos) (dTst (dBin (opIsB false) da db)) := dt_cmp op_isBl o2_isB ha hb hm
theorem dt_notB (ha : DE Z X a da) (hb : DE Z X b db) (hm : behindInMarks .IsNot b = false := by rfl) : DTs Z X (.Compare a [.IsNot] [b] pos) (dTst (dBin (opIsB true) da db)) := dt_cmp op_notBl o2_notB ha hb hm
theorem de_isB (ha : DE Z X a da) (hb : DE Z X b db) (hm : behindInMarks .Is b = false := by rfl) : DE Z X (.Compare a [.Is] [b] pos) (dBin (opIsB false) da db) := PE.of (pe_cmpR op_isBl ha hb hm) fun σ H Q h => lift_bin (K := X.K) o2_isB h
theorem de_notB (ha : DE Z X a da) (hb : DE Z X b db) (hm : behindInMarks .IsNot b = false := by rfl) : DE Z X (.Compare a [.IsNot] [b] pos) (dBin (opIsB true) da db) := PE.of (pe_cmpR op_notBl ha hb hm) fun σ H Q h => lift_bin (K := X.K) o2_notB h
/-! ### str of a number or a tuple -/
def opStr : Cb := fun rs Q => match rs with
  | [x] => match x.D with
    | some d => d.showable = true ∧ d.depth ≤ 100 ∧ d.shown.length ≤ sizeLine ∧ ((∃ i, d = .int i) ∨ ∃ ds, d = .tuple ds) ∧ Q (.im (.str d.shown))
    | _ => False
  | _ => False
theorem de_strC (sys : ∃ o, X.base.get? sysModules = some o) (hgu : X.A.guards = some []) (hu : X.A.units + 200 < cLine) (hg : Gl X "str") (hm : X.mg "str" = none) (ha : DAs Z X (e :: es) das) (he : starEach (e :: es) X.env = (false, eval e X.env) :: starEach es X.env := by rfl) (hpl : (backTo pos (starEach es X.env)).any (·.1) = false := by rfl) : DE Z X (.Call (.Name "str" p) (e :: es) [] pos) (dCB opStr das) := by
  refine PE.of (pe_callTy (call_strA sys hgu hu) hg hm (by decide +kernel) ha (by decide) (by decide) he hpl) fun σ H Q h => lift_cb ?_ h
  intro Z B0 ρ s H0 σ Ha H vs xs Qd Q R rr q k
  unfold opStr at q
  split at q
  · obtain ⟨v, rfl, r1⟩ := rr.one
    split at q
    · rename_i d e1
      exact ⟨v, d, rfl, (r1.rd e1).rp, q.1, q.2.1, q.2.2.1, q.2.2.2.1, k _ _ _ q.2.2.2.2 (Same.refl H) (Im.str _)⟩
    · exact q.elim
  · exact q.elim
end
end Lf
namespace Lf
open PySem PySem.Spec PyProof.Rows L2
/-! ### texts -/
section
variable {Z : Zn} {X : Cx} {a b e : Expr} {es : List Expr} {da db : DX Z} {das : DA Z} {pos p apos : Pos} {K : PySem.W.Frag} {st : Stmt} {sts : List Stmt} {t : DSt Z}
def dSm0 (g : Str → PyData) (da : DX Z) : DX Z := fun s ρ Q => da s ρ fun x s1 => match x.D with
  | some (.str z) => Q (.im (g z)) s1
  | _ => False
theorem de_isdigit (ha : DE Z X a da) (hbase : attributeBase a "isdigit" X.env (eval a X.env) = eval a X.env := by rfl) (hline : (apos.endLine == pos.line) = true := by rfl) : DE Z X (.Call (.Attribute a "isdigit" apos) [] [] pos) (dSm0 (fun z => .bool (Txt.isdigit z)) da) := by
  refine PE.of (pe_m0 PySem.F.slot_str_isdigit PySem.F.type_str_isdigit mt_isdigit ha hbase hline) fun σ H Q ⟨B0, H0, ρ, s, Qd, R, hd, hq⟩ => ?_
  refine ⟨B0, H0, ρ, s, _, R, hd, fun x s1 v H1 qx R1 g1 r1 => ?_⟩
  split at qx
  · rename_i z e1
    cases r1.vS e1
    exact ⟨⟨_, rfl⟩, z, rfl, rfl, trivial, hq _ s1 _ H1 qx R1 g1 (Im.bl _)⟩
  · exact qx.elim
theorem de_isascii (ha : DE Z X a da) (hbase : attributeBase a "isascii" X.env (eval a X.env) = eval a X.env := by rfl) (hline : (apos.endLine == pos.line) = true := by rfl) : DE Z X (.Call (.Attribute a "isascii" apos) [] [] pos) (dSm0 (fun z => .bool (Txt.isascii z)) da) := by
  refine PE.of (pe_m0 PySem.F.slot_str_isascii PySem.F.type_str_isascii mt_isascii ha hbase hline) fun σ H Q ⟨B0, H0, ρ, s, Qd, R, hd, hq⟩ => ?_
  refine ⟨B0, H0, ρ, s, _, R, hd, fun x s1 v H1 qx R1 g1 r1 => ?_⟩
  split at qx
  · rename_i z e1
    cases r1.vS e1
    exact ⟨⟨_, rfl⟩, z, rfl, rfl, trivial, hq _ s1 _ H1 qx R1 g1 (Im.bl _)⟩
  · exact qx.elim
def dSm1 (C : Str → Str → Prop) (g : Str → Str → Rv) (da db : DX Z) : DX Z := fun s ρ Q => da s ρ fun x s1 => match x.D with
  | some (.str z) => db s1 ρ fun y s2 => match y.D with
    | some (.str z') => C z z' ∧ Q (g z z') s2
    | _ => False
  | _ => False
theorem de_starts (ha : DE Z X a da) (hb : DE Z X b db) (hs : starEach [b] X.env = [(false, eval b X.env)] := by rfl) (hbase : attributeBase a "startswith" X.env (eval a X.env) = eval a X.env := by rfl) (hline : (apos.endLine == pos.line) = true := by rfl) :
    DE Z X (.Call (.Attribute a "startswith" apos) [b] [] pos) (dSm1 (fun _ _ => True) (fun z z' => .im (.bool (Txt.startswith z z'))) da db) := by
  refine PE.of (pe_m1 PySem.F.slot_str_startswith PySem.F.type_str_startswith mt_startswith ha hb hs hbase hline) fun σ H Q ⟨B0, H0, ρ, s, Qd, R, hd, hq⟩ => ?_
  refine ⟨B0, H0, ρ, s, _, R, hd, fun x s1 v H1 qx R1 g1 r1 => ?_⟩
  split at qx
  · rename_i z e1
    cases r1.vS e1
    refine ⟨⟨_, rfl⟩, B0, H0, ρ, s1, _, R1, qx, fun y s2 w H2 qy R2 g2 r2 => ?_⟩
    split at qy
    · rename_i z' e2
      cases r2.vS e2
      exact ⟨z, z', rfl, rfl, hq _ s2 _ H2 qy.2 R2 (g1.trans g2) (Im.bl _)⟩
    · exact qy.elim
  · exact qx.elim
def splitC (z z' : Str) : Prop := (z'.length == 0) = false ∧ z.length + 2 ≤ 1000000
theorem im_strs {B : Addr → Prop} {H : Hp} : ∀ l : List Str, ImAll B H (l.map V.str) (l.map PyData.str)
  | [] => .nil
  | x :: l => .cons (.str x) (im_strs l)
theorem de_split (ha : DE Z X a da) (hb : DE Z X b db) (hs : starEach [b] X.env = [(false, eval b X.env)] := by rfl) (hbase : attributeBase a "split" X.env (eval a X.env) = eval a X.env := by rfl) (hline : (apos.endLine == pos.line) = true := by rfl) :
    DE Z X (.Call (.Attribute a "split" apos) [b] [] pos) (dSm1 splitC (fun z z' => .fr ((Txt.split z z').map .str)) da db) := by
  refine PE.of (pe_split ha hb hs hbase hline) fun σ H Q ⟨B0, H0, ρ, s, Qd, R, hd, hq⟩ => ?_
  refine ⟨B0, H0, ρ, s, _, R, hd, fun x s1 v H1 qx R1 g1 r1 => ?_⟩
  split at qx
  · rename_i z e1
    cases r1.vS e1
    refine ⟨⟨_, rfl⟩, B0, H0, ρ, s1, _, R1, qx, fun y s2 w H2 qy R2 g2 r2 => ?_⟩
    split at qy
    · rename_i z' e2
      cases r2.vS e2
      obtain ⟨⟨c1, c2⟩, qy⟩ := qy
      refine ⟨z, z', rfl, rfl, c1, by rw [sizeLine_eq]; omega, fun q hn => ?_⟩
      have sm := same_new (o := .lst ((Txt.split z z').map V.str)) hn
      exact hq _ s2 _ _ qy (R2.same sm) ((g1.trans g2).trans (Gr.of sm)) ((R2.newL hn (im_strs _)).back R2.ok (g1.trans g2))
    · exact qy.elim
  · exact qx.elim
def partC (z z' : Str) : Prop := (z'.length == 0) = false ∧ z.length ≤ 1000000
/-- the parts of a text, known to the object -/
def trD (z z' : Str) : List V := [.str (Txt.partition z z').1, .str (Txt.partition z z').2.1, .str (Txt.partition z z').2.2]
def rPartK : V → List V → Hp → VK → Prop := fun x xs H Q => ∃ z z', x = .str z ∧ xs = [.str z'] ∧ (z'.length == 0) = false ∧ z.length ≤ sizeLine ∧ ∀ p o, H p = none → Tk o → Q (.ref p) (upd H p (.frz o (.tup (trD z z'))))
theorem mt_partK {X : Cx} : MtR X "str.partition" rPartK := by
  rintro pins s σ H x xs v us Q I rx rs ⟨z, z', rfl, rfl, h0, hz, q⟩
  obtain ⟨t, rfl⟩ := rx
  obtain ⟨u, t', rfl⟩ : ∃ (u : Unit) (t' : Tok), us = [.str z' t'] := by
    cases rs with
    | cons r1 rs =>
      cases rs
      obtain ⟨t', rfl⟩ := r1
      exact ⟨(), t', rfl⟩
  have new : ∀ (a b c : Str) (t1 t2 t3 : Tok) (k : Nat), (∀ p o, H p = none → Tk o → Q (.ref p) (upd H p (.frz o (.tup [.str a, .str b, .str c])))) → EP X pins σ Q (.ref s.heap.objs.size) { s with toks := k, heap := s.heap.push { cls := .type "tuple", data := .seq [Value.str a t1, .str b t2, .str c t3].toArray } } :=
    fun a b c t1 t2 t3 k q => ⟨.ref s.heap.objs.size, _, laidT (tk := k) I (.cons (a := V.str a) ⟨t1, rfl⟩ (.cons (a := V.str b) ⟨t2, rfl⟩ (.cons (a := V.str c) ⟨t3, rfl⟩ .nil))) (by show 3 ≤ sizeLine; decide), rfl, q _ _ (I.hok.fresh (Nat.le_refl _)) tk_new⟩
  refine call_meets F.slot_str_partition (typeIs_str _ _ _) F.entry_str_partition (F.args_str_partition_2 _ _) (meets_str_partition z z' t t' h0 hz) ?_
  unfold trD Txt.partition at q
  cases e : Builtin.Str.occurrences z z' 0 z.length 1 with
  | nil =>
    rw [e] at q
    exact new _ _ _ _ _ _ _ q
  | cons i r =>
    rw [e] at q
    exact new _ _ _ _ _ _ _ q
theorem de_partition (ha : DE Z X a da) (hb : DE Z X b db) (hs : starEach [b] X.env = [(false, eval b X.env)] := by rfl) (hbase : attributeBase a "partition" X.env (eval a X.env) = eval a X.env := by rfl) (hline : (apos.endLine == pos.line) = true := by rfl) :
    DE Z X (.Call (.Attribute a "partition" apos) [b] [] pos) (dSm1 partC (fun z z' => .im (.tuple [.str (Txt.partition z z').1, .str (Txt.partition z z').2.1, .str (Txt.partition z z').2.2])) da db) := by
  refine PE.of (pe_m1 F.slot_str_partition F.type_str_partition mt_partK ha hb hs hbase hline) fun σ H Q ⟨B0, H0, ρ, s, Qd, R, hd, hq⟩ => ?_
  refine ⟨B0, H0, ρ, s, _, R, hd, fun x s1 v H1 qx R1 g1 r1 => ?_⟩
  split at qx
  · rename_i z e1
    cases r1.vS e1
    refine ⟨⟨_, rfl⟩, B0, H0, ρ, s1, _, R1, qx, fun y s2 w H2 qy R2 g2 r2 => ?_⟩
    split at qy
    · rename_i z' e2
      cases r2.vS e2
      obtain ⟨⟨c1, c2⟩, qy⟩ := qy
      refine ⟨z, z', rfl, rfl, c1, by rw [sizeLine_eq]; omega, fun q o hn tk => ?_⟩
      have sm := same_new (o := .frz o (.tup (trD z z'))) hn
      exact hq _ s2 _ _ qy (R2.same sm) ((g1.trans g2).trans (Gr.of sm)) (Im.ftp upd_same tk (.cons (.str _) (.cons (.str _) (.cons (.str _) .nil))))
    · exact qy.elim
  · exact qx.elim
def dJoin (da db : DX Z) : DX Z := fun s ρ Q => da s ρ fun x s1 => match x.D with
  | some (.str z) => db s1 ρ fun y s2 => match y.D with
    | some (.list l) => ∃ ys : List Str, l = ys.map .str ∧ (ys.map (·.length)).sum + ys.length * z.length ≤ 1000000 ∧ Q (.im (.str (Txt.join z ys))) s2
    | _ => False
  | _ => False
theorem strs_of {B : Addr → Prop} {H : Hp} : ∀ {xs : List V} {l : List Str}, ImAll B H xs (l.map PyData.str) → xs = l.map V.str
  | [], [], _ => rfl
  | [], _ :: _, h => by cases h
  | _ :: _, [], h => by cases h
  | x :: xs, z :: l, h => by
    have h : ImAll B H (x :: xs) (.str z :: l.map PyData.str) := h
    cases h with
    | cons h1 h2 =>
      cases h1
      rw [strs_of h2]
      rfl
theorem de_join (ha : DE Z X a da) (hb : DE Z X b db) (hs : starEach [b] X.env = [(false, eval b X.env)] := by rfl) (hbase : attributeBase a "join" X.env (eval a X.env) = eval a X.env := by rfl) (hline : (apos.endLine == pos.line) = true := by rfl) :
    DE Z X (.Call (.Attribute a "join" apos) [b] [] pos) (dJoin da db) := by
  refine PE.of (pe_join ha hb hs hbase hline) fun σ H Q ⟨B0, H0, ρ, s, Qd, R, hd, hq⟩ => ?_
  refine ⟨B0, H0, ρ, s, _, R, hd, fun x s1 v H1 qx R1 g1 r1 => ?_⟩
  split at qx
  · rename_i z e1
    cases r1.vS e1
    refine ⟨⟨_, rfl⟩, B0, H0, ρ, s1, _, R1, qx, fun y s2 w H2 qy R2 g2 r2 => ?_⟩
    split at qy
    · rename_i l e2
      obtain ⟨ys, rfl, c, qy⟩ := qy
      obtain ⟨q, xs, rfl, h1, h2⟩ := r2.lst e2
      rw [strs_of h2] at h1
      exact ⟨z, q, ys, rfl, rfl, .inl (SqL.of h1), by omega, hq _ s2 _ H2 qy R2 (g1.trans g2) (Im.str _)⟩
    · exact qy.elim
  · exact qx.elim
/-! ### str of an int, int of a text -/
def opStrI : Cb := fun rs Q => match rs with
  | [x] => match x.D with
    | some (.int i) => i.natAbs.log2 < 1920 ∧ Q (.im (.str (toString i)))
    | _ => False
  | _ => False
theorem de_strI (hg : Gl X "str") (hm : X.mg "str" = none) (ha : DAs Z X (e :: es) das) (he : starEach (e :: es) X.env = (false, eval e X.env) :: starEach es X.env := by rfl) (hpl : (backTo pos (starEach es X.env)).any (·.1) = false := by rfl) : DE Z X (.Call (.Name "str" p) (e :: es) [] pos) (dCB opStrI das) := by
  refine PE.of (pe_callTy call_str_int hg hm (by decide +kernel) ha (by decide) (by decide) he hpl) fun σ H Q h => lift_cb ?_ h
  intro Z B0 ρ s H0 σ Ha H vs xs Qd Q R rr q k
  unfold opStrI at q
  split at q
  · obtain ⟨v, rfl, r1⟩ := rr.one
    split at q
    · rename_i i e1
      cases r1.vI e1
      exact ⟨i, rfl, q.1, k _ _ _ q.2 (Same.refl H) (Im.str _)⟩
    · exact q.elim
  · exact q.elim
def opIntS : Cb := fun rs Q => match rs with
  | [x] => match x.D with
    | some (.str z) => ∃ n, PySem.intText? z = some n ∧ z.length ≤ 640 ∧ Q (.im (.int n))
    | _ => False
  | _ => False
theorem de_intS (hg : Gl X "int") (hm : X.mg "int" = none) (ha : DAs Z X (e :: es) das) (he : starEach (e :: es) X.env = (false, eval e X.env) :: starEach es X.env := by rfl) (hpl : (backTo pos (starEach es X.env)).any (·.1) = false := by rfl) : DE Z X (.Call (.Name "int" p) (e :: es) [] pos) (dCB opIntS das) := by
  refine PE.of (pe_callTy call_int_str hg hm (by decide +kernel) ha (by decide) (by decide) he hpl) fun σ H Q h => lift_cb ?_ h
  intro Z B0 ρ s H0 σ Ha H vs xs Qd Q R rr q k
  unfold opIntS at q
  split at q
  · obtain ⟨v, rfl, r1⟩ := rr.one
    split at q
    · rename_i z e1
      cases r1.vS e1
      obtain ⟨n, c1, c2, q⟩ := q
      exact ⟨z, n, rfl, c1, c2, k _ _ _ q (Same.refl H) (Im.int _)⟩
    · exact q.elim
  · exact q.elim
/-! ### f"{a}c{b}" -/
def fmtD : PyData → Option Str
  | .str z => some z
  | .int i => if i.natAbs.log2 < 1920 then some (toString i) else none
  | _ => none
def dF3 (c : Str) (da db : DX Z) : DX Z := fun s ρ Q => da s ρ fun x s1 => match x.D with
  | some d => ∃ y1, fmtD d = some y1 ∧ y1.length ≤ 1000000 ∧ (y1 ++ c).length ≤ 1000000 ∧ db s1 ρ fun y s2 => match y.D with
    | some d2 => ∃ y2, fmtD d2 = some y2 ∧ y2.length ≤ 1000000 ∧ (y1 ++ c ++ y2).length ≤ 1000000 ∧ Q (.im (.str (y1 ++ c ++ y2))) s2
    | _ => False
  | _ => False
theorem fmt_ok {x : Rv} {B0 : Addr → Prop} {ρ : List Sl} {H H1 : Hp} {v : V} {d : PyData} {y : Str} {Q : VK} (r1 : RvR Z B0 ρ H H1 v x) (e1 : x.D = some d) (h : fmtD d = some y) (hl : y.length ≤ 1000000) (q : Q (.str y) H1) : (∃ y : Str, v = .str y ∧ y.length ≤ sizeLine ∧ Q (.str y) H1) ∨ ∃ i : Int, v = .int i ∧ i.natAbs.log2 < 1920 ∧ Q (.str (toString i)) H1 := by
  cases d with
  | str z =>
    cases h
    exact .inl ⟨y, r1.vS e1, by rw [sizeLine_eq]; omega, q⟩
  | int i =>
    have h : (if i.natAbs.log2 < 1920 then some (Str.ofString (toString i)) else none) = some y := h
    by_cases hb : i.natAbs.log2 < 1920
    · rw [if_pos hb] at h
      cases h
      exact .inr ⟨i, r1.vI e1, hb, q⟩
    · rw [if_neg hb] at h
      cases h
  | _ => cases h
theorem de_f3 {c : Str} {j : Nat} {p1 p2 p3 : Pos} (ha : DE Z X a da) (hb : DE Z X b db) : DE Z X (.JoinedStr [.FormattedValue a (-1) none p1, .Constant (.str c) j p2, .FormattedValue b (-1) none p3] pos) (dF3 c da db) := by
  refine PE.of (pe_joined (.cons (pe_fmt ha) (.cons pe_str (.cons (pe_fmt hb) .nil)))) fun σ H Q ⟨B0, H0, ρ, s, Qd, R, hd, hq⟩ => ?_
  have e0 : ∀ y : Str, Str.empty ++ y = y := fun y => by
    show (⟨#[] ++ y.cps⟩ : Str) = y
    rw [Array.empty_append]
  refine ⟨B0, H0, ρ, s, _, R, hd, fun x s1 v H1 qx R1 g1 r1 => ?_⟩
  split at qx
  · rename_i d e1
    obtain ⟨y1, f1, l1, l2, qx⟩ := qx
    refine fmt_ok (Q := fun x H1 => ∃ y : Str, x = .str y ∧ (Str.empty ++ y).length ≤ sizeLine ∧ tJs _ (Str.empty ++ y) σ H1 _) r1 e1 f1 l1 ⟨y1, rfl, by rw [e0, sizeLine_eq]; omega, ?_⟩
    rw [e0]
    refine ⟨c, rfl, by rw [sizeLine_eq]; omega, B0, H0, ρ, s1, _, R1, qx, fun y s2 w H2 qy R2 g2 r2 => ?_⟩
    split at qy
    · rename_i d2 e2
      obtain ⟨y2, f2, l3, l4, qy⟩ := qy
      refine fmt_ok (Q := fun x H1 => ∃ y : Str, x = .str y ∧ ((y1 ++ c) ++ y).length ≤ sizeLine ∧ tJs _ ((y1 ++ c) ++ y) σ H1 _) r2 e2 f2 l3 ⟨y2, rfl, by rw [sizeLine_eq]; omega, ?_⟩
      exact hq _ s2 _ H2 qy R2 (g1.trans g2) (Im.str _)
    · exact qy.elim
  · exact qx.elim
/-! ### a text * 0 or 1 -/
def rMulS : R2 := fun x y H Q => ∃ (z : Str) (k : Int), x = .str z ∧ y = .int k ∧ ((k = 0 ∧ Q (.str Str.empty) H) ∨ (k = 1 ∧ Q (.str z) H))
theorem op_mulS : OpR X (binaryOp .Mult) rMulS := by
  intro pins s σ H x y v u Q I rx ry h
  obtain ⟨z, k, rfl, rfl, h⟩ := h
  obtain ⟨t, rfl⟩ := rx
  obtain ⟨t', rfl⟩ := ry
  rcases h with ⟨rfl, q⟩ | ⟨rfl, q⟩
  · exact P.mul_str_none (by decide) (by decide) ⟨.str _, H, I.tok _, ⟨_, rfl⟩, q⟩
  · refine P.mul_str (by decide) (fun _ h => by simp at h) (fun _ h => by simp at h) ?_
    rw [if_neg (by decide), if_pos (show ((1 : Int) == 1 || z.length == 0) = true from rfl)]
    exact ⟨.str z, H, I, ⟨_, rfl⟩, q⟩
def opMulS : Op := fun x y Q => match x.D, y.D with
  | some (.str z), some (.int k) => (k = 0 ∧ Q (.im (.str Str.empty))) ∨ (k = 1 ∧ Q (.im (.str z)))
  | _, _ => False
theorem o2_mulS : Op2 K rMulS opMulS := by
  intro Z B0 ρ s H0 σ Ha Hb H v u x y Qd Q R rx ry q k
  unfold opMulS at q
  split at q
  · rename_i z i e1 e2
    refine ⟨z, i, rx.vS e1, ry.vI e2, ?_⟩
    rcases q with ⟨h, q⟩ | ⟨h, q⟩
    · exact .inl ⟨h, k _ _ _ q (Same.refl H) (Im.str _)⟩
    · exact .inr ⟨h, k _ _ _ q (Same.refl H) (Im.str _)⟩
  · exact q.elim
theorem de_mulS (ha : DE Z X a da) (hb : DE Z X b db) : DE Z X (.BinOp a .Mult b pos) (dBin opMulS da db) := PE.of (pe_op op_mulS ha hb) fun σ H Q h => lift_bin (K := X.K) o2_mulS h
/-! ### a try that runs through -/
theorem ds_thru {h₀ : ExceptHandler} {hs : List ExceptHandler} (hb : DSs Z X.nox sts t) : DS Z X (.Try sts (h₀ :: hs) [] [] pos) t := ps_try_thru0 hb
end
end Lf
namespace Lf
open PySem PySem.Spec PyProof.Rows L2
/-! ### texts: for c in text, text[i], text[i:j], c not in text, text * k; xs[::-1] of a list -/
section
variable {K : PySem.W.Frag} {Z : Zn} {B B0 Bd : Addr → Prop} {ρ : List Sl} {H H0 H1 : Hp} {v : V} {r : Rv}
def sg (c : Nat) : Str := ⟨#[c]⟩
def sgD (x : Str) : List PyData := (TL.tl x).map fun c => .str (sg c)
theorem sgD_len (x : Str) : (sgD x).length = x.length := by unfold sgD; rw [List.length_map]; exact (TL.len_tl x).symm
theorem it_strD {tu : Bool} {P Bd : Addr → Prop} {x : Str} : ItOk tu P Bd (Its x) (sgD x) H := by
  intro Hk Bk _ _ _ _
  have hl : (sgD x).length = x.cps.size := sgD_len x
  refine ⟨fun i hi => ?_, fun i d y H' hd hy => ?_, ?_⟩
  · show i < x.cps.size
    omega
  · obtain ⟨rfl, c, hc, rfl⟩ := hy
    unfold sgD at hd
    rw [List.getElem?_map] at hd
    have e : (TL.tl x)[i]? = some c := by
      show x.cps.toList[i]? = some c
      rw [Array.getElem?_toList]
      exact hc
    rw [e] at hd
    cases hd
    exact ⟨Same.refl _, (Im.str _).ig⟩
  · show x.cps.size ≤ (sgD x).length
    omega
section
variable {X : Cx} {e a b : Expr} {de da db : DX Z} {pos p p1 p2 p3 : Pos} {tg : Expr} {k : Option String}
def dIStr (de : DX Z) : DI Z := fun s ρ Q => de s ρ fun r s1 => match r.D with
  | some (.str z) => Q (sgD z) true s1
  | _ => False
theorem di_str (he : DE Z X e de) : DIs Z X tg e (dIStr de) := by
  refine PI.of (pi_str he) fun σ H R ⟨B0, H0, ρ, s, Qd, R0, hd, hq⟩ => ?_
  refine ⟨B0, H0, ρ, s, _, R0, hd, fun r s1 v H1 qx R1 g1 r1 => ?_⟩
  split at qx
  · rename_i z e1
    exact ⟨z, r1.vS e1, hq _ _ s1 _ H1 qx R1 g1 it_strD⟩
  · exact qx.elim
/-- text[i] -/
def opIxS : Op := fun x y Q => match x.D, y.D with
  | some (.str z), some (.int i) => ∃ c, z.length ≤ 1000000 ∧ atI (TL.tl z) i = some c ∧ Q (.im (.str (sg c)))
  | _, _ => False
theorem de_ixS (ha : DE Z X a da) (hb : DE Z X b db) (hs : PlainIx b := by exact fun _ _ => rfl) : DE Z X (.Subscript a b pos) (dBin opIxS da db) := by
  refine PE.of (pe_ix ix_str ha hb hs) fun σ H Q h => lift_bin (K := X.K) ?_ h
  intro Z B0 ρ s H0 σ Ha Hb H v u x y Qd Q R rx ry q k
  unfold opIxS at q
  split at q
  · rename_i z i e1 e2
    obtain ⟨c, hl, hc, q⟩ := q
    exact ⟨z, i, c, rx.vS e1, ry.vI e2, by rw [sizeLine_eq]; omega, hc, k _ _ _ q (Same.refl H) (Im.str _)⟩
  · exact q.elim
/-- text[i:j] -/
def dSlS (da : DX Z) (dl dh : DO Z) : DX Z := fun s ρ Q => da s ρ fun x s1 => dl s1 ρ fun lo s2 => dh s2 ρ fun hi s3 => match x.D with
  | some (.str z) => z.length ≤ 1000000 ∧ Q (.im (.str (cutS z lo hi))) s3
  | _ => False
theorem de_slS {lo hi : Option Expr} {dl dh : DO Z} {p2 : Pos} (ha : DE Z X a da) (hl : DOs Z X lo dl) (hh : DOs Z X hi dh) : DE Z X (.Subscript a (.Slice lo hi none p2) pos) (dSlS da dl dh) := by
  refine PE.of (pe_slice sl_str ha hl hh) fun σ H Q ⟨B0, H0, ρ, s, Qd, R, hd, hq⟩ => ?_
  refine ⟨B0, H0, ρ, s, _, R, hd, fun x s1 v H1 qx R1 g1 r1 => ?_⟩
  refine ⟨B0, H0, ρ, s1, _, R1, qx, fun lo s2 H2 ql R2 g2 => ?_⟩
  refine ⟨B0, H0, ρ, s2, _, R2, ql, fun hi s3 H3 qh R3 g3 => ?_⟩
  have r3 := (r1.grow R1 g2).grow R2 g3
  split at qh
  · rename_i z e1
    exact ⟨z, r3.vS e1, by have := qh.1; rw [sizeLine_eq]; omega, hq _ s3 _ _ qh.2 R3 (g1.trans (g2.trans g3)) (Im.str _)⟩
  · exact qh.elim
/-- c not in text -/
def opNiS : Op := fun x y Q => match x.D, y.D with
  | some (.str u), some (.str z) => ∃ c, u = sg c ∧ Q (.im (.bool (!decide (c ∈ TL.tl z))))
  | _, _ => False
theorem dt_notinS (ha : DE Z X a da) (hb : DE Z X b db) (hm : behindInMarks .NotIn b = false := by rfl) : DTs Z X (.Compare a [.NotIn] [b] pos) (dTst (dBin opNiS da db)) := by
  refine dt_cmp op_notIn_sign ?_ ha hb hm
  intro Z B0 ρ s H0 σ Ha Hb H v u x y Qd Q R rx ry q k
  unfold opNiS at q
  split at q
  · rename_i u z e1 e2
    obtain ⟨c, rfl, q⟩ := q
    exact ⟨c, z, rx.vS e1, ry.vS e2, k _ _ _ q (Same.refl H) (Im.bl _)⟩
  · exact q.elim
/-- text * k, k > 1 -/
def repS (z : Str) (n : Nat) : Str := ⟨(List.replicate n z.cps).foldl (· ++ ·) #[]⟩
theorem fold_sizeS (c : Array Nat) : ∀ (n : Nat) (a : Array Nat), ((List.replicate n c).foldl (· ++ ·) a).size = a.size + n * c.size
  | 0, a => by rw [Nat.zero_mul]; rfl
  | n + 1, a => by
    rw [List.replicate_succ, List.foldl_cons, fold_sizeS c n, Array.size_append, Nat.succ_mul]
    omega
theorem repS_len (z : Str) (n : Nat) : (repS z n).length = n * z.length := by
  show ((List.replicate n z.cps).foldl (· ++ ·) #[]).size = n * z.cps.size
  rw [fold_sizeS]
  exact Nat.zero_add _
def rMulSK : R2 := fun x y H Q => ∃ (z : Str) (n : Nat), x = .str z ∧ y = .int (n : Nat) ∧ 2 ≤ n ∧ n ≤ 100000 ∧ 1 ≤ z.length ∧ z.length ≤ 10 ∧ Q (.str (repS z n)) H
theorem op_mulSK : OpR X (binaryOp .Mult) rMulSK := by
  rintro pins s σ H x y v u Q I rx ry ⟨z, n, rfl, rfl, n2, n9, z1, z9, q⟩
  obtain ⟨t, rfl⟩ := rx
  obtain ⟨t', rfl⟩ := ry
  have e1 : ((((n : Nat) : Int) == 1) || z.length == 0) = false := by
    rw [beq_eq_false_iff_ne.mpr (by omega), beq_eq_false_iff_ne.mpr (by omega)]
    rfl
  have pr : z.length * n ≤ 10 * 100000 := Nat.mul_le_mul z9 n9
  refine P.mul_str (by rw [decide_eq_false (by omega), decide_eq_false (by omega)]; rfl) (fun _ _ => ?_) (fun _ _ => ?_) ?_
  · have : ((2 : Int) ^ 63 - 1) / ((n : Nat) : Int) ≥ 10 := (Int.le_ediv_iff_mul_le (by omega)).mpr (by omega)
    omega
  · rw [Int.toNat_natCast]
    unfold Builtin.Str.tooLong
    rw [sizeLine_eq]
    exact decide_eq_false (by omega)
  · rw [if_neg (by omega), if_neg (by rw [e1]; decide), Int.toNat_natCast]
    refine ⟨?_, .str _, H, I.tok _, ⟨_, rfl⟩, q⟩
    show (repS z n).length ≤ sizeLine
    rw [repS_len, sizeLine_eq]
    have : n * z.length = z.length * n := Nat.mul_comm _ _
    omega
def opMulSK : Op := fun x y Q => match x.D, y.D with
  | some (.str z), some (.int k) => 2 ≤ k ∧ k ≤ 100000 ∧ 1 ≤ z.length ∧ z.length ≤ 10 ∧ Q (.im (.str (repS z k.toNat)))
  | _, _ => False
theorem de_mulSK (ha : DE Z X a da) (hb : DE Z X b db) : DE Z X (.BinOp a .Mult b pos) (dBin opMulSK da db) := by
  refine PE.of (pe_op op_mulSK ha hb) fun σ H Q h => lift_bin (K := X.K) ?_ h
  intro Z B0 ρ s H0 σ Ha Hb H v u x y Qd Q R rx ry q k
  unfold opMulSK at q
  split at q
  · rename_i z i e1 e2
    obtain ⟨i2, i9, z1, z9, q⟩ := q
    exact ⟨z, i.toNat, rx.vS e1, by rw [Int.toNat_of_nonneg (by omega)]; exact ry.vI e2, by omega, by omega, z1, z9, k _ _ _ q (Same.refl H) (Im.str _)⟩
  · exact q.elim
/-- xs[::-1] of a list -/
def opRevL : Rv → (Rv → Prop) → Prop := fun x Q => match x.D with
  | some (.list l) => ∀ zs, (zs = l ∨ zs = l.reverse) → Q (.fr zs)
  | _ => False
theorem de_revL {k : Nat} (he : DE Z X e de) : DE Z X (.Subscript e (.Slice none none (some (.UnaryOp .USub (.Constant (.int 1) k p1) p2)) p3) pos) (dUn opRevL de) := by
  refine PE.of (pe_stepL he (pe_un un_neg pe_int)) fun σ H Q ⟨B0, H0, ρ, s, Qd, R, hd, hq⟩ => ?_
  refine ⟨B0, H0, ρ, s, _, R, hd, fun x s1 v H1 qx R1 g1 r1 => ?_⟩
  unfold opRevL at qx
  split at qx
  · rename_i l e1
    obtain ⟨a, xs, rfl, h1, h2⟩ := r1.lst e1
    refine ⟨1, rfl, a, xs, -1, rfl, rfl, SqL.of h1, .inr rfl, fun p hp zs hz => ?_⟩
    have new : ∀ (ds : List PyData), (ds = l ∨ ds = l.reverse) → ImAll (Bad Z B0 ρ) H1 zs ds → Q (.ref p) (upd H1 p (.lst zs)) := fun ds hds im =>
      hq _ s1 _ _ (qx ds hds) (R1.same (same_new hp)) (g1.trans (Gr.of (same_new hp))) ((R1.newL hp im).back R1.ok g1)
    rcases hz with rfl | rfl
    · exact new l (.inl rfl) h2
    · exact new l.reverse (.inr rfl) h2.reverse
  · exact qx.elim
end
end
end Lf
namespace Lf
open PySem PySem.Spec PyProof.Rows L2
/-! ### any texts: numbers, parts, first errors -/
def spc : Str := " "
def tZero : Str := "0"
def isDg (c : Nat) : Bool := decide (48 ≤ c) && decide (c ≤ 57)
def dgB (z : Str) : Bool := !(TL.tl z).isEmpty && (TL.tl z).all isDg
def val (z : Str) : Nat := NumText.digitsVal (TL.tl z)
def nlB (z : Str) : Bool := decide (z = tZero) || !decide ((TL.tl z).head? = some 48)
def numB (z : Str) (d : Nat) : Bool := dgB z && (decide (z.length ≤ d) && nlB z)
def vtB (z : Str) : Bool := numB z 2 && decide (val z < 24)
theorem dg_ascii : (List.range 128).all (fun c => Unicode.isDigit c == isDg c) = true := by decide +kernel
theorem dg_of {c : Nat} (h : c < 128) : Unicode.isDigit c = isDg c := beq_iff_eq.mp (List.all_eq_true.mp dg_ascii c (List.mem_range.mpr h))
theorem all_tl (z : Str) (p : Nat → Bool) : z.cps.all p = (TL.tl z).all p := by
  show z.cps.all p = z.cps.toList.all p
  rw [Array.all_toList]
theorem dgB_txt (z : Str) : (Txt.isascii z && Txt.isdigit z) = dgB z := by
  unfold Txt.isascii Txt.isdigit dgB
  rw [all_tl, all_tl, Bool.eq_iff_iff]
  simp only [Bool.and_eq_true, List.all_eq_true, decide_eq_true_iff, Bool.not_eq_true', List.isEmpty_eq_false_iff]
  have hl := TL.len_tl z
  constructor
  · rintro ⟨h1, h2, h3⟩
    refine ⟨fun e => ?_, fun c hc => ?_⟩
    · rw [e] at hl
      rw [List.length_nil] at hl
      omega
    · rw [← dg_of (h1 c hc)]
      exact h3 c hc
  · rintro ⟨h1, h2⟩
    have lt : ∀ c ∈ TL.tl z, c < 128 := fun c hc => by
      have := h2 c hc
      unfold isDg at this
      rw [Bool.and_eq_true, decide_eq_true_iff, decide_eq_true_iff] at this
      omega
    refine ⟨lt, ?_, fun c hc => ?_⟩
    · have := List.length_pos_iff.mpr h1
      show z.length > 0
      omega
    · rw [dg_of (lt c hc)]
      exact h2 c hc
theorem tl_zero : TL.tl tZero = [48] := by decide +kernel
theorem tl_spc : TL.tl spc = [32] := by decide +kernel
theorem starts_zero (z : Str) : Txt.startswith z tZero = decide ((TL.tl z).head? = some 48) := by
  unfold Txt.startswith Builtin.Str.subAt
  have h1 : tZero.length = 1 := by decide +kernel
  rw [h1]
  have hl := TL.len_tl z
  have e : z.cps.extract 0 (0 + 1) = ((TL.tl z).take 1).toArray := by
    apply Array.ext'
    rw [Array.toList_extract]
    simp [TL.tl, List.extract]
  have e2 : tZero.cps = #[48] := by decide +kernel
  rw [e, e2]
  cases hz : TL.tl z with
  | nil =>
    rw [hz] at hl
    have : z.length = 0 := hl
    simp [this]
  | cons c r =>
    rw [hz] at hl
    have : z.length = r.length + 1 := hl
    simp [this]
    rfl
theorem dg_all {z : Str} (h : dgB z = true) : NumText.AllDigits (TL.tl z) ∧ TL.tl z ≠ [] := by
  unfold dgB at h
  simp only [Bool.and_eq_true, List.all_eq_true, Bool.not_eq_true', List.isEmpty_eq_false_iff] at h
  refine ⟨fun c hc => ?_, h.1⟩
  have := h.2 c hc
  unfold isDg at this
  rw [Bool.and_eq_true, decide_eq_true_iff, decide_eq_true_iff] at this
  exact this
theorem num_int {z : Str} (h : dgB z = true) (hl : z.length ≤ 640) : PySem.intText? z = some ((val z : Nat) : Int) :=
  PySem.intText_digits (dg_all h).1 (dg_all h).2 (by omega)
theorem fold_ge : ∀ (l : List Nat) (a : Nat), a * 10 ^ l.length ≤ l.foldl (fun acc c => acc * 10 + (c - 48)) a
  | [], a => by simp
  | c :: l, a => by
    rw [List.foldl_cons, List.length_cons, Nat.pow_succ]
    refine Nat.le_trans ?_ (fold_ge l (a * 10 + (c - 48)))
    rw [Nat.mul_comm (10 ^ l.length) 10, ← Nat.mul_assoc]
    exact Nat.mul_le_mul_right _ (by omega)
theorem vt_13 (z : Str) : (numB z 13 && decide (val z < 24)) = vtB z := by
  unfold vtB numB
  by_cases h : dgB z = true
  · by_cases n : nlB z = true
    · rw [h, n, Bool.true_and, Bool.true_and, Bool.and_true, Bool.and_true]
      by_cases l2 : z.length ≤ 2
      · rw [decide_eq_true l2, decide_eq_true (show z.length ≤ 13 by omega)]
      · rw [decide_eq_false l2, Bool.false_and]
        have hl := TL.len_tl z
        have big : ¬ val z < 24 := by
          unfold nlB at n
          unfold val NumText.digitsVal
          have hd := (dg_all h).1
          cases e : TL.tl z with
          | nil => rw [e] at hl; rw [List.length_nil] at hl; omega
          | cons c r =>
            rw [e] at hl n hd
            rw [List.length_cons] at hl
            have nz : z ≠ tZero := fun y => by
              rw [y, tl_zero] at e
              cases e
              rw [List.length_nil] at hl
              omega
            rw [decide_eq_false nz, Bool.false_or, Bool.not_eq_true', decide_eq_false_iff_not, List.head?_cons] at n
            have c48 : c ≠ 48 := fun y => n (by rw [y])
            have c49 := (hd c List.mem_cons_self).1
            rw [List.foldl_cons]
            have b1 := fold_ge r (0 * 10 + (c - 48))
            have b2 : 10 ^ 2 ≤ 10 ^ r.length := Nat.pow_le_pow_right (by decide) (by omega)
            have b3 : 1 * 10 ^ r.length ≤ (0 * 10 + (c - 48)) * 10 ^ r.length := Nat.mul_le_mul_right _ (by omega)
            omega
        rw [decide_eq_false big, Bool.and_false]
    · rw [Bool.not_eq_true] at n
      rw [n, Bool.and_false, Bool.and_false, Bool.and_false, Bool.and_false]
  · rw [Bool.not_eq_true] at h
    rw [h, Bool.false_and, Bool.false_and, Bool.false_and, Bool.false_and]
/-! parts -/
theorem str_split (z : Str) : 32 ∉ TL.tl z ∨ ∃ a b : Str, z = a ++ spc ++ b ∧ 32 ∉ TL.tl a ∧ b.length < z.length := by
  by_cases h : 32 ∈ TL.tl z
  · obtain ⟨p, q, e, hp⟩ := List.eq_append_cons_of_mem h
    refine .inr ⟨⟨p.toArray⟩, ⟨q.toArray⟩, TL.ext_tl ?_, hp, ?_⟩
    · rw [TL.tl_append, TL.tl_append, tl_spc, e]
      show p ++ 32 :: q = p ++ [32] ++ q
      simp
    · have h1 := TL.len_tl z
      rw [e, List.length_append, List.length_cons] at h1
      show q.toArray.size < z.length
      rw [List.size_toArray]
      omega
  · exact .inl h
def pts (z : Str) : List Str := Txt.split z spc
theorem pts_tl (z : Str) : (pts z).map TL.tl = TL.spl [32] 0 [] (TL.tl z) := by
  have := TL.split_spl z spc (by rw [tl_spc]; exact fun e => nomatch e) (TL.kind_ok (by decide +kernel))
  rw [tl_spc] at this
  exact this
theorem ptz_one {z : Str} (h : 32 ∉ TL.tl z) : pts z = [z] := TL.map_tl_inj (by rw [pts_tl, TL.spl_last1 h]; rfl)
theorem ptz_cons {a b : Str} (h : 32 ∉ TL.tl a) : pts (a ++ spc ++ b) = a :: pts b := TL.map_tl_inj (by
  rw [pts_tl, TL.tl_append, TL.tl_append, tl_spc, List.append_assoc, TL.spl_part1 (s := 32) (S := []) h, List.nil_append, List.map_cons, pts_tl])
theorem part_one {z : Str} (h : 32 ∉ TL.tl z) : Txt.partition z spc = (z, Str.empty, Str.empty) := TL.partition_none tl_spc h
theorem part_cons {a b : Str} (h : 32 ∉ TL.tl a) : Txt.partition (a ++ spc ++ b) spc = (a, spc, b) := TL.partition_app tl_spc h
theorem app_len (a b : Str) : (a ++ b).length = a.length + b.length := by
  show (a.cps ++ b.cps).size = _
  rw [Array.size_append]
  rfl
theorem spc_len : spc.length = 1 := by decide +kernel
theorem pts_facts : ∀ (n : Nat) (z : Str), z.length ≤ n → ((pts z).map (·.length)).sum + (pts z).length = z.length + 1
  | n, z, h => by
    rcases str_split z with hz | ⟨a, b, rfl, ha, hb⟩
    · rw [ptz_one hz]
      rfl
    · cases n with
      | zero => omega
      | succ n =>
        have ih := pts_facts n b (by omega)
        rw [ptz_cons ha, List.map_cons, List.sum_cons, List.length_cons, app_len, app_len, spc_len]
        omega
theorem pts_sum (z : Str) : ((pts z).map (·.length)).sum + (pts z).length = z.length + 1 := pts_facts z.length z (Nat.le_refl _)
theorem le_sum {l : List Nat} {x : Nat} (h : x ∈ l) : x ≤ l.sum := by
  induction l with
  | nil => cases h
  | cons y l ih =>
    rw [List.sum_cons]
    rcases List.mem_cons.mp h with rfl | h
    · omega
    · have := ih h; omega
theorem pts_pos (z : Str) : 1 ≤ (pts z).length := by
  rcases str_split z with hz | ⟨a, b, rfl, ha, hb⟩
  · rw [ptz_one hz]; exact Nat.le_refl _
  · rw [ptz_cons ha, List.length_cons]; omega
theorem pts_le {z p : Str} (h : p ∈ pts z) : p.length ≤ z.length := by
  have h1 := pts_sum z
  have h2 := le_sum (List.mem_map.mpr ⟨p, h, rfl⟩ : p.length ∈ (pts z).map (·.length))
  have h3 := pts_pos z
  omega
theorem pts_many (z : Str) : (pts z).length ≤ z.length + 1 := by have := pts_sum z; omega
/-! first errors -/
def prt (P : List Str) (i : Nat) : Str := P.getD i Str.empty
def badP (fr : Bool) (P : List Str) (i : Nat) : Bool := decide (i = 24) || (!vtB (prt P i) || (!fr && decide (val (prt P i) ∈ (P.take i).map val)))
def scan (fr : Bool) (P : List Str) : Option Nat := (List.range P.length).find? (badP fr P)
def perr (l : List Nat) : Option Nat := match (List.range l.length).find? (fun k => decide (l.length ≤ par l k)) with
  | some k => some k
  | none => (List.range l.length).find? (cyc l)
theorem scan_some {fr : Bool} {P : List Str} {i : Nat} (hi : i < P.length) (hb : badP fr P i = true) (h : ∀ j, j < i → badP fr P j = false) : scan fr P = some i := find_first hi hb h
theorem scan_none {fr : Bool} {P : List Str} (h : ∀ j, j < P.length → badP fr P j = false) : scan fr P = none := find_none h
theorem good_few {fr : Bool} {P : List Str} (h : ∀ j, j < P.length → badP fr P j = false) : P.length ≤ 24 := by
  by_cases z : 24 < P.length
  · have := h 24 z
    unfold badP at this
    rw [decide_eq_true rfl, Bool.true_or] at this
    cases this
  · omega
theorem good_at {fr : Bool} {P : List Str} {k : Nat} (h : badP fr P k = false) : k ≠ 24 ∧ vtB (prt P k) = true := by
  unfold badP at h
  rw [Bool.or_eq_false_iff, Bool.or_eq_false_iff, Bool.not_eq_false', decide_eq_false_iff_not] at h
  exact ⟨h.1, h.2.1⟩
theorem vt_lt {z : Str} (h : vtB z = true) : val z < 24 := by
  unfold vtB at h
  rw [Bool.and_eq_true, decide_eq_true_iff] at h
  exact h.2
theorem vt_dg {z : Str} (h : vtB z = true) : dgB z = true ∧ z.length ≤ 2 := by
  unfold vtB numB at h
  simp only [Bool.and_eq_true, decide_eq_true_iff] at h
  exact ⟨h.1.1, h.1.2.1⟩
theorem prt_at {P : List Str} {k : Nat} {p : Str} (h : P[k]? = some p) : prt P k = p := by
  unfold prt
  rw [List.getD_eq_getElem?_getD, h]
  rfl
theorem good_low {fr : Bool} {P : List Str} (h : ∀ j, j < P.length → badP fr P j = false) : ∀ x ∈ P.map val, x < 24 := fun x hx => by
  obtain ⟨p, hp, rfl⟩ := List.mem_map.mp hx
  obtain ⟨k, hk⟩ := List.mem_iff_getElem?.mp hp
  have := (good_at (h k (List.getElem?_eq_some_iff.mp hk).1)).2
  rw [prt_at hk] at this
  exact vt_lt this
/-- what a text denotes: numbers, or the index of the first error -/
def resF (z : Str) : Nat ⊕ List Nat := match scan true (pts z) with
  | some i => .inl i
  | none => match perr ((pts z).map val) with
    | some k => .inl k
    | none => .inr ((pts z).map val)
def tNone : Str := "none"
def resV (z : Str) : Nat ⊕ List Nat := if z = tNone then .inr [] else match scan false (pts z) with
  | some i => .inl i
  | none => .inr ((pts z).map val)
def ansN : Nat ⊕ List Nat → PyData
  | .inl i => .list [.int (i : Nat)]
  | .inr l => .tuple (l.map fun x => .int ((x : Nat) : Int))
def tHis : Str := "history"
def tHvy : Str := "heavy"
def wrd (z : Str) : Str := (Txt.partition z spc).1
def rst (z : Str) : Str := (Txt.partition z spc).2.2
def ansC (z : Str) : PyData :=
  if wrd z = tHis then match resV (rst z) with
    | .inl _ => .list [.int 0]
    | .inr l => .tuple [.str tHis, .tuple (l.map fun x => .int ((x : Nat) : Int))]
  else if wrd z = tHvy then (if vtB (rst z) = true then .tuple [.str tHvy, .int (val (rst z) : Nat)] else .list [.int 0])
  else .list [.none]
theorem wrd_pts (z : Str) : (pts z)[0]? = some (wrd z) := by
  rcases str_split z with hz | ⟨a, b, rfl, ha, hb⟩
  · rw [ptz_one hz]
    unfold wrd
    rw [part_one hz]
    rfl
  · rw [ptz_cons ha]
    unfold wrd
    rw [part_cons ha]
    rfl
theorem wrd_rst (z : Str) : (32 ∉ TL.tl z ∧ wrd z = z ∧ rst z = Str.empty) ∨ (z = wrd z ++ spc ++ rst z ∧ wrd z ≠ z) := by
  rcases str_split z with hz | ⟨a, b, rfl, ha, hb⟩
  · unfold wrd rst
    rw [part_one hz]
    exact .inl ⟨hz, rfl, rfl⟩
  · unfold wrd rst
    rw [part_cons ha]
    refine .inr ⟨rfl, fun e => ?_⟩
    have := congrArg Str.length (show a = a ++ spc ++ b from e)
    rw [app_len, app_len, spc_len] at this
    omega
theorem rst_len (z : Str) : (rst z).length ≤ z.length := by
  rcases wrd_rst z with ⟨_, _, e⟩ | ⟨e, _⟩
  · rw [e]; exact Nat.zero_le _
  · have := congrArg Str.length e
    rw [app_len, app_len] at this
    omega
theorem vt_nospace {z : Str} (h : vtB z = true) : 32 ∉ TL.tl z := fun m => by
  have := (dg_all (vt_dg h).1).1 32 m
  omega
theorem resV_one {z : Str} (h : 32 ∉ TL.tl z) (hn : z ≠ tNone) : resV z = if vtB z = true then .inr [val z] else .inl 0 := by
  unfold resV
  rw [if_neg hn, ptz_one h]
  by_cases y : vtB z = true
  · rw [if_pos y, scan_none]
    · rfl
    · intro j hj
      have : j = 0 := by rw [List.length_singleton] at hj; omega
      subst this
      unfold badP prt
      show (decide (0 = 24) || (!vtB z || (!false && decide (val z ∈ ([] : List Nat))))) = false
      rw [y]
      simp
  · rw [if_neg y, scan_some (i := 0) (by rw [List.length_singleton]; exact Nat.one_pos)]
    · unfold badP prt
      show (decide (0 = 24) || (!vtB z || _)) = true
      rw [Bool.not_eq_true] at y
      rw [y]
      rfl
    · intro j hj
      omega
/-- a number of one vertex, told by the parts -/
theorem heavy_one (r : Str) : (match resV r with | .inl _ => (none : Option Nat) | .inr l => if l.length = 1 then l[0]? else none) = if vtB r = true then some (val r) else none := by
  by_cases hn : r = tNone
  · subst hn
    have : vtB tNone = false := by decide +kernel
    rw [this]
    unfold resV
    rw [if_pos rfl]
    rfl
  · rcases str_split r with hz | ⟨a, b, e, ha, hb⟩
    · rw [resV_one hz hn]
      by_cases y : vtB r = true
      · rw [if_pos y, if_pos y]
        rfl
      · rw [if_neg y, if_neg y]
    · have nv : ¬ vtB r = true := fun y => vt_nospace y (by
        rw [e, TL.tl_append, TL.tl_append, tl_spc]
        simp)
      rw [if_neg nv]
      have l2 : 2 ≤ (pts r).length := by
        rw [e, ptz_cons ha, List.length_cons]
        have := pts_pos b
        omega
      unfold resV
      rw [if_neg hn]
      cases scan false (pts r) with
      | some i => rfl
      | none =>
        show (if ((pts r).map val).length = 1 then _ else none) = none
        rw [if_neg (by rw [List.length_map]; omega)]
end Lf
namespace Lf
open PySem PySem.Spec PyProof.Rows L2
def topS (i : Nat) : Stmt := PySem.Challenge.pw_linkforests_k72_other_texts_refused.main.body.getD i (.Pass ⟨0, 0, 0, 0⟩)
end Lf
namespace Lf
open PySem PySem.Spec PyProof.Rows L2
/-! ### forests.py over data, for what is valid -/
theorem isV_natD {n x : Nat} (h : x < n) : isV n (.int (x : Nat)) = true := show (decide (0 ≤ ((x : Nat) : Int)) && decide (((x : Nat) : Int) < (n : Int))) = true from Bool.and_eq_true_iff.mpr ⟨decide_eq_true (by omega), decide_eq_true (by omega)⟩
def fPI : DF Z0 := fun s as Q => ∃ d, as = [.im d] ∧ Q (.im (.bool (isInt d))) s
def fIV : DF Z0 := fun s as Q => ∃ (n : Nat) (d : PyData), as = [.im (.int (n : Nat)), .im d] ∧ Q (.im (.bool (isV n d))) s
def fCheck : DF Z0 := fun s as Q => ∃ (fs : List Nat) (v : Nat), as = [.im (tupN fs), .im (.int (v : Nat))] ∧ v < fs.length ∧ Q (.im .none) s
def fPath : DF Z0 := fun s as Q => ∃ (fs : List Nat) (v : Nat), as = [.im (tupN fs), .im (.int (v : Nat))] ∧ Forest fs ∧ v < fs.length ∧ Q (.im (tupN (way fs v))) s
section
variable {P : Program} {w : World} {K : PySem.W.Frag} {mg : Str → Option Value} {base : Heap}
abbrev s_is_plain_int : Stmt := topS (8)
abbrev N_is_plain_int : List Str := ["value"]
abbrev p_is_plain_int : List Str := ["value"]
theorem sc_is_plain_int : FnScope N_is_plain_int p_is_plain_int (defScope s_is_plain_int) := ⟨rfl, rfl, rfl, by decide +kernel, rfl, by decide +kernel, by decide +kernel⟩
theorem ok_is_plain_int (M : Mk K mg "is_plain_int" s_is_plain_int p_is_plain_int) (m_isinstance : mg "isinstance" = none) (m_int : mg "int" = none) (m_bool : mg "bool" = none) : Df P w K mg base CX0 1 "is_plain_int" p_is_plain_int (spD Z0 fPI) := by
  have nd := sc_is_plain_int.nd
  refine def_ok (k := 0) M sc_is_plain_int (by decide) ?_ (fun f cdv A outer s H E hr => have hu := hu65 hr; (ds_one (ds_ret (de_and (de_isi (by rfl) m_isinstance (da_cons (dv 0) (da_cons (de_raw (pe_bltn (v := .ty "int") (by rfl) m_int (by decide +kernel) rfl)) da_nil))) (de_one (de_not (de_isi (by rfl) m_isinstance (da_cons (dv 0) (da_cons (de_raw (pe_bltn (v := .ty "bool") (by rfl) m_bool (by decide +kernel) rfl)) da_nil))))))))) ?_
  · rintro s as Qd ⟨d, rfl, _⟩; rfl
  · rintro s as Qd ⟨d, rfl, q⟩
    refine ⟨.inl rfl, ?_⟩
    cases d with
    | int i => exact ⟨.inr (.inl rfl), q⟩
    | bool b => exact ⟨.inr (.inl rfl), q⟩
    | _ => exact q
abbrev s_is_vertex : Stmt := topS (9)
abbrev N_is_vertex : List Str := ["n", "value"]
abbrev p_is_vertex : List Str := ["n", "value"]
theorem sc_is_vertex : FnScope N_is_vertex p_is_vertex (defScope s_is_vertex) := ⟨rfl, rfl, rfl, by decide +kernel, rfl, by decide +kernel, by decide +kernel⟩
theorem ok_is_vertex (M : Mk K mg "is_vertex" s_is_vertex p_is_vertex) (d_is_plain_int : Df P w K mg base CX0 1 "is_plain_int" p_is_plain_int (spD Z0 fPI)) : Df P w K mg base CX0 2 "is_vertex" p_is_vertex (spD Z0 fIV) := by
  have nd := sc_is_vertex.nd
  refine def_ok (k := 1) M sc_is_vertex (by decide) ?_ (fun f cdv A outer s H E hr => have hu := hu65 hr; (ds_one (ds_ret (de_and (de_callP d_is_plain_int pass0 hr (da_cons (dv 1) da_nil)) (de_one (de_chain op_le op_lt de_int (dv 1) (dv 0))))))) ?_
  · rintro s as Qd ⟨n, d, rfl, _⟩; rfl
  · rintro s as Qd ⟨n, d, rfl, q⟩
    refine ⟨d, rfl, .inl rfl, ?_⟩
    cases d with
    | int i =>
      show if decide (0 ≤ i) = true then Qd (.im (.bool (decide (i < (n : Int))))) s else Qd (.im (.bool false)) s
      have e : isV n (.int i) = (decide (0 ≤ i) && decide (i < (n : Int))) := rfl
      rw [e] at q
      by_cases h : 0 ≤ i
      · rw [if_pos (decide_eq_true h)]
        rw [decide_eq_true h] at q
        exact q
      · rw [if_neg (by rw [decide_eq_false h]; exact Bool.false_ne_true)]
        rw [decide_eq_false h] at q
        exact q
    | _ => exact q
end
end Lf
namespace Lf
open PySem PySem.Spec PyProof.Rows L2
/-! ### texts.py, for texts of vertices -/
--@strint
--@inttext
--@thru
def tx (n : Nat) : Str := Str.ofString (toString ((n : Nat) : Int))
def sp1 : Str := " "
def vtxB (n : Nat) : Bool := Txt.isascii (tx n) && (Txt.isdigit (tx n) && (decide ((tx n).length ≤ 2) && (decide (1 ≤ (tx n).length) && ((decide (tx n = "0") || !Txt.startswith (tx n) "0") && (decide (PySem.intText? (tx n) = some ((n : Nat) : Int)) && (!decide (32 ∈ TL.tl (tx n)) && !decide (tx n = "none")))))))
theorem vtx_all : ((List.range 24).all vtxB) = true := by decide +kernel
structure Vtx (n : Nat) : Prop where
  asc : Txt.isascii (tx n) = true
  dig : Txt.isdigit (tx n) = true
  len : (tx n).length ≤ 2
  pos : 1 ≤ (tx n).length
  zer : tx n = "0" ∨ Txt.startswith (tx n) "0" = false
  num : PySem.intText? (tx n) = some ((n : Nat) : Int)
  spc : 32 ∉ TL.tl (tx n)
  non : tx n ≠ "none"
theorem vtx {n : Nat} (h : n < 24) : Vtx n := by
  have e := List.all_eq_true.mp vtx_all n (List.mem_range.mpr h)
  unfold vtxB at e
  simp only [Bool.and_eq_true, Bool.or_eq_true, Bool.not_eq_true', decide_eq_true_eq, decide_eq_false_iff_not] at e
  obtain ⟨a, b, c, d, f, g, i, j⟩ := e
  exact ⟨a, b, c, d, f, g, i, j⟩
def jt (l : List Nat) : Str := Txt.join sp1 (l.map tx)
def vt (l : List Nat) : Str := if l = [] then "none" else jt l
theorem jt_split {l : List Nat} (h : ∀ x ∈ l, x < 24) (hn : l ≠ []) : Txt.split (jt l) sp1 = l.map tx := by
  refine TL.split_join (s := 32) (S := []) (by decide +kernel) (by decide +kernel) (fun e => hn (List.map_eq_nil_iff.mp e)) fun p hp => ?_
  obtain ⟨x, hx, rfl⟩ := List.mem_map.mp hp
  exact (vtx (h x hx)).spc
theorem jt_none {l : List Nat} (h : ∀ x ∈ l, x < 24) (hn : l ≠ []) : jt l ≠ "none" := fun e => by
  have h1 := jt_split h hn
  rw [e, show Txt.split "none" sp1 = ([("none" : Str)] : List Str) by decide +kernel] at h1
  cases l with
  | nil => exact hn rfl
  | cons x l =>
    rw [List.map_cons] at h1
    exact (vtx (h x List.mem_cons_self)).non (List.cons.inj h1).1.symm
theorem tx_len {l : List Nat} (h : ∀ x ∈ l, x < 24) : ((l.map tx).map (·.length)).sum ≤ 2 * l.length := by
  induction l with
  | nil => exact Nat.le_refl _
  | cons x l ih =>
    have h1 := (vtx (h x List.mem_cons_self)).len
    have h2 := ih fun y hy => h y (List.mem_cons_of_mem _ hy)
    rw [List.map_cons, List.map_cons, List.sum_cons, List.length_cons]
    show (tx x).length + _ ≤ _
    omega
theorem join_len (y : Str) : ∀ l : List Str, (Str.join y l).length ≤ (l.map (·.length)).sum + l.length * y.length
  | [] => Nat.zero_le _
  | [x] => by
    show x.length ≤ _
    rw [List.map_cons, List.sum_cons]
    omega
  | x :: z :: r => by
    have ih := join_len y (z :: r)
    have e : (Str.join y (x :: z :: r)).length = x.length + y.length + (Str.join y (z :: r)).length := by
      show (x ++ y ++ Str.join y (z :: r)).length = _
      rw [str_len_app, str_len_app]
    rw [e, List.map_cons, List.sum_cons, List.length_cons, Nat.succ_mul]
    omega
where
  str_len_app (a b : Str) : (a ++ b).length = a.length + b.length := by
    show (a.cps ++ b.cps).size = _
    rw [Array.size_append]
    rfl
theorem str_app_len (a b : Str) : (a ++ b).length = a.length + b.length := by
  show (a.cps ++ b.cps).size = _
  rw [Array.size_append]
  rfl
theorem jt_len {l : List Nat} (h : ∀ x ∈ l, x < 24) (hl : l.length ≤ 24) : (jt l).length ≤ 72 := by
  have h1 := join_len sp1 (l.map tx)
  have h2 := tx_len h
  rw [List.length_map] at h1
  have h3 : sp1.length = 1 := by decide
  rw [h3] at h1
  have e : jt l = Str.join sp1 (l.map tx) := TL.join_eq _ _
  rw [e]
  omega
theorem vt_len {l : List Nat} (h : ∀ x ∈ l, x < 24) (hl : l.length ≤ 24) : (vt l).length ≤ 72 := by
  unfold vt
  split
  · decide
  · exact jt_len h hl
structure Row (l : List Nat) : Prop where
  low : ∀ x ∈ l, x < 24
  few : l.length ≤ 24
theorem Forest.row {fs : List Nat} (F : Forest fs) : Row fs := ⟨fun x hx => by
  obtain ⟨i, hi, e⟩ := List.getElem_of_mem hx
  have h1 := F.rng i hi
  unfold par at h1
  rw [List.getD_eq_getElem?_getD, List.getElem?_eq_getElem hi] at h1
  have h1 : fs[i] < fs.length := h1
  have := F.few
  omega, F.few⟩
def fLead : DF Z0 := fun s as Q => ∃ (fs : List Nat) (v : Nat), as = [.im (tupN fs), .im (.int (v : Nat))] ∧ Forest fs ∧ v < fs.length ∧ Q (.im (.bool true)) s
def fErr : DF Z0 := fun s as Q => ∃ fs : List Nat, as = [.im (tupN fs)] ∧ Forest fs ∧ Q (.im .none) s
def fNumT : DF Z0 := fun s as Q => ∃ n : Nat, as = [.im (.str (tx n)), .im (.int 2)] ∧ n < 24 ∧ Q (.im (.bool true)) s
def fVtxT : DF Z0 := fun s as Q => ∃ n : Nat, as = [.im (.str (tx n))] ∧ n < 24 ∧ Q (.im (.bool true)) s
def fJoinT : DF Z0 := fun s as Q => ∃ l : List Nat, as = [.im (tupN l)] ∧ Row l ∧ Q (.im (.str (jt l))) s
def fChkS : DF Z0 := fun s as Q => ∃ z : Str, as = [.im (.str z)] ∧ Q (.im .none) s
def fParseF : DF Z0 := fun s as Q => ∃ fs : List Nat, as = [.im (.str (jt fs))] ∧ Forest fs ∧ Q (.im (tupN fs)) s
def fVertT : DF Z0 := fun s as Q => ∃ l : List Nat, as = [.im (tupN l)] ∧ Row l ∧ Q (.im (.str (vt l))) s
def fParseV : DF Z0 := fun s as Q => ∃ l : List Nat, as = [.im (.str (vt l))] ∧ Row l ∧ l.Nodup ∧ Q (.im (tupN l)) s
def fCertT : DF Z0 := fun s as Q => (∃ (h : Str) (l : List Nat), as = [.im (.tuple [.str h, tupN l])] ∧ h = "history" ∧ Row l ∧ Q (.im (.str (h ++ sp1 ++ vt l))) s) ∨ ∃ (h : Str) (n : Nat), as = [.im (.tuple [.str h, .int (n : Nat)])] ∧ h = "heavy" ∧ n < 24 ∧ Q (.im (.str (h ++ sp1 ++ tx n))) s
def fParseC : DF Z0 := fun s as Q => (∃ (h : Str) (l : List Nat), as = [.im (.str (h ++ sp1 ++ vt l))] ∧ h = "history" ∧ Row l ∧ l.Nodup ∧ Q (.im (.tuple [.str "history", tupN l])) s) ∨ ∃ (h : Str) (n : Nat), as = [.im (.str (h ++ sp1 ++ tx n))] ∧ h = "heavy" ∧ n < 24 ∧ Q (.im (.tuple [.str "heavy", .int (n : Nat)])) s
theorem len_his {h : Str} (e : h = "history") : h.length = 7 := by rw [e]; decide
theorem len_hea {h : Str} (e : h = "heavy") : h.length = 5 := by rw [e]; decide
theorem len_sp : sp1.length = 1 := by decide
section
variable {P : Program} {w : World} {K : PySem.W.Frag} {mg : Str → Option Value} {base : Heap}
abbrev s_leads_to_root : Stmt := topS (10)
abbrev N_leads_to_root : List Str := ["parents", "vertex", "at", "step"]
abbrev p_leads_to_root : List Str := ["parents", "vertex"]
theorem sc_leads_to_root : FnScope N_leads_to_root p_leads_to_root (defScope s_leads_to_root) := ⟨rfl, rfl, rfl, by decide +kernel, rfl, by decide +kernel, by decide +kernel⟩
theorem ok_leads (M : Mk K mg "leads_to_root" s_leads_to_root p_leads_to_root) (m_len : mg "len" = none) (m_range : mg "range" = none) : Df P w K mg base CX0 1 "leads_to_root" p_leads_to_root (spD Z0 fLead) := by
  have nd := sc_leads_to_root.nd
  refine def_ok (k := 0) M sc_leads_to_root (by decide) ?_ (fun f cdv A outer s H E hr => have hu := hu65 hr; (ds_cons (ds_set (i := 2) nd rfl (.inl rfl) (dv 1))
      (ds_cons (ds_for PassesOwn.never rfl (di_r1 (by rfl) m_range (da_cons (de_len (by rfl) m_len (da_cons (dv 0) da_nil)) da_nil)) (dg_name (i := 3) nd rfl (.inl rfl))
      (ds_one (ds_set (i := 2) nd rfl (.inl rfl) (de_ix (dv 0) (dv 2)))))
      (ds_one (ds_ret (de_eq hu (de_ix (dv 0) (dv 2)) (dv 2))))))) ?_
  · rintro s as Qd ⟨fs, v, rfl, _⟩; rfl
  · rintro s as Qd ⟨fs, v, rfl, hF, hv, q⟩
    have few := hF.few
    obtain ⟨l, _, _, ll, _, rc, lp⟩ := hF.path hv
    refine ⟨by rw [nD_len]; omega, by rw [nD_len]; omega, rfl, ?_⟩
    rw [nD_len, Int.toNat_natCast]
    refine ⟨fun j s ρ => ∃ (a k : Nat) (x3 : Sl), ρ = [.im (tupN fs), .im (.int (v : Nat)), .im (.int (a : Nat)), x3] ∧ a < fs.length ∧ Rch fs k a ∧ (k = 0 ∨ k + j < l.length), ⟨v, l.length - 1, .no, rfl, hv, rc, .inr (by omega)⟩, ?_, ?_⟩
    · rintro j d s ρ hd ⟨a, k, x3, rfl, ha, hk, hj⟩
      refine ⟨_, nD_at ha, par fs a, ?_⟩
      cases hk with
      | root h => exact ⟨0, _, rfl, by rw [h]; exact ha, by rw [h]; exact .root h, .inl rfl⟩
      | @step k' _ h r => exact ⟨k', _, rfl, hF.rng a ha, r, .inr (by rcases hj with z | z <;> omega)⟩
    · rintro s ρ ⟨a, k, x3, rfl, ha, hk, hj⟩
      rw [rngD_len] at hj
      have k0 : k = 0 := by omega
      subst k0
      cases hk with
      | root h =>
        refine ⟨_, nD_at ha, ?_⟩
        show (ends Qd).rt (.im (.bool (decide (((par fs a : Nat) : Int) = ((a : Nat) : Int))))) s
        rw [h, decide_eq_true rfl]
        exact q
abbrev s_forest_error : Stmt := topS (11)
abbrev N_forest_error : List Str := ["value", "n", "index", "parent"]
abbrev p_forest_error : List Str := ["value"]
theorem sc_forest_error : FnScope N_forest_error p_forest_error (defScope s_forest_error) := ⟨rfl, rfl, rfl, by decide +kernel, rfl, by decide +kernel, by decide +kernel⟩
theorem ok_ferr (M : Mk K mg "forest_error" s_forest_error p_forest_error) (d_is_vertex : Df P w K mg base CX0 2 "is_vertex" p_is_vertex (spD Z0 fIV)) (d_leads_to_root : Df P w K mg base CX0 1 "leads_to_root" p_leads_to_root (spD Z0 fLead)) {tc : Tok} (g_MAX_VERTICES : mg "MAX_VERTICES" = some (.int 24 tc)) (m_enumerate : mg "enumerate" = none) (m_isinstance : mg "isinstance" = none) (m_len : mg "len" = none) (m_range : mg "range" = none) (m_tuple : mg "tuple" = none) : Df P w K mg base CX0 3 "forest_error" p_forest_error (spD Z0 fErr) := by
  have nd := sc_forest_error.nd
  refine def_ok (k := 2) M sc_forest_error (by decide) ?_ (fun f cdv A outer s H E hr => have hu := hu65 hr; (ds_cons (ds_if (dt_not (dt_val (de_isi (by rfl) m_isinstance (da_cons (dv 0) (da_cons (de_raw (pe_bltn (v := .ty "tuple") (by rfl) m_tuple (by decide +kernel) rfl)) da_nil))))) (ds_one (ds_ret (de_tup (da_cons de_non (da_cons de_str da_nil))))) ds_nil)
      (ds_cons (ds_set (i := 1) nd rfl (.inl rfl) (de_len (by rfl) m_len (da_cons (dv 0) da_nil)))
      (ds_cons (ds_if (dt_not (dt_chain op_le op_le de_int (dv 1) (de_gi (by rfl) g_MAX_VERTICES))) (ds_one (ds_ret (de_tup (da_cons de_non (da_cons de_str da_nil))))) ds_nil)
      (ds_cons (ds_for PassesOwn.never rfl (di_enumQ (by rfl) m_enumerate (da_cons (dv 0) da_nil)) (dg_tup rfl nd (.cons (i := 2) rfl (.inl rfl) (.inl rfl) rfl (.cons (i := 3) rfl (.inl rfl) (.inl rfl) rfl .nil)))
      (ds_one (ds_if (dt_not (dt_val (de_callP d_is_vertex pass0 hr (da_cons (dv 1) (da_cons (dv 3) da_nil))))) (ds_one (ds_ret (de_tup (da_cons (dv 2) (da_cons de_str da_nil))))) ds_nil)))
      (ds_cons (ds_for PassesOwn.never rfl (di_r1 (by rfl) m_range (da_cons (dv 1) da_nil)) (dg_name (i := 2) nd rfl (.inl rfl))
      (ds_one (ds_if (dt_not (dt_val (de_callP d_leads_to_root pass0 hr (da_cons (dv 0) (da_cons (dv 2) da_nil))))) (ds_one (ds_ret (de_tup (da_cons (dv 2) (da_cons de_str da_nil))))) ds_nil)))
      (ds_one (ds_ret de_non)))))))) ?_
  · rintro s as Qd ⟨fs, rfl, _⟩; rfl
  · rintro s as Qd ⟨fs, rfl, hF, q⟩
    have few := hF.few
    have fpos := hF.pos
    refine ⟨.inr (.inr (.inr (.inl rfl))), ?_⟩
    show if (!true) = true then _ else _
    rw [if_neg (by decide)]
    show if decide ((1 : Int) ≤ ((nD fs).length : Nat)) = true then _ else _
    rw [if_pos (decide_eq_true (by rw [nD_len]; omega))]
    show if (!decide ((((nD fs).length : Nat) : Int) ≤ 24)) = true then _ else _
    rw [if_neg (by rw [decide_eq_true (by rw [nD_len]; omega)]; decide)]
    refine ⟨rfl, fun k s ρ => ∃ x2 x3 : Sl, ρ = [.im (tupN fs), .im (.int ((nD fs).length : Nat)), x2, x3], ⟨_, _, rfl⟩, ?_, ?_⟩
    · rintro k d s ρ hd ⟨x2, x3, rfl⟩
      obtain ⟨z, hz, rfl⟩ := enumD_get hd
      obtain ⟨x, hx, rfl⟩ := nD_some hz
      have hk := (List.getElem?_eq_some_iff.mp hx).1
      have hp := hF.rng k hk
      have ex : par fs k = x := by
        unfold par
        rw [List.getD_eq_getElem?_getD, hx]
        rfl
      refine ⟨(nD fs).length, _, rfl, .inl rfl, ?_⟩
      rw [isV_natD (by rw [nD_len]; omega)]
      show if (!true) = true then _ else _
      rw [if_neg (by decide)]
      exact ⟨_, _, rfl⟩
    · rintro s ρ ⟨x2, x3, rfl⟩
      refine ⟨by rw [nD_len]; omega, by rw [nD_len]; omega, rfl, ?_⟩
      rw [nD_len, Int.toNat_natCast]
      refine ⟨fun k s ρ => ∃ x2 x3 : Sl, ρ = [.im (tupN fs), .im (.int (fs.length : Nat)), x2, x3], ⟨_, _, rfl⟩, ?_, fun s ρ _ => q⟩
      rintro k d s ρ hd ⟨x2, x3, rfl⟩
      obtain ⟨hk, rfl⟩ := rngD_get hd
      rw [Int.zero_add]
      refine ⟨fs, k, rfl, hF, hk, .inl rfl, ?_⟩
      show if (!true) = true then _ else _
      rw [if_neg (by decide)]
      exact ⟨_, _, rfl⟩
abbrev s_is_number_text : Stmt := topS (13)
abbrev N_is_number_text : List Str := ["part", "digits"]
abbrev p_is_number_text : List Str := ["part", "digits"]
theorem sc_is_number_text : FnScope N_is_number_text p_is_number_text (defScope s_is_number_text) := ⟨rfl, rfl, rfl, by decide +kernel, rfl, by decide +kernel, by decide +kernel⟩
theorem ok_numT (M : Mk K mg "is_number_text" s_is_number_text p_is_number_text) (m_len : mg "len" = none) : Df P w K mg base CX0 1 "is_number_text" p_is_number_text (spD Z0 fNumT) := by
  have nd := sc_is_number_text.nd
  refine def_ok (k := 0) M sc_is_number_text (by decide) ?_ (fun f cdv A outer s H E hr => have hu := hu65 hr; (ds_cons (ds_if (PW.pt (dw_or (dt_not (dt_val (de_isascii (dv 0)))) (dw_or (dt_not (dt_val (de_isdigit (dv 0)))) (dw_or1 (dt_gt (de_len (by rfl) m_len (da_cons (dv 0) da_nil)) (dv 1)))))) (ds_one (ds_ret de_bl)) ds_nil)
      (ds_one (ds_ret (de_or (de_eq hu (dv 0) de_str) (de_one (de_not (de_starts (dv 0) de_str)))))))) ?_
  · rintro s as Qd ⟨n, rfl, _⟩; rfl
  · rintro s as Qd ⟨n, rfl, hn, q⟩
    have V := vtx hn
    show if (!Txt.isascii (tx n)) = true then _ else _
    rw [V.asc, if_neg (by decide)]
    show if (!Txt.isdigit (tx n)) = true then _ else _
    rw [V.dig, if_neg (by decide)]
    refine ⟨by have := V.len; omega, ?_⟩
    show if decide ((2 : Int) < ((tx n).length : Nat)) = true then _ else _
    rw [if_neg (by rw [decide_eq_false (by have := V.len; omega)]; decide)]
    show if decide (tx n = "0") = true then _ else _
    by_cases z : tx n = "0"
    · rw [if_pos (decide_eq_true z)]
      exact q
    · rw [if_neg (by rw [decide_eq_false z]; decide)]
      refine ⟨trivial, ?_⟩
      show (ends Qd).rt (.im (.bool (!Txt.startswith (tx n) "0"))) s
      rw [V.zer.resolve_left z]
      exact q
abbrev s_is_vertex_text : Stmt := topS (14)
abbrev N_is_vertex_text : List Str := ["part"]
abbrev p_is_vertex_text : List Str := ["part"]
theorem sc_is_vertex_text : FnScope N_is_vertex_text p_is_vertex_text (defScope s_is_vertex_text) := ⟨rfl, rfl, rfl, by decide +kernel, rfl, by decide +kernel, by decide +kernel⟩
theorem ok_vtxT (M : Mk K mg "is_vertex_text" s_is_vertex_text p_is_vertex_text) (d_is_number_text : Df P w K mg base CX0 1 "is_number_text" p_is_number_text (spD Z0 fNumT)) {tc : Tok} (g_MAX_VERTICES : mg "MAX_VERTICES" = some (.int 24 tc)) (m_int : mg "int" = none) (m_len : mg "len" = none) (m_str : mg "str" = none) : Df P w K mg base CX0 2 "is_vertex_text" p_is_vertex_text (spD Z0 fVtxT) := by
  have nd := sc_is_vertex_text.nd
  refine def_ok (k := 1) M sc_is_vertex_text (by decide) ?_ (fun f cdv A outer s H E hr => have hu := hu65 hr; (ds_one (ds_ret (de_and (de_callP d_is_number_text pass0 hr (da_cons (dv 0) (da_cons (de_len (by rfl) m_len (da_cons (de_strI (by rfl) m_str (da_cons (de_gi (by rfl) g_MAX_VERTICES) da_nil)) da_nil)) da_nil))) (de_one (de_lt (de_intS (by rfl) m_int (da_cons (dv 0) da_nil)) (de_gi (by rfl) g_MAX_VERTICES))))))) ?_
  · rintro s as Qd ⟨n, rfl, _⟩; rfl
  · rintro s as Qd ⟨n, rfl, hn, q⟩
    have V := vtx hn
    refine ⟨by decide, by decide, n, rfl, hn, .inl rfl, ?_⟩
    show if true = true then _ else _
    rw [if_pos rfl]
    refine ⟨_, V.num, by have := V.len; omega, ?_⟩
    show (ends Qd).rt (.im (.bool (decide (((n : Nat) : Int) < 24)))) s
    rw [decide_eq_true (by omega)]
    exact q
abbrev s_check_string : Stmt := topS (15)
abbrev N_check_string : List Str := ["value"]
abbrev p_check_string : List Str := ["value"]
theorem sc_check_string : FnScope N_check_string p_check_string (defScope s_check_string) := ⟨rfl, rfl, rfl, by decide +kernel, rfl, by decide +kernel, by decide +kernel⟩
theorem ok_chkS (M : Mk K mg "check_string" s_check_string p_check_string) (m_isinstance : mg "isinstance" = none) (m_str : mg "str" = none) : Df P w K mg base CX0 1 "check_string" p_check_string (spD Z0 fChkS) := by
  have nd := sc_check_string.nd
  refine def_ok (k := 0) M sc_check_string (by decide) ?_ (fun f cdv A outer s H E hr => have hu := hu65 hr; (ds_one (ds_if (dt_not (dt_val (de_isi (by rfl) m_isinstance (da_cons (dv 0) (da_cons (de_raw (pe_bltn (v := .ty "str") (by rfl) m_str (by decide +kernel) rfl)) da_nil))))) (ds_one ds_never) ds_nil))) ?_
  · rintro s as Qd ⟨z, rfl, _⟩; rfl
  · rintro s as Qd ⟨z, rfl, q⟩
    refine ⟨.inr (.inr (.inl rfl)), ?_⟩
    show if (!true) = true then _ else _
    rw [if_neg (by decide)]
    exact q
end
end Lf
namespace Lf
open PySem PySem.Spec PyProof.Rows L2
/-! ### sorted of a list of pairs of ints -/
def prAt (H : Hp) (x : V) (p : Int × Int) : Prop := ∃ t, x = .ref t ∧ ∃ o, H t = some (.frz o (.tup [.int p.1, .int p.2])) ∧ Tk o
theorem prAt.inj {H : Hp} {x : V} {p q : Int × Int} (h : prAt H x p) (k : prAt H x q) : p = q := by
  obtain ⟨t, rfl, h⟩ := h
  obtain ⟨u, e, k⟩ := k
  cases e
  obtain ⟨p1, p2⟩ := p
  obtain ⟨q1, q2⟩ := q
  obtain ⟨o, h, _⟩ := h
  obtain ⟨o', k, _⟩ := k
  rw [h] at k
  cases k
  rfl
def rSortPS (K : PySem.W.Frag) : List V → Hp → VK → Prop := fun vs H Q => ∃ (a : Addr) (xs : List V) (k : V → Int × Int), vs = [V.ref a] ∧ SqL K H a xs ∧ (∀ x ∈ xs, ∃ t, x = V.ref t ∧ SqT K H t [.int (k x).1, .int (k x).2]) ∧
  ∀ ys p, SrtO.Srtd (ltP k) ys → ys.Perm xs → H p = none → Q (.ref p) (upd H p (.lst ys))
theorem cr_sortPS {X : Cx} : CallR X (.builtin "sorted") (rSortPS X.K) := by
  intro pins s σ H vs us Q I r h
  obtain ⟨a, xs, k, rfl, hs, hx, q⟩ := h
  obtain ⟨its, rv, hl, hz⟩ := I.list hs
  obtain ⟨u, rfl, ru⟩ := vals1 r
  obtain rfl : u = Value.ref a := ru
  obtain ⟨e1, e2⟩ := refs_back rv fun x m => (hx x m).imp fun t h => h.1
  refine SrtO.sorted_pairsO (k := fun u => k (backV u)) hl.isList (by rw [← rv.length]; exact hz) (fun v hv => ?_) fun h' d out h1 h2 kp hd hn => ?_
  · obtain ⟨t, rfl⟩ := e2 v hv
    have hm : V.ref t ∈ xs := by rw [e1]; exact List.mem_map.mpr ⟨_, hv, rfl⟩
    obtain ⟨t', e, ht⟩ := hx _ hm
    cases e
    obtain ⟨its2, r2, ⟨o, ho, hc, n, hd⟩, _⟩ := I.tuple ht
    obtain ⟨u1, u2, rfl, ⟨t1, rfl⟩, ⟨t2, rfl⟩⟩ := vals2 r2
    exact ⟨t, o, t1, t2, n, rfl, ho, hc, hd⟩
  · have h3 : ∀ u ∈ out, ∃ a, u = Value.ref a := fun u hu => e2 u (h2.perm.mem_iff.mp hu)
    obtain ⟨n, hn⟩ := hn
    have hb : (out.map backV).Perm xs := by
      rw [e1]
      exact h2.perm.map backV
    refine ⟨.ref d, upd H d (.lst (out.map backV)), I.laid (t' := s.toks) kp hd ⟨?_, out, n, vals_back h3, hn⟩, rfl, q _ d (SrtO.srtd_map h1) hb (I.hok.fresh hd)⟩
    rw [hb.length_eq]
    exact hz
def prD (l : List (Int × Int)) : List PyData := l.map fun p => .tuple [.int p.1, .int p.2]
def opSortP : Cb := fun rs Q => match rs with
  | [x] => match x.D with
    | some (.list l) => ∃ ps : List (Int × Int), l = prD ps ∧ ∀ qs : List (Int × Int), qs.Perm ps → qs.Pairwise (fun p q => SrtO.lexB q p = false) → Q (.fr (prD qs))
    | _ => False
  | _ => False
theorem im_pair {B : Addr → Prop} {H : Hp} {v : V} {p : Int × Int} (h : Im B H v (.tuple [.int p.1, .int p.2])) : prAt H v p := by
  cases h with
  | ftp e tk q =>
    cases q with
    | cons h1 q =>
      cases q with
      | cons h2 q =>
        cases q
        cases h1
        cases h2
        exact ⟨_, rfl, _, e, tk⟩
theorem pair_im {B : Addr → Prop} {H : Hp} {v : V} {p : Int × Int} (h : prAt H v p) : Im B H v (.tuple [.int p.1, .int p.2]) := by
  obtain ⟨t, rfl, o, h, tk⟩ := h
  exact .ftp h tk (.cons (.int _) (.cons (.int _) .nil))
theorem im_pairs {B : Addr → Prop} {H : Hp} {k : V → Int × Int} (hk : ∀ x p, prAt H x p → k x = p) : ∀ {xs : List V} {ps : List (Int × Int)}, ImAll B H xs (prD ps) → (∀ x ∈ xs, prAt H x (k x)) ∧ xs.map k = ps
  | [], [], _ => ⟨fun x hx => absurd hx List.not_mem_nil, rfl⟩
  | [], _ :: _, h => by cases h
  | _ :: _, [], h => by cases h
  | x :: xs, p :: ps, h => by
    have h : ImAll B H (x :: xs) (.tuple [.int p.1, .int p.2] :: prD ps) := h
    cases h with
    | cons h1 h2 =>
      obtain ⟨a, b⟩ := im_pairs hk h2
      have hx := im_pair h1
      have e := hk x p hx
      refine ⟨fun y hy => ?_, by rw [List.map_cons, e, b]⟩
      rcases List.mem_cons.mp hy with z | z
      · rw [z, e]; exact hx
      · exact a y z
theorem pairs_im {B : Addr → Prop} {H : Hp} {k : V → Int × Int} : ∀ {ys : List V}, (∀ x ∈ ys, prAt H x (k x)) → ImAll B H ys (prD (ys.map k))
  | [], _ => .nil
  | y :: ys, h => .cons (pair_im (h y List.mem_cons_self)) (pairs_im fun x hx => h x (List.mem_cons_of_mem _ hx))
section
variable {Z : Zn} {X : Cx} {e : Expr} {es : List Expr} {das : DA Z} {pos p : Pos}
theorem de_sortedP (hg : Gl X "sorted") (hm : X.mg "sorted" = none) (ha : DAs Z X (e :: es) das) (he : starEach (e :: es) X.env = (false, eval e X.env) :: starEach es X.env := by rfl) (hpl : (backTo pos (starEach es X.env)).any (·.1) = false := by rfl) : DE Z X (.Call (.Name "sorted" p) (e :: es) [] pos) (dCB opSortP das) := by
  refine PE.of (pe_callB cr_sortPS hg hm (by decide +kernel) ha (by decide) (by decide) he hpl) fun σ H Q h => lift_cb ?_ h
  intro Z B0 ρ s H0 σ Ha H vs xs Qd Q R rr q kk
  unfold opSortP at q
  split at q
  · obtain ⟨v, rfl, r1⟩ := rr.one
    split at q
    · rename_i l e1
      obtain ⟨ps, rfl, q⟩ := q
      obtain ⟨a, ys, rfl, h1, h2⟩ := r1.lst e1
      classical
      let k : V → Int × Int := fun x => if h : ∃ p, prAt H x p then h.choose else (0, 0)
      have hk : ∀ x p, prAt H x p → k x = p := fun x p hp => by
        have hx : ∃ p, prAt H x p := ⟨p, hp⟩
        show (if h : ∃ p, prAt H x p then h.choose else (0, 0)) = p
        rw [dif_pos hx]
        exact hx.choose_spec.inj hp
      obtain ⟨hp, em⟩ := im_pairs hk h2
      refine ⟨a, ys, k, rfl, SqL.of h1, fun x hx => ?_, fun zs p hs pm hn => ?_⟩
      · obtain ⟨t, rfl, o, h, _⟩ := hp x hx
        exact ⟨t, rfl, .inl (.inr ⟨o, h⟩)⟩
      · refine kk _ _ _ (q (zs.map k) (by rw [← em]; exact pm.map k) (List.pairwise_map.mpr hs)) (same_new hn) (R.newL hn (pairs_im fun x hx => hp x (pm.mem_iff.mp hx)))
    · exact q.elim
  · exact q.elim
end
/-- a strictly sorted list is its own sorted form -/
theorem sort_self {ps qs : List (Int × Int)} (pm : qs.Perm ps) (hq : qs.Pairwise fun p q => SrtO.lexB q p = false) (hp : ps.Pairwise fun p q => SrtO.lexB p q = true) : qs = ps := by
  refine List.Perm.eq_of_pairwise (le := fun p q => SrtO.lexB q p = false) (fun a b _ _ h1 h2 => ?_) hq (hp.imp fun {a b} h => ?_) pm
  · have h1 := SrtO.lexB_no.mp h1
    have h2 := SrtO.lexB_no.mp h2
    exact Prod.ext (by omega) (by omega)
  · have := SrtO.lexB_iff.mp h
    exact SrtO.lexB_no.mpr (by omega)
end Lf
namespace Lf
open PySem PySem.Spec PyProof.Rows L2
/-! ### sorted of a list of any data that can be compared -/
section
open PySem.W PySem.Calls
theorem sorts_short {prog : Program} {w : World} {A : Around} {s : Shared} {vs : List Value} {ds : List PyData} (e : EachIs (fun v d => ∃ as, Reads s.heap v d as) vs ds) (hal : AllAlike ds) (hn : ∀ d ∈ ds, d ≠ .none) (hs : ds.length ≤ 1) (hu : ∀ d, d ∈ ds → A.units + d.depth < cLine) : SortsAt prog w A s (dataKind s.heap ds) vs := by
  have room : ∀ {d d' : PyData}, d ∈ ds → A.units + min d.depth d'.depth < cLine := fun {d d'} hd => Nat.lt_of_le_of_lt (Nat.add_le_add_left (Nat.min_le_left _ _) _) (hu d hd)
  refine ⟨fun v hv => ?_, general', fun E x y a b Q ha hb hq => ?_, fun h2 => ?_⟩
  · obtain ⟨d, hd, as, r⟩ := e.left v hv
    exact ⟨_, dataKind_some hal hd r⟩
  · obtain ⟨d, as, hd, ra, rfl⟩ := dataKind_inv ha
    obtain ⟨d', as', hd', rb, rfl⟩ := dataKind_inv hb
    exact oneLt_alike (f := false) (fun z => nomatch z) ra rb (hal d hd d' hd') (hn d hd) (room hd) hq
  · have := e.length
    omega
theorem sorted_dataS {prog : Program} {w : World} {A : Around} {E : Value → Shared → Prop} {s : Shared} {vs : List Value} {bs : List PyData} {R : Value → PyData → Prop} {l : Addr} {Q : Value → Shared → Prop} (hl : s.heap.IsList l vs.toArray) (e : EachIs R vs bs) (er : EachIs (fun v b => ∃ as, Reads s.heap v b as) vs bs) (hal : AllAlike bs) (hn : ∀ d ∈ bs, d ≠ .none) (hs : bs.length ≤ 1) (hL : bs.length ≤ sizeLine)
    (hu : ∀ b, b ∈ bs → A.units + 2 + b.depth < cLine) (h : ∀ out, out.length = bs.length → EachIs R out (bs.mergeSort (dataLe false id)) → Q (.ref (s.heap.objs.size + 1)) { s with heap := sortedAll s.heap vs (List.toArray out) }) :
    wpAny (model prog w) A (call (.builtin "sorted") [.ref l]) Q E s := by
  have er' : EachIs (fun v b => ∃ as, Reads (sortingHeap (copyHeap s.heap vs) (s.heap.objs.size + 1) vs) v (id b) as) vs bs := er.mono fun _ _ ⟨as, r⟩ => ⟨as, PyProof.Rows.Reads.keeps (fun _ _ => sorting_copy_old) r⟩
  have hal' : AllAlike (bs.map id) := by rw [List.map_id]; exact hal
  have S := sorts_short (prog := prog) (w := w) (A := A.in1.in1) (s := { s with heap := sortingHeap (copyHeap s.heap vs) (s.heap.objs.size + 1) vs }) (ds := bs.map id) (by rw [List.map_id]; exact er') hal' (by rw [List.map_id]; exact hn) (by rw [List.map_id]; exact hs) (by rw [List.map_id]; exact hu)
  exact sorted_vals hl S (by rw [e.length]; exact hL)
    (h _ (by rw [sortVals_length false rfl]; exact e.length) (sortVals_data false e er' hal'))
end
open PySem.W in
structure SrtOk (l : List PyData) : Prop where
  lay : PyData.canLayAll0 l = true
  like : AllAlike l
  kind : Sortable l ∨ (l.length ≤ 1 ∧ ∀ d ∈ l, d ≠ .none)
  deep : ∀ d ∈ l, d.depth ≤ 60
abbrev srtD (l : List PyData) : List PyData := l.mergeSort (PySem.W.dataLe false id)
open PySem.W in
theorem each_im {B : Addr → Prop} {H : Hp} : ∀ {vs : List Value} {ds : List PyData}, EachIs (fun v d => ∃ x, RelV x v ∧ Im B H x d) vs ds → ∃ ys, Vals ys vs ∧ ImAll B H ys ds
  | _, _, .nil => ⟨[], .nil, .nil⟩
  | _, _, .cons ⟨x, h1, h2⟩ t => by
    obtain ⟨ys, h3, h4⟩ := each_im t
    exact ⟨x :: ys, .cons h1 h3, .cons h2 h4⟩
open PySem.W in
theorem im_each {B : Addr → Prop} {H : Hp} : ∀ {xs : List V} {vs : List Value} {ds : List PyData}, Vals xs vs → ImAll B H xs ds → EachIs (fun v d => ∃ x, RelV x v ∧ Im B H x d) vs ds
  | _, _, _, .nil, h => by cases h; exact .nil
  | _, _, _, .cons h1 h2, h => by
    cases h with
    | cons g1 g2 => exact .cons ⟨_, h1, g1⟩ (im_each h2 g2)
open PySem.W in
theorem reads_each {h : Heap} : ∀ {vs : List Value} {ds : List PyData} {as : List Addr}, ReadsAll h vs ds as → EachIs (fun v d => ∃ as, Reads h v d as) vs ds
  | _, _, _, .nil => .nil
  | _, _, _, .cons h1 h2 => .cons ⟨_, h1⟩ (reads_each h2)
def rSortG (K : PySem.W.Frag) : List V → Hp → VK → Prop := fun vs H Q => ∃ (B : Addr → Prop) (a : Addr) (xs : List V) (l : List PyData), vs = [V.ref a] ∧ SqL K H a xs ∧ ImAll B H xs l ∧ SrtOk l ∧ ∀ ys p, ImAll B H ys (srtD l) → H p = none → Q (.ref p) (upd H p (.lst ys))
open PySem.W in
theorem cr_sortG {X : Cx} (hu : X.A.units + 65 < cLine) : CallR X (.builtin "sorted") (rSortG X.K) := by
  intro pins s σ H vs us Q I r h
  obtain ⟨B, a, xs, l, rfl, hs, hx, ok, q⟩ := h
  obtain ⟨its, rv, hl, hz⟩ := I.list hs
  obtain ⟨u, rfl, ru⟩ := vals1 r
  obtain rfl : u = Value.ref a := ru
  obtain ⟨as, ra⟩ := Dp.readsAll I l _ its (dps_of ok.lay hx) rv
  have e := im_each rv hx
  have er := reads_each ra
  have ll : l.length = its.length := e.length.symm
  have hL : l.length ≤ sizeLine := by rw [← hx.length]; exact hz
  have hd : ∀ b, b ∈ l → X.A.units + 2 + b.depth < cLine := fun b hb => by have := ok.deep b hb; omega
  have fin : ∀ out : List Value, out.length = l.length → EachIs (fun v d => ∃ x, RelV x v ∧ Im B H x d) out (srtD l) → ∃ v H', Inv X pins σ H' { s with heap := sortedAll s.heap its (List.toArray out) } ∧ RelV v (Value.ref (s.heap.objs.size + 1)) ∧ Q v H' := fun out lo eo => by
    obtain ⟨ys, h1, h2⟩ := each_im eo
    obtain ⟨c, hc⟩ := sortedAll_at s.heap its out.toArray
    refine ⟨.ref (s.heap.objs.size + 1), upd H (s.heap.objs.size + 1) (.lst ys), I.laid (t' := s.toks) (fun _ _ => sortedAll_old) (Nat.le_succ _) ⟨?_, out, c, h1, hc⟩, rfl, q ys _ h2 (I.hok.fresh (Nat.le_succ _))⟩
    rw [h2.length, List.length_mergeSort]
    exact hL
  rcases ok.kind with k | ⟨k, kn⟩
  · exact sorted_data (enc := id) hl.isList e er (by rw [List.map_id]; exact ok.like) (by rw [List.map_id]; exact k) hL hd fin
  · exact sorted_dataS hl.isList e er ok.like kn k hL hd fin
def opSortG : Cb := fun rs Q => match rs with
  | [x] => match x.D with
    | some (.list l) => SrtOk l ∧ Q (.fr (srtD l))
    | _ => False
  | _ => False
section
variable {Z : Zn} {X : Cx} {e : Expr} {es : List Expr} {das : DA Z} {pos p : Pos}
theorem de_sortedG (hu : X.A.units + 65 < cLine) (hg : Gl X "sorted") (hm : X.mg "sorted" = none) (ha : DAs Z X (e :: es) das) (he : starEach (e :: es) X.env = (false, eval e X.env) :: starEach es X.env := by rfl) (hpl : (backTo pos (starEach es X.env)).any (·.1) = false := by rfl) : DE Z X (.Call (.Name "sorted" p) (e :: es) [] pos) (dCB opSortG das) := by
  refine PE.of (pe_callB (cr_sortG hu) hg hm (by decide +kernel) ha (by decide) (by decide) he hpl) fun σ H Q h => lift_cb ?_ h
  intro Z B0 ρ s H0 σ Ha H vs xs Qd Q R rr q kk
  unfold opSortG at q
  split at q
  · obtain ⟨v, rfl, r1⟩ := rr.one
    split at q
    · rename_i l e1
      obtain ⟨a, ys, rfl, h1, h2⟩ := r1.lst e1
      exact ⟨_, a, ys, l, rfl, SqL.of h1, h2, q.1, fun zs p hz hn => kk _ _ _ q.2 (same_new hn) (R.newL hn hz)⟩
    · exact q.elim
  · exact q.elim
end
end Lf
namespace Lf
open PySem PySem.Spec PyProof.Rows L2
/-! ### sorted(xs, key=f), f a def of the module that only makes things -/
section
open PySem.W PySem.Calls
variable {X : Cx} {pins : List (Addr × Obj)} {σ : L2.St} {H : Hp} {s : Shared} {c a kS : Addr}
/-- an address behind the frame, the cells and the pins -/
structure Ours (X : Cx) (pins : List (Addr × Obj)) (c : Addr) : Prop where
  new : X.s_0.heap.objs.size ≤ c
  loc : c ≠ X.env.locals
  cel : ∀ x d, X.env.cells.lookup x = some d → d ≠ c
  pin : ∀ p ∈ X.pn ++ pins, p.1 ≠ c
  fs : c ∉ X.fs
theorem ours_of (I : Inv X pins σ H s) (h : s.heap.objs.size ≤ c) : Ours X pins c where
  new := Nat.le_trans I.sz h
  loc := fun e => by
    subst e
    exact absurd (Nat.lt_of_lt_of_le I.lt h) (Nat.lt_irrefl _)
  cel := fun x d e z => by
    obtain ⟨v, o, ho, _⟩ := I.cell x d e
    subst z
    exact absurd (Nat.lt_of_lt_of_le (Heap.lt_size ho) h) (Nat.lt_irrefl _)
  pin := fun p hp z => by
    rw [← z] at h
    exact absurd (Nat.lt_of_lt_of_le (Heap.lt_size (I.pin p hp).1) h) (Nat.lt_irrefl _)
  fs := I.nofs h
/-- the list that is sorted and the store of the keys, pinned -/
abbrev lo (a : Addr) (xs : Array Value) (n : Nat) : Addr × Obj := (a, seqObj "list" xs n)
theorem key_call {F : DF Z0} {key d : PyData} {k : Nat} {f : Addr} {fd : FuncData} {n : Str} {v : Value} {x : V} {B : Addr → Prop} (FO : FnOk X.prog X.w X.K X.mg X.base CX0 k f fd [n] (spD Z0 F)) (b : Binds X.K fd [n] []) (hr : Room (k + 2) X.A) (I : Inv X pins σ H s) (rv : RelV x v) (im : Im B H x d) (nl : noL d = true) (nk : noL key = true)
    (hF : F () [.im d] fun r _ => r = .im key) : wpAny (model X.prog X.w) X.A.in1.in1 (call (.ref f) [v]) (EP X pins σ fun y H' => Same H H' ∧ Im (fun _ => False) H' y key) (fun _ _ => False) s := by
  have sp : spD Z0 F [x] H (fun y H' => Same H H' ∧ Im (fun _ => False) H' y key) E0 :=
    ⟨fun _ => False, (), [.im d], fun r _ => r = .im key, trivial, fun _ z => z.elim, .cons (Im.free nl im) .nil, hF, fun r s' v H' hq _ gr rr => by
      subst hq
      exact ⟨fun b o e => gr b o e fun z => z, Im.free nk rr⟩⟩
  have hl : ([v] ++ []).length = [n].length := rfl
  refine wpAny_call (codeAny_mono (FO.run X.A.in1.in1 X.stack s H ⟨[v], []⟩ ([v] ++ []) [x] _ E0 hr.in1.in1 I.env0.in1.in1 (b s [v] I.kIn hl) (.cons rv .nil) sp) fun r s' hq => ?_)
  cases r with
  | error e => exact hq.elim
  | ok fl =>
    cases fl with
    | ret u => exact I.after hq
    | next => exact False.elim hq
    | brk => exact False.elim hq
    | cont => exact False.elim hq
/-- the store has got one more key -/
theorem key_push {kA : Array Value} {e e1 : Nat} (oa : Ours X pins a) (ok : Ours X pins kS) (hka : kS ≠ a) (na : H a = none) (nk : H kS = none) (I : Inv X (lo a #[] e1 :: lo kS kA e :: pins) σ H s) (v : Value) :
    ∃ c, Inv X (lo a #[] e1 :: lo kS (kA.push v) c :: pins) σ H { s with heap := s.heap.update kS (Obj.mapSeq (·.push v)) } := by
  have gk : s.heap.get? kS = some (seqObj "list" kA e) := (I.pin (lo kS kA e) (List.mem_append_right _ (.tail _ (.head _)))).1
  have ga : s.heap.get? a = some (seqObj "list" #[] e1) := (I.pin (lo a #[] e1) (List.mem_append_right _ (.head _))).1
  have I0 : Inv X pins σ H s := I.pins_of fun p hp => I.pin p (List.mem_append_right _ (.tail _ (.tail _ hp)))
  have s1 := Heap.SameBut.update s.heap kS (Obj.mapSeq (·.push v))
  obtain ⟨c2, hc2⟩ : ∃ c2, (s.heap.update kS (Obj.mapSeq (·.push v))).get? kS = some (seqObj "list" (kA.push v) c2) := ⟨_, get?_update_seq gk (·.push v)⟩
  have I1 : Inv X pins σ H { s with heap := s.heap.update kS (Obj.mapSeq (·.push v)) } := I0.turned (it := kS) (fun b o hb q => (s1.2 b hb).trans q) nk ok.loc (.inr ok.new) ok.cel ok.pin
  refine ⟨c2, I1.pins_of fun p hp => ?_⟩
  rcases List.mem_cons.mp hp with rfl | hp
  · exact ⟨(s1.2 a hka.symm).trans ga, na, oa.loc, oa.fs, fun v z => by cases z⟩
  rcases List.mem_cons.mp hp with rfl | hp
  · exact ⟨hc2, nk, ok.loc, ok.fs, fun v z => by cases z⟩
  · exact I1.pin p (List.mem_append_right _ hp)
open Heap in
theorem key_rest {F : DF Z0} {key : PyData → PyData} {k : Nat} {f : Addr} {fd : FuncData} {n : Str} {B : Addr → Prop} {vs : List Value} {l : List PyData} {e1 : Nat} {b : Bool} {P : PySem.Fin → Shared → Prop} {E : Value → Shared → Prop} (FO : FnOk X.prog X.w X.K X.mg X.base CX0 k f fd [n] (spD Z0 F)) (bd : Binds X.K fd [n] []) (hr : Room (k + 2) X.A) (hu : X.A.units + 65 < cLine)
    (oa : Ours X pins a) (ok : Ours X pins kS) (hka : kS ≠ a) (na : H a = none) (nk : H kS = none) (I : Inv X (lo a #[] e1 :: lo kS #[] 0 :: pins) σ H s)
    (im : EachIs (fun v d => ∃ x, RelV x v ∧ Im B H x d) vs l) (nl : ∀ d ∈ l, noL d = true ∧ noL (key d) = true ∧ F () [.im d] fun r _ => r = .im (key d)) (so : SrtOk (l.map key)) (hz : vs.length ≤ sizeLine)
    (h : ∀ H' s' out, Inv X pins σ (upd H' a (.lst out)) s' → Same H H' → H' a = none → ImAll (fun _ => False) H' out (l.mergeSort (dataLe b key)) → P (.done (.ret .none)) s') :
    wpAny (model X.prog X.w) X.A.in1.in1 (ksk_rest a (.ref f) b vs.toArray e1 (.ref kS)) P E s := by
  have vl : vs.length = l.length := im.length
  unfold ksk_rest
  refine wpAny_bind (wpAny_rule ?_)
  rw [List.forIn_toArray]
  refine wpAny_bind (ksk_fold (fun i s' => ∃ H' kA c, Inv X (lo a #[] e1 :: lo kS kA c :: pins) σ H' s' ∧ Same H H' ∧ H' a = none ∧ H' kS = none ∧ EachIs (fun v d => ∃ x, RelV x v ∧ Im (fun _ => False) H' x d) kA.toList ((l.map key).take i)) vs 0 s
    ⟨H, #[], 0, I, Same.refl H, na, nk, by rw [List.take_zero]; exact EachIs.nil⟩ ?step ?done)
  case step =>
    rintro j v s' hv ⟨H1, kA, c, I1, sm, na1, nk1, hk⟩
    simp only [Nat.zero_add] at hk ⊢
    have hj : j < vs.length := (List.getElem?_eq_some_iff.mp hv).1
    obtain ⟨d, hd⟩ : ∃ d, l[j]? = some d := ⟨_, List.getElem?_eq_getElem (by omega)⟩
    have hm := List.mem_of_getElem? hd
    obtain ⟨x, rv, hx⟩ := im.zip (v, d) (List.mem_of_getElem? (i := j) (by rw [List.getElem?_zip_eq_some]; exact ⟨hv, hd⟩))
    obtain ⟨n1, n2, hF⟩ := nl d hm
    have hx1 : Im (fun _ => False) H1 x d := (Im.free (B' := fun _ => False) n1 hx).mono (fun b o e _ => ⟨sm b o e, fun z => z⟩) (fun b xs e => sm b _ e) (fun b o u e => sm b _ e)
    have kl : kA.size ≤ vs.length := by
      have h1 := hk.length
      rw [Array.length_toList, List.length_take] at h1
      omega
    refine wpAny_bind (wpAny_attempt (wpAny_mono (key_call FO bd hr I1 rv hx1 n1 n2 hF) (fun u s'' he => ?_) fun _ _ hF => hF.elim))
    obtain ⟨y, H2, I2, ry, sm2, hy⟩ := he
    try dsimp only
    have gk : s''.heap.get? kS = some (seqObj "list" kA c) := (I2.pin (lo kS kA c) (List.mem_append_right _ (.tail _ (.head _)))).1
    have na2 : H2 a = none := (I2.pin (lo a #[] e1) (List.mem_append_right _ (.head _))).2.1
    have nk2 : H2 kS = none := (I2.pin (lo kS kA c) (List.mem_append_right _ (.tail _ (.head _)))).2.1
    obtain ⟨c2, I3⟩ := key_push oa ok hka na2 nk2 I2 u
    have ek : (l.map key).take (j + 1) = (l.map key).take j ++ [key d] := by
      rw [List.take_add_one, List.getElem?_map, hd]
      rfl
    have ea : (kA.push u).toList = kA.toList ++ [u] := by simp
    refine wpAny_bind (listUpdate_at gk rfl ?_ (Nat.le_trans kl hz) (Nat.le_trans (Nat.le_of_eq (Array.size_push ..)) (Nat.succ_le_succ (Nat.le_trans kl hz))))
    refine wpAny_pure ⟨rfl, H2, kA.push u, c2, I3, sm.trans sm2, na2, nk2, ?_⟩
    rw [ea, ek]
    refine each_snoc (R := fun (v : Value) (d : PyData) => ∃ x, RelV x v ∧ Im (fun _ => False) H2 x d) ⟨y, ry, hy⟩ ?_
    exact hk.mono fun v d ⟨x, r, q⟩ => ⟨x, r, q.mono (fun b o e _ => ⟨sm2 b o e, fun z => z⟩) (fun b xs e => sm2 b _ e) (fun b o u e => sm2 b _ e)⟩
  case done =>
    rintro s' ⟨H1, kA, c, I1, sm, na1, nk1, hk⟩
    have gk : s'.heap.get? kS = some (seqObj "list" kA c) := (I1.pin (lo kS kA c) (List.mem_append_right _ (.tail _ (.head _)))).1
    have ga : s'.heap.get? a = some (seqObj "list" #[] e1) := (I1.pin (lo a #[] e1) (List.mem_append_right _ (.head _))).1
    have I0 : Inv X pins σ H1 s' := I1.pins_of fun p hp => I1.pin p (List.mem_append_right _ (.tail _ (.tail _ hp)))
    have e3 : (l.map key).take (0 + vs.length) = l.map key := List.take_of_length_le (by rw [List.length_map]; omega)
    rw [e3] at hk
    have hsz : kA.size = vs.length := by
      have h1 := hk.length
      rw [Array.length_toList, List.length_map] at h1
      omega
    obtain ⟨ys, ry, iy⟩ := each_im hk
    obtain ⟨as, ra⟩ := Dp.readsAll I0 (l.map key) _ kA.toList (dps_of so.lay iy) ry
    have er := reads_each ra
    have hd : ∀ d ∈ l.map key, X.A.in1.in1.units + d.depth < cLine := fun d hd => by
      have := so.deep d hd
      show X.A.units + 1 + 1 + _ < _
      omega
    have S : SortsAt X.prog X.w X.A.in1.in1 s' (dataKind s'.heap (l.map key)) kA.toList := by
      rcases so.kind with k | ⟨k, kn⟩
      · exact SortsAt.data er so.like k hd
      · exact sorts_short er so.like kn k hd
    try dsimp only
    refine wpAny_bind (listItems_at gk rfl ?_)
    refine keyH_end (κ := dataKind s'.heap (l.map key)) (h₁ := hideAll s'.heap [kS]) (fun b o _ e => of_hideAll _ e) (hideAll_none _ (.head _)) gk ga hka S hsz hz fun h' tk c' kp ho => ?_
    have keep : ∀ b o, b ∉ [a, kS] → s'.heap.get? b = some o → h'.get? b = some o := fun b o hb e => by
      refine kp b o (fun z => hb (by rw [z]; exact .head _)) (hideAll_get _ e fun z => hb (.tail _ ?_))
      exact z
    have im1 : EachIs (fun v d => ∃ x, RelV x v ∧ Im (fun _ => False) H1 x d) vs l := EachIs.of_zip im.length fun p hp => by
      obtain ⟨x, r, q⟩ := im.zip p hp
      exact ⟨x, r, (Im.free (B' := fun _ => False) (nl _ (List.of_mem_zip hp).2).1 q).mono (fun b o e _ => ⟨sm b o e, fun z => z⟩) (fun b xs e => sm b _ e) (fun b o u e => sm b _ e)⟩
    have eo := keyedOut_each (rev := b) key ⟨s'.heap, kA.toList, so.like, rfl, er⟩ im1
    obtain ⟨out, r1, i1⟩ := each_im eo
    refine h H1 { s' with heap := h', toks := tk } out ?_ sm na1 i1
    have ne : ∀ b o, H1 b = some o → b ∉ [a, kS] := fun b o e z => by
      simp only [List.mem_cons, List.not_mem_nil, or_false] at z
      rcases z with rfl | rfl
      · rw [na1] at e; cases e
      · rw [nk1] at e; cases e
    have ne1 : ∀ b o, H1 b = some o → b ≠ a := fun b o e z => ne b o e (by rw [z]; exact .head _)
    refine I0.step (ch := [a, kS]) (g' := s'.gens) (d' := s'.drawn) (fun b hb => ?_) (fun b o _ _ hc e _ => keep b o hc e) (fun b o _ _ hc e _ => ⟨o.slots, keep b o hc e⟩) (fun b o hc e n => ?_) (fun b o hc e => ⟨o, keep b o hc e⟩) (fun b xs e => ?_) (fun b o u e => ?_) (fun b ps e => ⟨#[], ?_⟩) (fun m hm => ?_) (fun b o e => ?_) I0.bare
    · simp only [List.mem_cons, List.not_mem_nil, or_false] at hb
      rcases hb with rfl | rfl
      · exact ⟨.inr oa.new, oa.loc, fun x d e z => oa.cel x d e z, oa.pin⟩
      · exact ⟨.inr ok.new, ok.loc, fun x d e z => ok.cel x d e z, ok.pin⟩
    · rw [upd_ne fun z => hc (by rw [z]; exact .head _)]
      exact n
    · rw [upd_ne (ne1 b _ e)]
      exact e
    · rw [upd_ne (ne1 b _ e)]
      exact e
    · rw [upd_ne (ne1 b _ e), e]
      simp
    · obtain ⟨o, es, ep, ho', r⟩ := hm
      exact ⟨o, es, ep, keep _ _ (fun z => by
        simp only [List.mem_cons, List.not_mem_nil, or_false] at z
        exact z.elim (fun z => oa.loc z.symm) fun z => ok.loc z.symm) ho', r⟩
    · by_cases hb : b = a
      · subst hb
        rw [upd_same] at e
        cases e
        refine ⟨?_, _, c', r1, ho⟩
        rw [i1.length, List.length_mergeSort]
        omega
      · rw [upd_ne hb] at e
        refine (I0.hok b o e).stay (fun d u hd q => keep d u (hd.elim (fun z => by rw [z]; exact ne b _ e) fun z => ne d _ z) q) (fun d z => ?_) fun d xs z => ?_
        · rw [upd_ne (ne1 d _ z)]
          exact z
        · rw [upd_ne (ne1 d _ z)]
          exact z
open PySem.Calls in
theorem sorted_of_sortT {prog : Program} {w : World} {A : Around} {E : Value → Shared → Prop} {s : Shared} {l : Addr} {vs : List Value} {kw : List (Str × Value)} {Q : Value → Shared → Prop} (hl : IsTup s.heap l vs.toArray) (hL : vs.length ≤ sizeLine) (ha1 : argsOk "sorted" ⟨[.ref l], kw⟩) (ha2 : ∀ x, argsOk "list.sort" ⟨[.ref x], kw⟩)
    (body : ∀ E' : Value → Shared → Prop, wpAny (model prog w) A.in1.in1 (Builtin.«list.sort» ⟨[.ref (s.heap.objs.size + 1)], kw⟩) (fun f s' => f = .done (.ret .none) ∧ Q (.ref (s.heap.objs.size + 1)) s') E' { s with heap := copyHeap s.heap vs }) :
    wpAny (model prog w) A (call (.builtin "sorted") [.ref l] kw) Q E s := by
  refine call_function_entry_kw kind_sorted plain_sorted entry_sorted ha1 ?_
  unfold Builtin.«sorted»
  refine wpAny_bind (m := checkCount "sorted" 1 1 _) (wpAny_pure ?_)
  refine wpAny_bind (collect_tup hl hL ?_)
  refine wpAny_bind (wpAny_newList ?_ hL)
  have hsz : ((s.heap.push (seqObj "list" #[] 0)).update s.heap.objs.size (Obj.mapSeq (· ++ vs.toArray))).objs.size = s.heap.objs.size + 1 := by
    rw [Heap.size_update, size_push']
  show wpAny _ _ _ _ _ { s with heap := copyHeap s.heap vs }
  rw [hsz]
  refine wpAny_bind (wpAny_holding (wpAny_call_entry_kw slot_list_sort ⟨_, copyHeap_at s.heap vs, rfl⟩ entry_list_sort ?_ (ha2 _)))
  refine wpAny_mono (body _) (fun f s' hf => ?_) fun _ _ e => e
  obtain ⟨rfl, hq⟩ := hf
  exact ⟨_, rfl, wpAny_pure ⟨_, rfl, hq⟩⟩
theorem key_sorted {F : DF Z0} {key : PyData → PyData} {k : Nat} {f : Addr} {fd : FuncData} {n : Str} {B : Addr → Prop} {vs : List Value} {l : List PyData} {L : Addr} {Q : VK} (FO : FnOk X.prog X.w X.K X.mg X.base CX0 k f fd [n] (spD Z0 F)) (bd : Binds X.K fd [n] []) (hr : Room (k + 2) X.A) (hu : X.A.units + 65 < cLine)
    (I : Inv X pins σ H s) (hl : s.heap.IsList L vs.toArray ∨ IsTup s.heap L vs.toArray) (im : EachIs (fun v d => ∃ x, RelV x v ∧ Im B H x d) vs l) (nl : ∀ d ∈ l, noL d = true ∧ noL (key d) = true ∧ F () [.im d] fun r _ => r = .im (key d)) (so : SrtOk (l.map key)) (hz : vs.length ≤ sizeLine)
    (h : ∀ H' p out, Same H H' → H' p = none → ImAll (fun _ => False) H' out (l.mergeSort (dataLe false key)) → Q (.ref p) (upd H' p (.lst out))) :
    wpAny (model X.prog X.w) X.A (call (.builtin "sorted") [.ref L] [(Str.ofString "key", .ref f)]) (EP X pins σ Q) X.xe s := by
  have both : (∀ E' : Value → Shared → Prop, wpAny (model X.prog X.w) X.A.in1.in1 (Builtin.«list.sort» ⟨[.ref (s.heap.objs.size + 1)], [(Str.ofString "key", .ref f)]⟩) (fun g s' => g = .done (.ret .none) ∧ EP X pins σ Q (.ref (s.heap.objs.size + 1)) s') E' { s with heap := copyHeap s.heap vs }) → wpAny (model X.prog X.w) X.A (call (.builtin "sorted") [.ref L] [(Str.ofString "key", .ref f)]) (EP X pins σ Q) X.xe s := fun body =>
    hl.elim (fun hl => sorted_of_sort hl hz (PyProof.Rows.ksk_s1 _ _) (fun _ => PyProof.Rows.ksk_l1 _ _) body) fun hl => sorted_of_sortT hl hz (PyProof.Rows.ksk_s1 _ _) (fun _ => PyProof.Rows.ksk_l1 _ _) body
  refine both fun E' => ?_
  rw [ksk_t1]
  have hc := copyHeap_at s.heap vs
  have ha : s.heap.objs.size + 1 < (copyHeap s.heap vs).objs.size := Heap.lt_size hc
  obtain ⟨e1, ho1⟩ : ∃ e1, ((copyHeap s.heap vs).update (s.heap.objs.size + 1) (Obj.mapSeq fun _ => (#[] : Array Value))).get? (s.heap.objs.size + 1) = some (seqObj "list" #[] e1) := ⟨_, get?_update_seq hc fun _ => #[]⟩
  have hkS : (((copyHeap s.heap vs).update (s.heap.objs.size + 1) (Obj.mapSeq fun _ => (#[] : Array Value))).push (seqObj "tuple" vs.toArray 0)).objs.size = (copyHeap s.heap vs).objs.size + 1 := by rw [size_push', Heap.size_update]
  unfold ksk_tree
  refine wpAny_bind (listItems_at hc rfl ?_)
  refine wpAny_bind (listUpdate_at hc rfl ?_ (by rw [List.size_toArray]; exact hz) (Nat.zero_le _))
  refine wpAny_bind (seqEpoch_at ho1 rfl ?_)
  refine wpAny_bind (wpAny_newTuple ?_ (by show vs.length ≤ _; exact hz))
  refine wpAny_bind (wpAny_newList ?_ (Nat.zero_le _))
  refine wpAny_holding ?_
  have up : ∀ b o, s.heap.get? b = some o → (sortingHeap (copyHeap s.heap vs) (s.heap.objs.size + 1) vs).get? b = some o := fun b o q => sortingHeap_old (Nat.ne_of_lt (Nat.lt_succ_of_lt (Heap.lt_size q))) (copyHeap_old q)
  have oa : Ours X pins (s.heap.objs.size + 1) := ours_of I (Nat.le_succ _)
  have ok : Ours X pins ((copyHeap s.heap vs).objs.size + 1) := ours_of I (by omega)
  have na : H (s.heap.objs.size + 1) = none := I.hok.fresh (Nat.le_succ _)
  have nk : H ((copyHeap s.heap vs).objs.size + 1) = none := I.hok.fresh (by omega)
  have I1 : Inv X pins σ H { s with heap := sortingHeap (copyHeap s.heap vs) (s.heap.objs.size + 1) vs } := I.kept (t' := s.toks) up
  have hka : (copyHeap s.heap vs).objs.size + 1 ≠ s.heap.objs.size + 1 := Nat.ne_of_gt (Nat.lt_succ_of_lt ha)
  have gk : (sortingHeap (copyHeap s.heap vs) (s.heap.objs.size + 1) vs).get? ((copyHeap s.heap vs).objs.size + 1) = some (seqObj "list" #[] 0) := by
    rw [← hkS]
    exact Heap.get?_push_size _ rfl
  have ga : (sortingHeap (copyHeap s.heap vs) (s.heap.objs.size + 1) vs).get? (s.heap.objs.size + 1) = some (seqObj "list" #[] e1) := Heap.get?_push_of_some _ (Heap.get?_push_of_some _ ho1)
  have I2 : Inv X (lo (s.heap.objs.size + 1) #[] e1 :: lo ((copyHeap s.heap vs).objs.size + 1) #[] 0 :: pins) σ H { s with heap := sortingHeap (copyHeap s.heap vs) (s.heap.objs.size + 1) vs } := I1.pins_of fun p hp => by
    rcases List.mem_cons.mp hp with rfl | hp
    · exact ⟨ga, na, oa.loc, oa.fs, fun v z => by cases z⟩
    rcases List.mem_cons.mp hp with rfl | hp
    · exact ⟨gk, nk, ok.loc, ok.fs, fun v z => by cases z⟩
    · exact I1.pin p (List.mem_append_right _ hp)
  rw [hkS]
  exact key_rest FO bd hr hu oa ok hka na nk I2 im nl so hz fun H' s' out J sm na' io => ⟨rfl, .ref (s.heap.objs.size + 1), _, J, rfl, h _ _ _ sm na' io⟩
/-- the rule's reading: a list or a tuple of data without lists -/
def rSortK (K : PySem.W.Frag) (F : DF Z0) (f : Addr) : List V → Hp → VK → Prop := fun vs H Q => ∃ (B : Addr → Prop) (a : Addr) (xs : List V) (l : List PyData) (key : PyData → PyData), vs = [V.ref a] ∧ (SqL K H a xs ∨ SqT K H a xs) ∧ ImAll B H xs l ∧
  (∀ d ∈ l, noL d = true ∧ noL (key d) = true ∧ F () [.im d] fun r _ => r = .im (key d)) ∧ SrtOk (l.map key) ∧ ∀ H' p ys, Same H H' → H' p = none → ImAll (fun _ => False) H' ys (l.mergeSort (dataLe false key)) → Q (.ref p) (upd H' p (.lst ys))
theorem cr_sortK {F : DF Z0} {k : Nat} {f : Addr} {fd : FuncData} {n : Str} (FO : FnOk X.prog X.w X.K X.mg X.base CX0 k f fd [n] (spD Z0 F)) (bd : Binds X.K fd [n] []) (hr : Room (k + 2) X.A) (hu : X.A.units + 65 < cLine) : CallRK X (.builtin "sorted") [Str.ofString "key"] (fun vs zs H Q => zs = [.ref f] ∧ rSortK X.K F f vs H Q) := by
  intro pins s σ H vs zs us ws Q I r rz h
  obtain ⟨rfl, B, a, xs, l, key, rfl, hs, hx, hk, so, q⟩ := h
  obtain ⟨w1, rfl, e1⟩ := vals1 rz
  obtain rfl : w1 = Value.ref f := e1
  obtain rfl := Vals.ref1 r
  have fin : ∀ {its : List Value}, Vals xs its → s.heap.IsList a its.toArray ∨ IsTup s.heap a its.toArray → xs.length ≤ sizeLine → wpAny (model X.prog X.w) X.A (call (.builtin "sorted") [.ref a] [(Str.ofString "key", .ref f)]) (EP X pins σ Q) X.xe s := fun {its} rv hl hz =>
    key_sorted FO bd hr hu I hl (im_each rv hx) hk so (by rw [← rv.length]; exact hz) fun H' p out sm hn io => q H' p out sm hn io
  rcases hs with hs | hs
  · obtain ⟨its, rv, hl, hz⟩ := I.list hs
    exact fin rv (.inl hl.isList) (by first | exact hz | (rw [rv.length]; exact hz))
  · obtain ⟨its, rv, hl, hz⟩ := I.tuple hs
    exact fin rv (.inr hl) (by first | exact hz | (rw [rv.length]; exact hz))
theorem noLs_mem : ∀ {l : List PyData}, (∀ d ∈ l, noL d = true) → noLs l = true
  | [], _ => rfl
  | d :: l, h => by
    show (noL d && noLs l) = true
    rw [h d (.head _), noLs_mem fun e he => h e (.tail _ he)]
    rfl
def opSortK (F : DF Z0) : Cb := fun rs Q => match rs with
  | [x] => match x.D with
    | some (.list l) => ∃ key : PyData → PyData, (∀ d ∈ l, noL d = true ∧ noL (key d) = true ∧ F () [.im d] fun r _ => r = .im (key d)) ∧ SrtOk (l.map key) ∧ Q (.fr (l.mergeSort (dataLe false key)))
    | some (.tuple l) => ∃ key : PyData → PyData, (∀ d ∈ l, noL d = true ∧ noL (key d) = true ∧ F () [.im d] fun r _ => r = .im (key d)) ∧ SrtOk (l.map key) ∧ Q (.fr (l.mergeSort (dataLe false key)))
    | _ => False
  | _ => False
end
section
variable {Z : Zn} {X : Cx} {e : Expr} {es : List Expr} {das : DA Z} {pos p p2 p3 : Pos}
theorem de_sortK {F : DF Z0} {k j : Nat} {n q : Str} (D : Df X.prog X.w X.K X.mg X.base CX0 k n [q] (spD Z0 F)) (hr : Room j X.A) (hu : X.A.units + 65 < cLine) (hg : Gl X "sorted") (hm : X.mg "sorted" = none) (ha : DAs Z X (e :: es) das) (hj : k + 2 ≤ j := by decide) (hgn : Gl X n := by rfl) (hdb : (n == ("__debug__" : Str)) = false := by decide)
    (he : backTo pos (starEach (e :: es) X.env) = (false, eval e X.env) :: backTo pos (starEach es X.env) := by rfl) (hpl : (backTo pos (starEach (e :: es) X.env)).any (·.1) = false := by rfl) : DE Z X (.Call (.Name "sorted" p) (e :: es) [⟨some "key", .Name n p2, p3⟩] pos) (dCB (opSortK F) das) := by
  obtain ⟨f, fd, FO, bd, g, kp⟩ := D
  refine PE.of (pe_callBK (cr_sortK FO bd (hr.mono hj) hu) hg hm (by decide +kernel) ha (pk_cons (pe_glob hgn g (v := .ref f) rfl hdb) pk_nil) (by decide) (by decide) he hpl) fun σ H Q h => ?_
  have h1 : tCB (fun vs H Q => [V.ref f] = [V.ref f] ∧ rSortK X.K F f vs H Q) (liftA Z das) σ H Q := lift_cb ?_ h
  · exact h1
  intro Z B0 ρ s H0 σ Ha H vs xs Qd Q R rr q kk
  unfold opSortK at q
  split at q
  · obtain ⟨v, rfl, r1⟩ := rr.one
    split at q
    · rename_i l e1
      obtain ⟨a, ys, rfl, h1, h2⟩ := r1.lst e1
      obtain ⟨key, hk, so, q⟩ := q
      refine ⟨rfl, _, a, ys, l, key, rfl, .inl (SqL.of h1), h2, hk, so, fun H' p zs sm hn io => ?_⟩
      exact kk _ _ _ q (sm.trans (same_new hn)) ⟨p, zs, rfl, sm.free hn, fun z => Z.trk R.ok z (sm.free hn), upd_same, (ImAll.free (noLs_mem fun d hd => (hk d ((List.mergeSort_perm _ _).mem_iff.mp hd)).1) io).same (same_new hn)⟩
    · rename_i l e1
      obtain ⟨a, ys, rfl, h1, h2⟩ := r1.tup (K := X.K) e1
      obtain ⟨key, hk, so, q⟩ := q
      refine ⟨rfl, _, a, ys, l, key, rfl, .inr h1, h2, hk, so, fun H' p zs sm hn io => ?_⟩
      exact kk _ _ _ q (sm.trans (same_new hn)) ⟨p, zs, rfl, sm.free hn, fun z => Z.trk R.ok z (sm.free hn), upd_same, (ImAll.free (noLs_mem fun d hd => (hk d ((List.mergeSort_perm _ _).mem_iff.mp hd)).1) io).same (same_new hn)⟩
    · exact q.elim
  · exact q.elim
end
end Lf
namespace Lf
open PySem PySem.Spec PyProof.Rows L2
/-! ## statements and defs that may raise an own error -/
/-- an error's field and what it holds; none for an error without fields -/
abbrev Er := Option (Str × PyData)
def ErrAt (B : Addr → Prop) (H : Hp) : Er → Option Addr → Prop
  | none, none => True
  | some (f, d), some dx => ∃ v, H dx = some (.xd [(f, v)]) ∧ Im B H v d
  | _, _ => False
theorem ErrAt.bad {B B' : Addr → Prop} {H : Hp} {o : Er} {dx : Option Addr} (hB : ∀ a, B' a → B a) (h : ErrAt B H o dx) : ErrAt B' H o dx := by
  cases o with
  | none => cases dx with
    | none => trivial
    | some _ => exact h.elim
  | some p => cases dx with
    | none => exact h.elim
    | some dx =>
      obtain ⟨v, h1, h2⟩ := h
      exact ⟨v, h1, Im.bad hB h2⟩
def cleanO : Er → Bool
  | none => true
  | some (_, d) => noL d
theorem ErrAt.free {B B' : Addr → Prop} {H : Hp} {o : Er} {dx : Option Addr} (hc : cleanO o = true) (h : ErrAt B H o dx) : ErrAt B' H o dx := by
  cases o with
  | none => cases dx with
    | none => trivial
    | some _ => exact h.elim
  | some p => cases dx with
    | none => exact h.elim
    | some dx =>
      obtain ⟨v, h1, h2⟩ := h
      exact ⟨v, h1, Im.free hc h2⟩
def okE (rs : List Rv) (o : Er) : Prop := rs.any isBo = false ∨ cleanO o = true
structure DEx (Z : Zn) where
  e : DEnds Z
  xr : Addr → Er → Z.S → List Sl → Prop
abbrev DSx (Z : Zn) := DEx Z → Z.S → List Sl → Prop
abbrev DXx (Z : Zn) := Z.S → List Sl → (Rv → Z.S → Prop) → (Addr → Er → Z.S → Prop) → Prop
def liftX (Z : Zn) (W : WX) (d : DSx Z) : TS := fun D σ H => ∃ (B0 : Addr → Prop) (H0 : Hp) (ρ : List Sl) (s : Z.S) (De : DEx Z), Rel Z B0 H0 ρ s σ H ∧ d De s ρ ∧
  (∀ s' ρ' σ' H', De.e.nx s' ρ' → Rel Z B0 H0 ρ' s' σ' H' → Stp Z B0 ρ H ρ' H' → D.nx σ' H') ∧
  (∀ s' ρ' σ' H', De.e.bk s' ρ' → Rel Z B0 H0 ρ' s' σ' H' → Stp Z B0 ρ H ρ' H' → D.bk σ' H') ∧
  (∀ s' ρ' σ' H', De.e.ct s' ρ' → Rel Z B0 H0 ρ' s' σ' H' → Stp Z B0 ρ H ρ' H' → D.ct σ' H') ∧
  (∀ r s' v H', De.e.rt r s' → Z.ok s' H' → Gr Z H0 H' → RvR Z B0 [] H0 H' v r → D.rt v H') ∧
  (∀ C o s' ρ' σ' dx H', De.xr C o s' ρ' → Rel Z B0 H0 ρ' s' σ' H' → Stp Z B0 ρ H ρ' H' → ErrAt (Bad Z B0 ρ') H' o dx → W (.ref C) dx σ' H')
def liftEX (Z : Zn) (W : WX) (d : DXx Z) : TE := fun σ H Q => ∃ (B0 : Addr → Prop) (H0 : Hp) (ρ : List Sl) (s : Z.S) (Qd : Rv → Z.S → Prop) (Xd : Addr → Er → Z.S → Prop), Rel Z B0 H0 ρ s σ H ∧ d s ρ Qd Xd ∧
  (∀ r s' v H', Qd r s' → Rel Z B0 H0 ρ s' σ H' → Gr Z H H' → RvR Z B0 ρ H H' v r → Q v H') ∧
  (∀ C o s' dx H', Xd C o s' → Rel Z B0 H0 ρ s' σ H' → Gr Z H H' → ErrAt (Bad Z B0 ρ) H' o dx → W (.ref C) dx σ H')
abbrev DFX (Z : Zn) := Z.S → List Sl → (Rv → Z.S → Prop) → (Addr → Er → Z.S → Prop) → Prop
def spX (Z : Zn) (F : DFX Z) : Sp := fun vs H Q E => ∃ (B0 : Addr → Prop) (s : Z.S) (as : List Sl) (Qd : Rv → Z.S → Prop) (Xd : Addr → Er → Z.S → Prop), Z.ok s H ∧ (∀ a, B0 a → H a ≠ none) ∧ ArgRs (Bad Z B0 []) H vs as ∧ F s as Qd Xd ∧
  (∀ r s' v H', Qd r s' → Z.ok s' H' → Gr Z H H' → RvR Z B0 [] H H' v r → Q v H') ∧ (∀ C o s' dx H', Xd C o s' → Z.ok s' H' → Gr Z H H' → ErrAt (Bad Z B0 []) H' o dx → E (.ref C) dx H')
section
variable {Z : Zn} {X : Cx} {W : WX} {B0 : Addr → Prop} {H0 H H1 H2 : Hp} {ρ ρ1 ρ2 : List Sl} {s s1 s2 : Z.S} {σ : L2.St} {e a b c tg : Expr} {es rest : List Expr} {de da db dc : DX Z} {dt du : DT Z} {das : DA Z} {pos p : Pos} {st : Stmt} {sts as bs : List Stmt} {d : DSt Z} {t u : DSx Z} {q q' : DXx Z}
def emb (d : DSt Z) : DSx Z := fun De s ρ => d De.e s ρ
theorem dx_of (h : DS Z X st d) : PS X st (liftX Z W (emb d)) := PS.of h fun D σ H ⟨B0, H0, ρ, s, De, R, hd, hn, hb, hc, hr, _⟩ => ⟨B0, H0, ρ, s, De.e, R, hd, hn, hb, hc, hr⟩
theorem dxs_of (h : DSs Z X sts d) : PSs X sts (liftX Z W (emb d)) := PSs.of h fun D σ H ⟨B0, H0, ρ, s, De, R, hd, hn, hb, hc, hr, _⟩ => ⟨B0, H0, ρ, s, De.e, R, hd, hn, hb, hc, hr⟩
theorem dxs_nox (h : DSs Z X.nox sts d) : PSs X sts (liftX Z W (emb d)) := PSs.nox (PSs.of h fun D σ H ⟨B0, H0, ρ, s, De, R, hd, hn, hb, hc, hr, _⟩ => ⟨B0, H0, ρ, s, De.e, R, hd, hn, hb, hc, hr⟩)
def xSeq (t u : DSx Z) : DSx Z := fun De s ρ => t { De with e := { De.e with nx := u De } } s ρ
theorem dx_nil : PSs X [] (liftX Z W fun De s ρ => De.e.nx s ρ) := PSs.of pss_nil fun D σ H ⟨B0, H0, ρ, s, De, R, hd, hn, _⟩ => hn s ρ σ H hd R Stp.refl
theorem dx_cons (h1 : PS X st (liftX Z W t)) (h2 : PSs X sts (liftX Z W u)) : PSs X (st :: sts) (liftX Z W (xSeq t u)) := by
  refine PSs.of (pss_cons h1 h2) fun D σ H ⟨B0, H0, ρ, s, De, R, hd, hn, hb, hc, hr, hx⟩ => ?_
  refine ⟨B0, H0, ρ, s, _, R, hd, fun s1 ρ1 σ1 H1 q R1 st => ?_, hb, hc, hr, hx⟩
  exact ⟨B0, H0, ρ1, s1, De, R1, q, fun s2 ρ2 σ2 H2 q R2 st2 => hn s2 ρ2 σ2 H2 q R2 (st.trans R1 st2), fun s2 ρ2 σ2 H2 q R2 st2 => hb s2 ρ2 σ2 H2 q R2 (st.trans R1 st2), fun s2 ρ2 σ2 H2 q R2 st2 => hc s2 ρ2 σ2 H2 q R2 (st.trans R1 st2), hr, fun C o s2 ρ2 σ2 dx H2 q R2 st2 => hx C o s2 ρ2 σ2 dx H2 q R2 (st.trans R1 st2)⟩
theorem dx_one (h1 : PS X st (liftX Z W t)) : PSs X [st] (liftX Z W t) := pss_one h1
def xIf (c : DT Z) (t u : DSx Z) : DSx Z := fun De s ρ => c s ρ fun b s1 => if b = true then t De s1 ρ else u De s1 ρ
theorem dx_if (hc : DTs Z X c dt) (ha : PSs X as (liftX Z W t)) (hb : PSs X bs (liftX Z W u)) : PS X (.If c as bs pos) (liftX Z W (xIf dt t u)) := by
  refine PS.of (ps_if hc ha hb) fun D σ H ⟨B0, H0, ρ, s, De, R, hd, hn, hb, hc, hr, hx⟩ => ?_
  refine ⟨B0, H0, ρ, s, _, R, hd, fun b s1 H1 q R1 g => ?_⟩
  have st := g.stp R
  cases b with
  | true => exact ⟨B0, H0, ρ, s1, De, R1, q, fun s2 ρ2 σ2 H2 q R2 st2 => hn s2 ρ2 σ2 H2 q R2 (st.trans R1 st2), fun s2 ρ2 σ2 H2 q R2 st2 => hb s2 ρ2 σ2 H2 q R2 (st.trans R1 st2), fun s2 ρ2 σ2 H2 q R2 st2 => hc s2 ρ2 σ2 H2 q R2 (st.trans R1 st2), hr, fun C o s2 ρ2 σ2 dx H2 q R2 st2 => hx C o s2 ρ2 σ2 dx H2 q R2 (st.trans R1 st2)⟩
  | false => exact ⟨B0, H0, ρ, s1, De, R1, q, fun s2 ρ2 σ2 H2 q R2 st2 => hn s2 ρ2 σ2 H2 q R2 (st.trans R1 st2), fun s2 ρ2 σ2 H2 q R2 st2 => hb s2 ρ2 σ2 H2 q R2 (st.trans R1 st2), fun s2 ρ2 σ2 H2 q R2 st2 => hc s2 ρ2 σ2 H2 q R2 (st.trans R1 st2), hr, fun C o s2 ρ2 σ2 dx H2 q R2 st2 => hx C o s2 ρ2 σ2 dx H2 q R2 (st.trans R1 st2)⟩
def xFor (wi : DI Z) (g : DG Z) (tb : DSx Z) : DSx Z := fun De s ρ => wi s ρ fun items fz s1 => fz = true ∧ ∃ I : Nat → Z.S → List Sl → Prop, I 0 s1 ρ ∧
  (∀ k d s ρ, items[k]? = some d → I k s ρ → g d ρ fun ρ' => tb { De with e := { De.e with nx := I (k + 1), ct := I (k + 1), bk := De.e.nx } } s ρ') ∧ ∀ s ρ, I items.length s ρ → De.e.nx s ρ
theorem dx_for {iter : Expr} {body : List Stmt} {wi : DI Z} {g : DG Z} (hp : PassesOwn (model X.prog X.w) X.A X.env X.xe) (hc : X.calm = true) (hi : DIs Z X tg iter wi) (hg : DGs Z X tg g) (hb : PSs X body (liftX Z W t)) (hs : ∀ x, foldedSetIterable iter X.env x = pure x := by intro _; rfl) : PS X (.For tg iter body [] pos) (liftX Z W (xFor wi g t)) := by
  refine PS.of (ps_for hp hc hi hg hb hs) fun D σ H ⟨B0, H0, ρ, s, De, R, hd, hn, hbk, hct, hr, hx⟩ => ?_
  refine ⟨B0, H0, ρ, s, _, R, hd, fun items fz s1 J H1 q R1 g1 ok => ?_⟩
  obtain ⟨rfl, I, i0, turn, fin⟩ := q
  have st1 := g1.stp R
  refine ⟨fun i m σ' H' => m = items.length - i ∧ i ≤ items.length ∧ ∃ s' ρ', I i s' ρ' ∧ Rel Z B0 H0 ρ' s' σ' H' ∧ Stp Z B0 ρ H1 ρ' H', ⟨items.length, by simp, Nat.zero_le _, s1, ρ, i0, R1, Stp.refl⟩, ?_⟩
  rintro i m σ2 H2 ⟨rfl, hi, s2, ρ2, i2, R2, st2⟩
  have k2 : ∀ b o, H1 b = some o → ¬ Bad Z B0 ρ b → H2 b = some o ∧ ¬ Bad Z B0 ρ2 b := fun b o e n => ⟨st2.keep b o e n, fun z => by
    rcases z with z | z | z
    · exact n (.inl z)
    · exact n (.inr (.inl z))
    · rcases st2.owns b z with z | z
      · exact n (.inr (.inr z))
      · rw [z] at e; cases e⟩
  obtain ⟨go, yl, stop⟩ := ok H2 (Bad Z B0 ρ2) (fun b o e n => st2.keep b o e n) k2 st2.tups st2.frzs
  by_cases hlt : i < items.length
  · refine .inr ⟨go i hlt, fun σ' H' => ∃ s' ρ', I (i + 1) s' ρ' ∧ Rel Z B0 H0 ρ' s' σ' H' ∧ Stp Z B0 ρ H1 ρ' H', fun σ' H' h => ⟨items.length - (i + 1), by omega, rfl, hlt, h⟩, fun x H' hy => ?_⟩
    obtain ⟨sm, im⟩ := yl i items[i] x H' (List.getElem?_eq_getElem hlt) hy
    have R3 := R2.same sm
    have st3 := st2.trans R2 (Gr.stp (H1 := H') R2 (Gr.of sm))
    refine ⟨B0, H0, ρ2, s2, items[i], _, R3, im, turn i _ s2 ρ2 (List.getElem?_eq_getElem hlt) i2, fun ρ3 σ3 q3 R4 ho => ?_⟩
    have st4 : Stp Z B0 ρ H1 ρ3 H' := ⟨st3.keep, st3.tups, st3.frzs, fun a ha => st3.owns a (ho a ha)⟩
    exact ⟨B0, H0, ρ3, s2, _, R4, q3, fun s5 ρ5 σ5 H5 q5 R5 st5 => ⟨s5, ρ5, q5, R5, st4.trans R4 st5⟩, fun s5 ρ5 σ5 H5 q5 R5 st5 => hn s5 ρ5 σ5 H5 q5 R5 (st1.trans R1 (st4.trans R4 st5)), fun s5 ρ5 σ5 H5 q5 R5 st5 => ⟨s5, ρ5, q5, R5, st4.trans R4 st5⟩, hr, fun C o s5 ρ5 σ5 dx H5 q5 R5 st5 => hx C o s5 ρ5 σ5 dx H5 q5 R5 (st1.trans R1 (st4.trans R4 st5))⟩
  · have e : i = items.length := by omega
    subst e
    exact .inl ⟨stop, hn s2 ρ2 σ2 H2 (fin s2 ρ2 i2) R2 (st1.trans R1 st2)⟩
/-! ### raise -/
def xRaise (C : Addr) (f : Str) (da : DA Z) : DSx Z := fun De s ρ => da s ρ fun rs s1 => ∃ r d, rs = [r] ∧ r.st = some d ∧ De.xr C (some (f, d)) s1 ρ
theorem dx_raise {nm f : Str} {C : Addr} {j : Nat} {pos' : Pos} (tk : Takes X W) (hc : X.calm = true) (R : ErrF X.prog X.w X.K X.mg X.base nm f C) (hr : Room j X.A) (ha : DAs Z X (e :: es) das) (hj : 2 ≤ j := by decide) (hg : Gl X nm := by rfl)
    (hdb : (nm == ("__debug__" : Str)) = false := by decide) (he : starEach (e :: es) X.env = (false, eval e X.env) :: starEach es X.env := by rfl) (hpl : (backTo pos (starEach es X.env)).any (·.1) = false := by rfl) :
    PS X (.Raise (some (.Call (.Name nm p) (e :: es) [] pos)) none pos') (liftX Z W (xRaise C f das)) := by
  refine PS.of (ps_raise hc tk (pmk_err R hr ha hj hg hdb he hpl)) fun D σ H ⟨B0, H0, ρ, s, De, R, hd, hn, hb, hc, hr, hx⟩ => ?_
  refine ⟨B0, H0, ρ, s, _, R, hd, fun rs s1 vs H1 q R1 g1 r1 => ?_⟩
  obtain ⟨r, d, rfl, hs, q⟩ := q
  obtain ⟨v, rfl, r2⟩ := r1.one
  have im : Im (Bad Z B0 ρ) H1 v d := RvR.st R r2 hs
  refine ⟨by show 1 ≤ 1000; decide, fun a na => ⟨a, v, rfl, upd_same, fun dx nd ne => ⟨rfl, made_out (f := f) (v := v) (Q := fun cls d H' => W cls d σ H') (Same.refl H1) (fun d' H' sm n1 h1 => ?_) a na dx nd ne⟩⟩⟩
  exact hx C _ s1 ρ σ (some d') H' q (R1.same sm) ((g1.stp R).trans R1 ((Gr.of sm).stp R1)) ⟨v, h1, im.same sm⟩
/-! ### calls that may raise -/
def xCallP (F : DFX Z0) (da : DA Z) : DXx Z := fun s ρ Q Xd => da s ρ fun rs s1 => F () (rs.map argOf) (fun r _ => okR rs r ∧ Q r s1) (fun C o _ => okE rs o ∧ Xd C o s1)
theorem lift_callX {F : DFX Z0} {σ : L2.St} {H : Hp} {Q : VK} (h : liftEX Z W (xCallP F das) σ H Q) : tCallS (spX Z0 F) (WE W) (liftA Z das) σ H Q := by
  obtain ⟨B0, H0, ρ, s, Qd, Xd, R, hd, hq, hx⟩ := h
  refine ⟨B0, H0, ρ, s, _, R, hd, fun rs s1 vs H1 qx R1 g1 r1 => ?_⟩
  have hzn : ∀ p, H1 p = none → ¬ Z.at_ p := fun p hp z => Z.trk R1.ok z hp
  have same : ∀ {H2 : Hp}, Gr Z0 H1 H2 → Same H1 H2 := fun g b o e => g b o e id
  cases hb : rs.any isBo with
  | false =>
    have eB : ∀ a, Bad Z0 (fun a => Bad Z B0 ρ a) [] a ↔ Bad Z B0 ρ a := fun a => ⟨fun z => z.elim (fun z => z.elim) fun z => z.elim id (fun z => absurd z List.not_mem_nil), fun z => .inr (.inl z)⟩
    refine ⟨fun a => Bad Z B0 ρ a, (), _, _, _, trivial, fun a ha => R1.bad ha, args_st R (fun a z => (eB a).mp z) r1 hb, qx, fun r s2 v H2 q ok2 g2 rr => ?_, fun C o s2 dx H2 q ok2 g2 er => ?_⟩
    · have rr2 : RvR Z B0 ρ H1 H2 v r := res_ok (fun _ _ => .inr trivial) (fun a z => (eB a).mpr z) hzn rr
      exact hq r s1 v H2 q.2 (R1.same (same g2)) (g1.trans (Gr.of (same g2))) (rr2.back R1.ok g1)
    · exact hx C o s1 dx H2 q.2 (R1.same (same g2)) (g1.trans (Gr.of (same g2))) (er.bad fun a z => (eB a).mpr z)
  | true =>
    refine ⟨fun a => Z.at_ a ∨ B0 a, (), _, _, _, trivial, fun a ha => ha.elim (fun z => Z.trk R1.ok z) (R1.btr a), args_rd R (fun a z => z.elim (fun z => z.elim) fun z => z.elim id fun z => by cases z) r1, qx, fun r s2 v H2 q ok2 g2 rr => ?_, fun C o s2 dx H2 q ok2 g2 er => ?_⟩
    · have hc : cleanR r = true := q.1.elim (fun z => by rw [hb] at z; cases z) id
      have rr2 : RvR Z B0 ρ H1 H2 v r := res_clean hzn hc rr
      exact hq r s1 v H2 q.2 (R1.same (same g2)) (g1.trans (Gr.of (same g2))) (rr2.back R1.ok g1)
    · have hc : cleanO o = true := q.1.elim (fun z => by rw [hb] at z; cases z) id
      exact hx C o s1 dx H2 q.2 (R1.same (same g2)) (g1.trans (Gr.of (same g2))) (er.free hc)
theorem dxe_call {F : DFX Z0} {k j : Nat} {ps : List Str} {n : Str} (tk : Takes X W) (D : Df X.prog X.w X.K X.mg X.base (L2.CX X.prog X.w) k n ps (spX Z0 F)) (hr : Room j X.A) (ha : DAs Z X (e :: es) das) (hj : k ≤ j := by decide) (hg : Gl X n := by rfl)
    (hdb : (n == ("__debug__" : Str)) = false := by decide) (he : starEach (e :: es) X.env = (false, eval e X.env) :: starEach es X.env := by rfl) (hpl : (backTo pos (starEach es X.env)).any (·.1) = false := by rfl) : PE X (.Call (.Name n p) (e :: es) [] pos) (liftEX Z W (xCallP F das)) :=
  PE.of (pe_dS (E := WE W) D hr (fun σ => passAt tk σ) ha hj hg hdb he hpl) fun σ H Q h => lift_callX h
/-- a call of a local name that holds a def which lets nothing out -/
def dCallL (i : Nat) (f : Addr) (F : DF Z0) (da : DA Z) : DX Z := fun s ρ Q => ρ[i]? = some (.raw (.ref f)) ∧ dCallP F da s ρ Q
theorem de_callL {F : DF Z0} {k j i : Nat} {f : Addr} {fd : FuncData} {ps : List Str} {n : Str} (G : FnOk X.prog X.w X.K X.mg X.base CX0 k f fd ps (spD Z0 F)) (hr : Room j X.A) (hN : X.N[i]? = some n) (hv : Vis X.env.scope n) (hk : PySem.W.keepIn X.K (.ref f) = true) (hb : Binds X.K fd ps []) (ha : DAs Z X (e :: es) das) (hj : k ≤ j := by decide)
    (hdb : (n == ("__debug__" : Str)) = false := by decide) (hcd : (n == ("__classdict__" : Str)) = false := by decide) (he : starEach (e :: es) X.env = (false, eval e X.env) :: starEach es X.env := by rfl) (hpl : (backTo pos (starEach es X.env)).any (·.1) = false := by rfl) : DE Z X (.Call (.Name n p) (e :: es) [] pos) (dCallL i f F das) := by
  refine PE.of (pe_callL (i := i) G (hr.mono hj) hN hv hk hb .nil pass0 ha hdb hcd he hpl) fun σ H Q ⟨B0, H0, ρ, s, Qd, R, hd, hq⟩ => ?_
  obtain ⟨o, h1, h2⟩ := R.sl i _ hd.1
  cases (show o = some (.ref f) from h2)
  exact ⟨h1, lift_callP ⟨B0, H0, ρ, s, Qd, R, hd.2, hq⟩⟩
def xEmb (de : DX Z) : DXx Z := fun s ρ Q _ => de s ρ Q
theorem dxe_of (h : DE Z X e de) : PE X e (liftEX Z W (xEmb de)) := PE.of h fun σ H Q ⟨B0, H0, ρ, s, Qd, _, R, hd, hq, _⟩ => ⟨B0, H0, ρ, s, Qd, R, hd, hq⟩
def xIfE (dt : DT Z) (q q' : DXx Z) : DXx Z := fun s ρ Q Xd => dt s ρ fun b s1 => if b = true then q s1 ρ Q Xd else q' s1 ρ Q Xd
theorem dxe_if (hc : DTs Z X c dt) (ha : PE X a (liftEX Z W q)) (hb : PE X b (liftEX Z W q')) : PE X (.IfExp c a b pos) (liftEX Z W (xIfE dt q q')) := by
  refine PE.of (pe_ifExp hc ha hb) fun σ H Q ⟨B0, H0, ρ, s, Qd, Xd, R, hd, hq, hx⟩ => ?_
  refine ⟨B0, H0, ρ, s, _, R, hd, fun c s1 H1 qx R1 g1 => ?_⟩
  cases c with
  | true => exact ⟨B0, H0, ρ, s1, Qd, Xd, R1, qx, fun r s2 v H2 q R2 g2 r2 => hq r s2 v H2 q R2 (g1.trans g2) (r2.back R1.ok g1), fun C o s2 dx H2 q R2 g2 er => hx C o s2 dx H2 q R2 (g1.trans g2) er⟩
  | false => exact ⟨B0, H0, ρ, s1, Qd, Xd, R1, qx, fun r s2 v H2 q R2 g2 r2 => hq r s2 v H2 q R2 (g1.trans g2) (r2.back R1.ok g1), fun C o s2 dx H2 q R2 g2 er => hx C o s2 dx H2 q R2 (g1.trans g2) er⟩
def xExpr (q : DXx Z) : DSx Z := fun De s ρ => q s ρ (fun _ s1 => De.e.nx s1 ρ) fun C o s1 => De.xr C o s1 ρ
theorem dx_expr (he : PE X e (liftEX Z W q)) (hs : swapsWith e none pos.line X.env = pure false := by rfl) : PS X (.Expr e pos) (liftX Z W (xExpr q)) := by
  refine PS.of (ps_expr he hs) fun D σ H ⟨B0, H0, ρ, s, De, R, hd, hn, hb, hc, hr, hx⟩ => ?_
  exact ⟨B0, H0, ρ, s, _, _, R, hd, fun r s1 v H1 q R1 g r1 => hn s1 ρ σ H1 q R1 (g.stp R), fun C o s1 dx H1 q R1 g er => hx C o s1 ρ σ dx H1 q R1 (g.stp R) er⟩
def xSet (i : Nat) (q : DXx Z) : DSx Z := fun De s ρ => q s ρ (fun r s1 => stR r i ρ fun ρ' => De.e.nx s1 ρ') fun C o s1 => De.xr C o s1 ρ
theorem dx_set {i : Nat} {n : Str} {pos' : Pos} (hN : X.N.Nodup) (hi : X.N[i]? = some n) (hx : Loc X.env.scope n) (he : PE X e (liftEX Z W q)) (hs : swapsWith e (some (.Name n pos')) pos.line X.env = pure false := by rfl) (hf : X.fn n = true ∨ X.env.scope.names.lookup n = some .local := by first | exact .inl rfl | exact .inr rfl | assumption) :
    PS X (.Assign [.Name n pos'] e pos) (liftX Z W (xSet i q)) := by
  refine PS.of (ps_set hN hi hx he hs hf) fun D σ H ⟨B0, H0, ρ, s, De, R, hd, hn, hb, hc, hr, hx⟩ => ?_
  refine ⟨B0, H0, ρ, s, _, _, R, hd, fun r s1 v H1 qx R1 g1 r1 => ?_, fun C o s1 dx H1 q R1 g er => hx C o s1 ρ σ dx H1 q R1 (g.stp R) er⟩
  obtain ⟨ρ', q, R', st⟩ := stR_ok R R1 g1 r1 qx
  exact hn s1 ρ' _ H1 q R' st
def xRet (q : DXx Z) : DSx Z := fun De s ρ => q s ρ (fun r s1 => De.e.rt r.ret s1) fun C o s1 => De.xr C o s1 ρ
theorem dx_ret (he : PE X e (liftEX Z W q)) : PS X (.Return (some e) pos) (liftX Z W (xRet q)) := by
  refine PS.of (ps_ret he) fun D σ H ⟨B0, H0, ρ, s, De, R, hd, hn, hb, hc, hr, hx⟩ => ?_
  exact ⟨B0, H0, ρ, s, _, _, R, hd, fun r s1 v H1 q R1 g r1 => hr _ s1 v H1 q R1.ok (fun b o e n => R1.frm b o e n) (ret_ok R R1 r1), fun C o s1 dx H1 q R1 g er => hx C o s1 ρ σ dx H1 q R1 (g.stp R) er⟩
end
/-! ### defs -/
def endsX {Z : Zn} (Qd : Rv → Z.S → Prop) (Xd : Addr → Er → Z.S → Prop) : DEx Z := ⟨ends Qd, fun C o s' _ => Xd C o s'⟩
section
variable {P : Program} {w : World} {K : PySem.W.Frag} {mg : Str → Option Value} {base : Heap} {Z : Zn}
theorem body_okX {N : List Str} {d : DSx Z} {F : DFX Z} {vs : List V} {Q : VK} {E : XK} {H : Hp} (hl : vs.length ≤ N.length) (hd : ∀ s as Qd Xd, F s as Qd Xd → d (endsX Qd Xd) s (as ++ List.replicate (N.length - as.length) .no)) (h : spX Z F vs H Q E) : liftX Z (fun cls dx _ H' => E cls dx H') d { nx := fun _ H' => Q .non H', rt := Q } (L2.start N vs) H := by
  obtain ⟨B0, s, as, Qd, Xd, ok, hB, ha, hf, hq, hx⟩ := h
  refine ⟨B0, H, _, s, endsX Qd Xd, rel_start ok hB ha hl, hd s as Qd Xd hf, fun s' ρ' σ' H' q R' st => ?_, fun _ _ _ _ q => q.elim, fun _ _ _ _ q => q.elim, fun r s' v H' q ok' g' rr => hq r s' v H' q ok' g' rr, fun C o s' ρ' σ' dx H' q R' st er => hx C o s' dx H' q R'.ok R'.frm (er.bad fun a z => ?_)⟩
  · exact hq _ s' .non H' q R'.ok R'.frm Im.non
  · rcases z with z | z | z
    · exact .inl z
    · exact .inr (.inl z)
    · cases z
theorem def_okX {nm : Str} {st : Stmt} {N ps : List Str} {k : Nat} {F : DFX Z} {d : DSx Z} (M : Mk K mg nm st ps) (Sc : FnScope N ps (defScope st)) (hl : ps.length ≤ N.length) (len : ∀ s as Qd Xd, F s as Qd Xd → as.length = ps.length)
    (body : ∀ (f : Addr) (cdv : Value) (A : Around) (outer : List Env) (s : Shared) (H : Hp) (E : XK), Room k (A.deeper (envOfC nm (defScope st) s.heap.objs.size f cdv)) → PSs (cxOf (L2.CX P w) P w K mg base N nm (defScope st) f cdv A outer s H E) (defBody st) (liftX Z (fun cls dx _ H' => E cls dx H') d))
    (hd : ∀ s as Qd Xd, F s as Qd Xd → d (endsX Qd Xd) s (as ++ List.replicate (N.length - as.length) .no)) : Df P w K mg base (L2.CX P w) (k + 1) nm ps (spX Z F) := by
  obtain ⟨f, fd, Fn, b, g⟩ := M
  have hlen : ∀ vs H Q E, spX Z F vs H Q E → vs.length = ps.length := fun vs H Q E ⟨B0, s, as, Qd, Xd, _, _, ha, hf, _⟩ => by rw [ha.length, len s as Qd Xd hf]
  refine Df.of Fn b g (Fn.okX Sc hlen fun cdv A outer s H vs Q E hr h => ⟨_, body f cdv A outer s H E hr, body_okX ?_ hd h⟩)
  rw [hlen vs H Q E h]
  exact hl
end
end Lf
namespace Lf
open PySem PySem.Spec PyProof.Rows L2
/-! ### an expression whose first part raises: nothing behind it is evaluated -/
/-- a reading that has no value -/
def tRz (R : L2.St → Hp → Prop) : TE := fun σ H _ => R σ H
def xOnly {Z : Zn} (q : DXx Z) : DXx Z := fun s ρ _ Xd => q s ρ (fun _ _ => False) Xd
def rzX {Z : Zn} (W : WX) (q : DXx Z) : L2.St → Hp → Prop := fun σ H => liftEX Z W q σ H fun _ _ => False
section
variable {Z : Zn} {X : Cx} {W : WX} {q : DXx Z} {e : Expr} {pos p p2 p3 : Pos} {R : L2.St → Hp → Prop}
theorem rz_of (h : PE X e (liftEX Z W q)) : PE X e (tRz (rzX W q)) := ⟨fun pins s σ H Q I h0 => thn (h.run pins s σ H (fun _ _ => False) I h0) fun u s1 ⟨_, _, _, _, z⟩ => z.elim⟩
theorem rz_to (h : PE X e (tRz (rzX W q))) : PE X e (liftEX Z W (xOnly q)) := PE.of h fun σ H Q ⟨B0, H0, ρ, s, Qd, Xd, R, hd, hq, hx⟩ => ⟨B0, H0, ρ, s, fun _ _ => False, Xd, R, hd, fun _ _ _ _ z => z.elim, hx⟩
theorem rz_pi {tg : Expr} (h : PE X e (tRz R)) : PI X tg e (fun σ H _ => R σ H) := ⟨fun pins s σ H K I h0 => thn (h.run pins s σ H (fun _ _ => False) I h0) fun u s1 ⟨_, _, _, _, z⟩ => z.elim⟩
theorem rz_callB {x : Str} {id : String} (hg : Gl X x) (hm : X.mg x = none) (hv : bootBuiltins x = some (.builtin id)) (ha : PE X e (tRz R)) (h1 : starEach [e] X.env = (false, eval e X.env) :: starEach [] X.env := by rfl) (hn : x ≠ "__name__" := by decide) (hdb : (x == ("__debug__" : Str)) = false := by decide)
    (he : starEach [e] X.env = (false, eval e X.env) :: starEach [] X.env := by rfl) (hpl : (backTo pos (starEach [] X.env)).any (·.1) = false := by rfl) : PE X (.Call (.Name x p) [e] [] pos) (tRz R) :=
  PE.of (pe_callB (r := fun _ _ _ => False) (fun pins s σ H xs us Q I rs h => h.elim) hg hm hv (pa_cons ha pa_nil h1) hn hdb he hpl) fun σ H Q h => h
theorem rz_callT {x : Str} {T : String} (hg : Gl X x) (hm : X.mg x = none) (hv : bootBuiltins x = some (.type T)) (ha : PE X e (tRz R)) (h1 : starEach [e] X.env = (false, eval e X.env) :: starEach [] X.env := by rfl) (hn : x ≠ "__name__" := by decide) (hdb : (x == ("__debug__" : Str)) = false := by decide)
    (he : starEach [e] X.env = (false, eval e X.env) :: starEach [] X.env := by rfl) (hpl : (backTo pos (starEach [] X.env)).any (·.1) = false := by rfl) : PE X (.Call (.Name x p) [e] [] pos) (tRz R) :=
  PE.of (pe_callTy (r := fun _ _ _ => False) (fun pins s σ H xs us Q I rs h => h.elim) hg hm hv (pa_cons ha pa_nil h1) hn hdb he hpl) fun σ H Q h => h
theorem rz_callK {x n : Str} {id : String} (hg : Gl X x) (hm : X.mg x = none) (hv : bootBuiltins x = some (.builtin id)) (ha : PE X e (tRz R)) (h1 : starEach [e] X.env = (false, eval e X.env) :: starEach [] X.env := by rfl) (hgn : Gl X n := by rfl) {f : Addr} (g : X.mg n = some (.ref f)) (hn : x ≠ "__name__" := by decide) (hdb : (x == ("__debug__" : Str)) = false := by decide) (hdn : (n == ("__debug__" : Str)) = false := by decide)
    (he : backTo pos (starEach [e] X.env) = (false, eval e X.env) :: backTo pos (starEach [] X.env) := by rfl) (hpl : (backTo pos (starEach [e] X.env)).any (·.1) = false := by rfl) : PE X (.Call (.Name x p) [e] [⟨some "key", .Name n p2, p3⟩] pos) (tRz R) :=
  PE.of (pe_callBK (ks := [Str.ofString "key"]) (r := fun _ _ _ _ => False) (fun pins s σ H xs zs us ws Q I rs rz h => h.elim) hg hm hv (pa_cons ha pa_nil h1) (pk_cons (pe_glob hgn g (v := .ref f) rfl hdn) pk_nil) hn hdb he hpl) fun σ H Q h => h
theorem rz_lc {elt iter tg : Expr} {ifs : List Expr} {scope : Scope} {ow : List (Str × Nat)} {gr : TG} {tt : DT Z} {te : DX Z} (hc : X.calm = true) (hN : X.N.Nodup) (hi : PE X iter (tRz R)) (ok : BlkOk X.N X.env.scope scope ow)
    (hg : ∀ (s : Shared) (H : Hp) (C : Addr) (cl : List (Str × Addr)) (fp : List Addr), PG (X.blk s H scope (compEnvC scope cl C X.env) fp) tg gr) (ht : ∀ (s : Shared) (H : Hp) (C : Addr) (cl : List (Str × Addr)) (fp : List Addr), DPTs Z (X.blk s H scope (compEnvC scope cl C X.env) fp) ifs tt)
    (he : ∀ (s : Shared) (H : Hp) (C : Addr) (cl : List (Str × Addr)) (fp : List Addr), DE Z (X.blk s H scope (compEnvC scope cl C X.env) fp) elt te) (hs : ∀ x, foldedSetIterable iter X.env x = pure x := by intro _; rfl) : PE X (.ListComp elt [⟨tg, iter, ifs, 0⟩] scope pos) (tRz R) :=
  PE.of (pe_lc hc hN (rz_pi hi) ok hg ht he hs) fun σ H Q h => h
end
section
variable {Z : Zn} {X : Cx} {W : WX} {sts : List Stmt}
theorem dxs_or {a b : DSx Z} (h1 : PSs X sts (liftX Z W a)) (h2 : PSs X sts (liftX Z W b)) : PSs X sts (liftX Z W fun De s ρ => a De s ρ ∨ b De s ρ) :=
  ⟨fun pins s σ H D I ⟨B0, H0, ρ, t, De, R, hd, r⟩ => hd.elim (fun hd => h1.run pins s σ H D I ⟨B0, H0, ρ, t, De, R, hd, r⟩) fun hd => h2.run pins s σ H D I ⟨B0, H0, ρ, t, De, R, hd, r⟩⟩
end
end Lf
namespace Lf
open PySem PySem.Spec PyProof.Rows L2
/-! ### texts.py for any texts -/
--@strint
--@inttext
--@call is_number_text P pass0
--@call is_vertex_text P pass0
--@call leads_to_root P pass0
--@call is_vertex P pass0
--@call forest_error P pass0
--@call check_string P pass0
theorem ifz_yes {c : Bool} {A B : Prop} (h : c = true) (a : A) : if c = true then A else B := by rw [if_pos h]; exact a
theorem ifz_no {c : Bool} {A B : Prop} (h : c = false) (b : B) : if c = true then A else B := by rw [if_neg (by rw [h]; decide)]; exact b
def fNumA : DF Z0 := fun s as Q => ∃ (z : Str) (d : Nat), as = [.im (.str z), .im (.int (d : Nat))] ∧ z.length ≤ 100000 ∧ Q (.im (.bool (numB z d))) s
def fVtA : DF Z0 := fun s as Q => ∃ z : Str, as = [.im (.str z)] ∧ z.length ≤ 100000 ∧ Q (.im (.bool (vtB z))) s
def fLeadA : DF Z0 := fun s as Q => ∃ (l : List Nat) (v : Nat), as = [.im (tupN l), .im (.int (v : Nat))] ∧ (∀ k, k < l.length → par l k < l.length) ∧ l.length ≤ 24 ∧ v < l.length ∧ Q (.im (.bool (lead l l.length v))) s
def fErrA : DF Z0 := fun s as Q => ∃ l : List Nat, as = [.im (tupN l)] ∧ 1 ≤ l.length ∧ l.length ≤ 24 ∧ (perr l = none → Q (.im .none) s) ∧ ∀ (k : Nat) (w : Str), perr l = some k → Q (.im (.tuple [.int (k : Nat), .str w])) s
def fPF : DF Z0 := fun s as Q => ∃ (z : Str) (l : List Nat), as = [.im (.str z)] ∧ z.length ≤ 100000 ∧ resF z = .inr l ∧ Q (.im (tupN l)) s
def fPV : DF Z0 := fun s as Q => ∃ (z : Str) (l : List Nat), as = [.im (.str z)] ∧ z.length ≤ 100000 ∧ resV z = .inr l ∧ Q (.im (tupN l)) s
def fPC : DF Z0 := fun s as Q => ∃ (z : Str) (l : List PyData), as = [.im (.str z)] ∧ z.length ≤ 100000 ∧ ansC z = .tuple l ∧ Q (.im (.tuple l)) s
def fChkX (C : Addr) : DFX Z0 := fun s as Q X => ∃ d : PyData, as = [.im d] ∧ isTy "str" d = false ∧ X C (some ("index", .none)) s
def fPFX (C : Addr) : DFX Z0 := fun s as Q X => (∃ d : PyData, as = [.im d] ∧ isTy "str" d = false ∧ X C (some ("index", .none)) s) ∨ ∃ (z : Str) (i : Nat), as = [.im (.str z)] ∧ z.length ≤ 100000 ∧ resF z = .inl i ∧ X C (some ("index", .int (i : Nat))) s
def fPVX (C : Addr) : DFX Z0 := fun s as Q X => (∃ d : PyData, as = [.im d] ∧ isTy "str" d = false ∧ X C (some ("index", .none)) s) ∨ ∃ (z : Str) (i : Nat), as = [.im (.str z)] ∧ z.length ≤ 100000 ∧ resV z = .inl i ∧ X C (some ("index", .int (i : Nat))) s
def fPHX (C : Addr) : DFX Z0 := fun s as Q X => ∃ (z : Str) (i : Nat), as = [.im (.str z)] ∧ z.length ≤ 100000 ∧ resV z = .inl i ∧ X C (some ("index", .int 0)) s
def fPCX (C : Addr) : DFX Z0 := fun s as Q X => (∃ d : PyData, as = [.im d] ∧ isTy "str" d = false ∧ X C (some ("index", .none)) s) ∨ ∃ (z : Str) (x : PyData), as = [.im (.str z)] ∧ z.length ≤ 100000 ∧ ansC z = .list [x] ∧ X C (some ("index", x)) s
section
variable {P : Program} {w : World} {K : PySem.W.Frag} {mg : Str → Option Value} {base : Heap} {C : Addr}
theorem ok_numA (M : Mk K mg "is_number_text" s_is_number_text p_is_number_text) (m_len : mg "len" = none) : Df P w K mg base CX0 1 "is_number_text" p_is_number_text (spD Z0 fNumA) := by
  have nd := sc_is_number_text.nd
  refine def_ok (k := 0) M sc_is_number_text (by decide) ?_ (fun f cdv A outer s H E hr => have hu := hu65 hr; (ds_cons (ds_if (PW.pt (dw_or (dt_not (dt_val (de_isascii (dv 0)))) (dw_or (dt_not (dt_val (de_isdigit (dv 0)))) (dw_or1 (dt_gt (de_len (by rfl) m_len (da_cons (dv 0) da_nil)) (dv 1)))))) (ds_one (ds_ret de_bl)) ds_nil)
      (ds_one (ds_ret (de_or (de_eq hu (dv 0) de_str) (de_one (de_not (de_starts (dv 0) de_str)))))))) ?_
  · rintro s as Qd ⟨z, d, rfl, _⟩; rfl
  · rintro s as Qd ⟨z, d, rfl, hl, q⟩
    unfold numB at q
    rw [← dgB_txt] at q
    show if (!Txt.isascii z) = true then _ else _
    cases e1 : Txt.isascii z with
    | false => rw [e1] at q; exact ifz_yes (c := !false) rfl q
    | true =>
      rw [e1, Bool.true_and] at q
      refine ifz_no (c := !true) rfl ?_
      show if (!Txt.isdigit z) = true then _ else _
      cases e2 : Txt.isdigit z with
      | false => rw [e2] at q; exact ifz_yes (c := !false) rfl q
      | true =>
        rw [e2, Bool.true_and] at q
        refine ifz_no (c := !true) rfl ?_
        refine ⟨by omega, ?_⟩
        by_cases y : z.length ≤ d
        · rw [decide_eq_true y, Bool.true_and] at q
          refine ifz_no (c := decide (((d : Nat) : Int) < ((z.length : Nat) : Int))) (decide_eq_false (by omega)) ?_
          unfold nlB at q
          rw [← starts_zero] at q
          cases e3 : decide (z = tZero) with
          | true => rw [e3, Bool.true_or] at q; exact ifz_yes (c := decide (z = tZero)) e3 q
          | false => rw [e3, Bool.false_or] at q; exact ifz_no (c := decide (z = tZero)) e3 ⟨trivial, q⟩
        · rw [decide_eq_false y, Bool.false_and] at q
          exact ifz_yes (c := decide (((d : Nat) : Int) < ((z.length : Nat) : Int))) (decide_eq_true (by omega)) q
theorem ok_vtA (M : Mk K mg "is_vertex_text" s_is_vertex_text p_is_vertex_text) (d_is_number_text : Df P w K mg base CX0 1 "is_number_text" p_is_number_text (spD Z0 fNumA)) {tc : Tok} (g_MAX_VERTICES : mg "MAX_VERTICES" = some (.int 24 tc)) (m_int : mg "int" = none) (m_len : mg "len" = none) (m_str : mg "str" = none) : Df P w K mg base CX0 2 "is_vertex_text" p_is_vertex_text (spD Z0 fVtA) := by
  have nd := sc_is_vertex_text.nd
  refine def_ok (k := 1) M sc_is_vertex_text (by decide) ?_ (fun f cdv A outer s H E hr => have hu := hu65 hr; (ds_one (ds_ret (de_and (de_callP d_is_number_text pass0 hr (da_cons (dv 0) (da_cons (de_len (by rfl) m_len (da_cons (de_strI (by rfl) m_str (da_cons (de_gi (by rfl) g_MAX_VERTICES) da_nil)) da_nil)) da_nil))) (de_one (de_lt (de_intS (by rfl) m_int (da_cons (dv 0) da_nil)) (de_gi (by rfl) g_MAX_VERTICES))))))) ?_
  · rintro s as Qd ⟨z, rfl, _⟩; rfl
  · rintro s as Qd ⟨z, rfl, hl, q⟩
    refine ⟨by decide, by show 2 ≤ 1000000; decide, z, 2, rfl, hl, .inl rfl, ?_⟩
    unfold vtB at q
    cases e : numB z 2 with
    | false => rw [e, Bool.false_and] at q; exact ifz_no (c := false) rfl q
    | true =>
      rw [e, Bool.true_and] at q
      refine ifz_yes (c := true) rfl ?_
      have dg : dgB z = true ∧ z.length ≤ 2 := by
        unfold numB at e
        simp only [Bool.and_eq_true, decide_eq_true_iff] at e
        exact ⟨e.1, e.2.1⟩
      refine ⟨_, num_int dg.1 (by omega), by omega, ?_⟩
      show Qd (.im (.bool (decide (((val z : Nat) : Int) < 24)))) s
      rw [show decide (((val z : Nat) : Int) < 24) = decide (val z < 24) from decide_eq_decide.mpr (by omega)]
      exact q
theorem ok_leadA (M : Mk K mg "leads_to_root" s_leads_to_root p_leads_to_root) (m_len : mg "len" = none) (m_range : mg "range" = none) : Df P w K mg base CX0 1 "leads_to_root" p_leads_to_root (spD Z0 fLeadA) := by
  have nd := sc_leads_to_root.nd
  refine def_ok (k := 0) M sc_leads_to_root (by decide) ?_ (fun f cdv A outer s H E hr => have hu := hu65 hr; (ds_cons (ds_set (i := 2) nd rfl (.inl rfl) (dv 1))
      (ds_cons (ds_for PassesOwn.never rfl (di_r1 (by rfl) m_range (da_cons (de_len (by rfl) m_len (da_cons (dv 0) da_nil)) da_nil)) (dg_name (i := 3) nd rfl (.inl rfl))
      (ds_one (ds_set (i := 2) nd rfl (.inl rfl) (de_ix (dv 0) (dv 2)))))
      (ds_one (ds_ret (de_eq hu (de_ix (dv 0) (dv 2)) (dv 2))))))) ?_
  · rintro s as Qd ⟨l, v, rfl, _⟩; rfl
  · rintro s as Qd ⟨l, v, rfl, rng, few, hv, q⟩
    refine ⟨by rw [nD_len]; omega, by rw [nD_len]; omega, rfl, ?_⟩
    rw [nD_len, Int.toNat_natCast]
    refine ⟨fun j s ρ => ∃ x3 : Sl, ρ = [.im (tupN l), .im (.int (v : Nat)), .im (.int (it l j v : Nat)), x3], ⟨_, rfl⟩, ?_, ?_⟩
    · rintro j d s ρ hd ⟨x3, rfl⟩
      exact ⟨_, nD_at (it_lt rng hv j), _, rfl⟩
    · rintro s ρ ⟨x3, rfl⟩
      rw [rngD_len]
      refine ⟨_, nD_at (it_lt rng hv _), ?_⟩
      show (ends Qd).rt (.im (.bool (decide (((par l (it l l.length v) : Nat) : Int) = ((it l l.length v : Nat) : Int))))) s
      rw [show decide (((par l (it l l.length v) : Nat) : Int) = ((it l l.length v : Nat) : Int)) = lead l l.length v from decide_eq_decide.mpr (by omega)]
      exact q
theorem ok_ferrA (M : Mk K mg "forest_error" s_forest_error p_forest_error) (d_is_vertex : Df P w K mg base CX0 2 "is_vertex" p_is_vertex (spD Z0 fIV)) (d_leads_to_root : Df P w K mg base CX0 1 "leads_to_root" p_leads_to_root (spD Z0 fLeadA)) {tc : Tok} (g_MAX_VERTICES : mg "MAX_VERTICES" = some (.int 24 tc)) (m_enumerate : mg "enumerate" = none) (m_isinstance : mg "isinstance" = none) (m_len : mg "len" = none) (m_range : mg "range" = none) (m_tuple : mg "tuple" = none) : Df P w K mg base CX0 3 "forest_error" p_forest_error (spD Z0 fErrA) := by
  have nd := sc_forest_error.nd
  refine def_ok (k := 2) M sc_forest_error (by decide) ?_ (fun f cdv A outer s H E hr => have hu := hu65 hr; (ds_cons (ds_if (dt_not (dt_val (de_isi (by rfl) m_isinstance (da_cons (dv 0) (da_cons (de_raw (pe_bltn (v := .ty "tuple") (by rfl) m_tuple (by decide +kernel) rfl)) da_nil))))) (ds_one (ds_ret (de_tup (da_cons de_non (da_cons de_str da_nil))))) ds_nil)
      (ds_cons (ds_set (i := 1) nd rfl (.inl rfl) (de_len (by rfl) m_len (da_cons (dv 0) da_nil)))
      (ds_cons (ds_if (dt_not (dt_chain op_le op_le de_int (dv 1) (de_gi (by rfl) g_MAX_VERTICES))) (ds_one (ds_ret (de_tup (da_cons de_non (da_cons de_str da_nil))))) ds_nil)
      (ds_cons (ds_for PassesOwn.never rfl (di_enumQ (by rfl) m_enumerate (da_cons (dv 0) da_nil)) (dg_tup rfl nd (.cons (i := 2) rfl (.inl rfl) (.inl rfl) rfl (.cons (i := 3) rfl (.inl rfl) (.inl rfl) rfl .nil)))
      (ds_one (ds_if (dt_not (dt_val (de_callP d_is_vertex pass0 hr (da_cons (dv 1) (da_cons (dv 3) da_nil))))) (ds_one (ds_ret (de_tup (da_cons (dv 2) (da_cons de_str da_nil))))) ds_nil)))
      (ds_cons (ds_for PassesOwn.never rfl (di_r1 (by rfl) m_range (da_cons (dv 1) da_nil)) (dg_name (i := 2) nd rfl (.inl rfl))
      (ds_one (ds_if (dt_not (dt_val (de_callP d_leads_to_root pass0 hr (da_cons (dv 0) (da_cons (dv 2) da_nil))))) (ds_one (ds_ret (de_tup (da_cons (dv 2) (da_cons de_str da_nil))))) ds_nil)))
      (ds_one (ds_ret de_non)))))))) ?_
  · rintro s as Qd ⟨l, rfl, _⟩; rfl
  · rintro s as Qd ⟨l, rfl, pos, few, qN, qE⟩
    refine ⟨.inr (.inr (.inr (.inl rfl))), ?_⟩
    refine ifz_no (c := !true) rfl ?_
    refine ifz_yes (c := decide ((1 : Int) ≤ ((nD l).length : Nat))) (decide_eq_true (by rw [nD_len]; omega)) ?_
    refine ifz_no (c := !decide ((((nD l).length : Nat) : Int) ≤ 24)) (by rw [decide_eq_true (by rw [nD_len]; omega)]; rfl) ?_
    refine ⟨rfl, fun k s ρ => ∃ x2 x3 : Sl, ρ = [.im (tupN l), .im (.int ((nD l).length : Nat)), x2, x3] ∧ ∀ j, j < k → decide (l.length ≤ par l j) = false, ⟨_, _, rfl, fun j hj => absurd hj (Nat.not_lt_zero _)⟩, ?_, ?_⟩
    · rintro k d s ρ hd ⟨x2, x3, rfl, ok⟩
      obtain ⟨z, hz, rfl⟩ := enumD_get hd
      obtain ⟨x, hx, rfl⟩ := nD_some hz
      have hk := (List.getElem?_eq_some_iff.mp hx).1
      have ex : par l k = x := by
        unfold par
        rw [List.getD_eq_getElem?_getD, hx]
        rfl
      refine ⟨(nD l).length, _, rfl, .inl rfl, ?_⟩
      by_cases y : x < l.length
      · rw [isV_natD (by rw [nD_len]; exact y)]
        refine ifz_no (c := !true) rfl ?_
        refine ⟨_, _, rfl, fun j hj => ?_⟩
        by_cases e : j = k
        · subst e
          rw [ex]
          exact decide_eq_false (by omega)
        · exact ok j (by omega)
      · have nv : isV (nD l).length (.int ((x : Nat) : Int)) = false := by
          show (decide ((0 : Int) ≤ ((x : Nat) : Int)) && decide (((x : Nat) : Int) < (((nD l).length : Nat) : Int))) = false
          rw [nD_len, decide_eq_false (show ¬ ((x : Nat) : Int) < ((l.length : Nat) : Int) by omega), Bool.and_false]
        rw [nv]
        refine ifz_yes (c := !false) rfl ?_
        refine ⟨_, rfl, by show 2 ≤ 1000000; decide, qE k _ ?_⟩
        unfold perr
        rw [find_first (i := k) hk (decide_eq_true (by rw [ex]; omega)) ok]
    · rintro s ρ ⟨x2, x3, rfl, ok⟩
      have en : (enumD (nD l)).length = l.length := by unfold enumD; rw [List.length_map, List.length_range, nD_len]
      rw [en] at ok
      have rng : ∀ k, k < l.length → par l k < l.length := fun k hk => by
        have := ok k hk
        rw [decide_eq_false_iff_not] at this
        omega
      have pe : perr l = (List.range l.length).find? (cyc l) := by
        unfold perr
        rw [find_none ok]
      refine ⟨by rw [nD_len]; omega, by rw [nD_len]; omega, rfl, ?_⟩
      rw [nD_len, Int.toNat_natCast]
      refine ⟨fun k s ρ => ∃ x2 x3 : Sl, ρ = [.im (tupN l), .im (.int (l.length : Nat)), x2, x3] ∧ ∀ j, j < k → cyc l j = false, ⟨_, _, rfl, fun j hj => absurd hj (Nat.not_lt_zero _)⟩, ?_, ?_⟩
      · rintro k d s ρ hd ⟨x2, x3, rfl, ok2⟩
        obtain ⟨hk, rfl⟩ := rngD_get hd
        rw [Int.zero_add]
        refine ⟨l, k, rfl, rng, few, hk, .inl rfl, ?_⟩
        cases e : lead l l.length k with
        | true =>
          refine ifz_no (c := !true) rfl ?_
          refine ⟨_, _, rfl, fun j hj => ?_⟩
          by_cases y : j = k
          · subst y
            unfold cyc
            rw [e]
            rfl
          · exact ok2 j (by omega)
        | false =>
          refine ifz_yes (c := !false) rfl ?_
          refine ⟨_, rfl, by show 2 ≤ 1000000; decide, qE k _ ?_⟩
          rw [pe]
          refine find_first hk ?_ ok2
          unfold cyc
          rw [e]
          rfl
      · rintro s ρ ⟨x2, x3, rfl, ok2⟩
        rw [rngD_len] at ok2
        refine qN ?_
        rw [pe, find_none ok2]
end
end Lf
namespace Lf
open PySem PySem.Spec PyProof.Rows L2
/-! ### an own error with a field, made while another one is handled: raise C(e) from None in an except suite -/
structure ErrH (P : Program) (w : World) (K : PySem.W.Frag) (mg : Str → Option Value) (base : Heap) (nm f : Str) (C : Addr) : Prop where
  ex : ∃ (fI : Addr) (fdI : FuncData), PySem.W.findIn K (.ref C) "__init__" = some (some (.ref fI)) ∧ PySem.W.typeIn K (.ref fI) = some (.type "function") ∧ L2H.FnH P w K mg base CX0 1 fI fdI ["self", f] (spInit K C f) ∧ Binds K fdI ["self", f] []
  T : OexC K C
  g : mg nm = some (.ref C)
theorem ok_initH {P : Program} {w : World} {K : PySem.W.Frag} {mg : Str → Option Value} {base : Heap} {C fI : Addr} {fd : FuncData} {f qual : Str} {st : Stmt} (Fn : Fun K "__init__" qual st fI fd) (Sc : FnScope ["self", f] ["self", f] (defScope st)) (T : OexC K C) (hno : PySem.W.findIn K (.ref C) f = some none)
    (body : ∃ q1 q2 q3 q4, defBody st = [.Assign [.Attribute (.Name "self" q1) f q2] (.Name f q3) q4]) (v0 : Vis (defScope st) "self") (v1 : Vis (defScope st) f) (d1 : (f == Str.ofString "__debug__") = false) (d2 : (f == Str.ofString "__classdict__") = false) :
    L2H.FnH P w K mg base CX0 1 fI fd ["self", f] (spInit K C f) := by
  obtain ⟨oc, od, kV, doc, pm, an, cdv, ct, osl, rfl, lk, hcd⟩ := Fn.ex
  refine L2H.fn_ofH lk hcd Sc (fun vs H Q E h => ?_) (fun A outer s H vs Q E p hot hr h => ?_)
  · obtain ⟨a, v, rfl, _⟩ := h
    rfl
  · obtain ⟨a, v, rfl, ha, q⟩ := h
    obtain ⟨q1, q2, q3, q4, eb⟩ := body
    rw [eb]
    refine ⟨_, pss_one (ps_ost (pe_var (i := 0) rfl v0) (pe_var (i := 1) rfl v1 (hd := d1) (hcd := d2))), ?_⟩
    exact ⟨v, rfl, .ref a, rfl, a, C, rfl, T, hno, .inl ⟨ha, fun dx hd hne => q dx hd hne⟩⟩
section
variable {X : Cx} {nm f : Str} {p pos : Pos} {e : Expr} {es : List Expr} {ta : TA} {C : Addr}
theorem pmk_errH (R : ErrH X.prog X.w X.K X.mg X.base nm f C) (hr : L2H.RoomH 2 X.A) (hc : L2H.HotC X) (ha : PA X (e :: es) ta) (hg : Gl X nm := by rfl)
    (hdb : (nm == ("__debug__" : Str)) = false := by decide) (he : starEach (e :: es) X.env = (false, eval e X.env) :: starEach es X.env := by rfl) (hpl : (backTo pos (starEach es X.env)).any (·.1) = false := by rfl) :
    L2H.PMk5 X (.Call (.Name nm p) (e :: es) [] pos) (tMkO C (spInit X.K C f) [] ta) := by
  obtain ⟨fI, fdI, iC, tI, G, b⟩ := R.ex
  exact L2H.pmk5_oexH R.T iC tI G hr hc b pass0 hg R.g ha hdb he hpl
end
end Lf
namespace Lf
open PySem PySem.Spec PyProof.Rows L2
/-! ### errors whose context is None: defs that may be called in a try whose suite raises -/
section
variable {X : Cx} {nm f : Str} {p pos : Pos} {e : Expr} {es : List Expr} {ta : TA} {j : Nat} {C : Addr} {W : WX}
theorem pmk_errN (R : ErrF X.prog X.w X.K X.mg X.base nm f C) (hr : Room j X.A) (ha : PA X (e :: es) ta) (hj : 2 ≤ j := by decide) (hg : Gl X nm := by rfl)
    (hdb : (nm == ("__debug__" : Str)) = false := by decide) (he : starEach (e :: es) X.env = (false, eval e X.env) :: starEach es X.env := by rfl) (hpl : (backTo pos (starEach es X.env)).any (·.1) = false := by rfl) :
    L2N.PMk X (.Call (.Name nm p) (e :: es) [] pos) (tMkO C (spInit X.K C f) [] ta) := by
  obtain ⟨fI, fdI, iC, tI, F1, hb⟩ := R.ex
  have T := R.T
  have room : Room (1 + 1) X.A := hr.mono hj
  obtain ⟨_, _, _, _, bm, _, _, _, _, _, _, _, _, _, _, hC, hbm⟩ := T.cls
  intro pins s σ H Q I h
  refine wpAny_Call_Name_kw (ld_glob I hg R.g ?_ hdb)
  refine PySem.W.callWith_K (h₀ := X.base) I.ok.mod.kin T.kC (thn (ha.run pos pins s σ H _ I h) ?_) he hpl
  rintro us ⟨hp, g, dr, tk, os⟩ ⟨vs, H1, I1, r1, hz, q1⟩
  refine ⟨I1.kIn, ?_⟩
  generalize ea : hp.objs.size + 1 = a at *
  have le : hp.objs.size ≤ a := by omega
  have want := q1 a (I1.hok.fresh le)
  rw [List.append_nil] at want
  have kept : ∀ (b : Addr) (o : Obj), hp.get? b = some o → ((hp.push (PySem.W.kdv_tup us)).push (PySem.HandSPX.excO C hp.objs.size)).get? b = some o :=
    fun b o z => Heap.get?_push_of_some _ (Heap.get?_push_of_some _ z)
  have laid : ((hp.push (PySem.W.kdv_tup us)).push (PySem.HandSPX.excO C hp.objs.size)).get? a = some (PySem.HandSPX.excO C hp.objs.size) := by
    rw [← ea]
    heap_get
  have I2 : Inv X pins σ (upd H1 a (exo a C none)) ⟨(hp.push (PySem.W.kdv_tup us)).push (PySem.HandSPX.excO C hp.objs.size), g, dr, tk, os⟩ := I1.laid (t' := tk) (a := a) (o := exo a C none) kept le (exo_ok laid)
  have r2 : Vals (V.ref a :: vs) (Value.ref a :: us) := .cons rfl r1
  have many : (Value.ref a :: us ++ []).length = ([Str.ofString "self", f] : List Str).length := by
    rw [List.append_nil, ← r2.length]
    exact F1.len _ _ _ _ want
  have few : us.length ≤ sizeLine := by rw [sizeLine_eq]; have := r1.length; omega
  have bound := hb _ (Value.ref a :: us) I2.kIn many
  rw [List.append_nil] at bound
  have ran := F1.run _ X.stack _ _ ⟨Value.ref a :: us, []⟩ (Value.ref a :: us) _ _ (fun _ _ _ => False) (room.make C us []) (I2.env0.make C us []) bound r2 want
  subst ea
  refine wpAny_call (PySem.HandSPX.call_own F.excBase_ValueError (fun Y => PySem.HandSPX.refsVE_contains Y bm hbm) (I1.kIn _ _ hC) (PySem.W.looks_findIn I1.kIn iC) (fun self => PySem.W.bind_fn I1.kIn self tI) few (codeAny_mono ran ?_))
  rintro r s' hr'
  cases r with
  | error er => exact pass0 (X := X) pins σ _ _ er s' I2 hr'
  | ok fl =>
    cases fl with
    | next => exact hr'.elim
    | brk => exact hr'.elim
    | cont => exact hr'.elim
    | ret u =>
      obtain ⟨v, H2, os2, bare2, un2, hok2, rv, ev, d, fs, e1, e2, e3, q2⟩ := hr'
      subst ev
      obtain ⟨h2, g2, d2, t2, os'⟩ := s'
      obtain ⟨t0, G, J, kG, ge, hoe, na⟩ := mk_end0 (d2 := d2) (t2 := t2) I1 le kept un2 hok2 os2 bare2 e1 e2 e3
      refine ⟨rv, _, _, _, ⟨G, g2, d2, t2, os'⟩, _, .ref C, some d, rfl, J, kG, ge, hoe, ⟨rfl, rfl, fun vs hv => ?_⟩, rfl, rfl, na, rfl, bare2, raises_own T.exC T.tyC, q2⟩
      cases hv
      rfl
end
section
variable {Z : Zn} {X : Cx} {W : WX} {e : Expr} {es : List Expr} {das : DA Z} {pos p : Pos}
theorem dx_raiseN {nm f : Str} {C : Addr} {j : Nat} {pos' : Pos} (tk : L2N.Takes X W) (hc : X.calm = true) (R : ErrF X.prog X.w X.K X.mg X.base nm f C) (hr : Room j X.A) (ha : DAs Z X (e :: es) das) (hj : 2 ≤ j := by decide) (hg : Gl X nm := by rfl)
    (hdb : (nm == ("__debug__" : Str)) = false := by decide) (he : starEach (e :: es) X.env = (false, eval e X.env) :: starEach es X.env := by rfl) (hpl : (backTo pos (starEach es X.env)).any (·.1) = false := by rfl) :
    PS X (.Raise (some (.Call (.Name nm p) (e :: es) [] pos)) none pos') (liftX Z W (xRaise C f das)) := by
  refine PS.of (L2N.ps_raise hc tk (pmk_errN R hr ha hj hg hdb he hpl)) fun D σ H ⟨B0, H0, ρ, s, De, R, hd, hn, hb, hc, hr, hx⟩ => ?_
  refine ⟨B0, H0, ρ, s, _, R, hd, fun rs s1 vs H1 q R1 g1 r1 => ?_⟩
  obtain ⟨r, d, rfl, hs, q⟩ := q
  obtain ⟨v, rfl, r2⟩ := r1.one
  have im : Im (Bad Z B0 ρ) H1 v d := RvR.st R r2 hs
  refine ⟨by show 1 ≤ 1000; decide, fun a na => ⟨a, v, rfl, upd_same, fun dx nd ne => ⟨rfl, made_out (f := f) (v := v) (Q := fun cls d H' => W cls d σ H') (Same.refl H1) (fun d' H' sm n1 h1 => ?_) a na dx nd ne⟩⟩⟩
  exact hx C _ s1 ρ σ (some d') H' q (R1.same sm) ((g1.stp R).trans R1 ((Gr.of sm).stp R1)) ⟨v, h1, im.same sm⟩
theorem dxe_callN {F : DFX Z0} {k j : Nat} {ps : List Str} {n : Str} (tk : L2N.Takes X W) (D : Df X.prog X.w X.K X.mg X.base (L2N.CX X.prog X.w) k n ps (spX Z0 F)) (hr : Room j X.A) (ha : DAs Z X (e :: es) das) (hj : k ≤ j := by decide) (hg : Gl X n := by rfl)
    (hdb : (n == ("__debug__" : Str)) = false := by decide) (he : starEach (e :: es) X.env = (false, eval e X.env) :: starEach es X.env := by rfl) (hpl : (backTo pos (starEach es X.env)).any (·.1) = false := by rfl) : PE X (.Call (.Name n p) (e :: es) [] pos) (liftEX Z W (xCallP F das)) :=
  PE.of (pe_dS (E := WE W) D hr (fun σ => L2N.passAt tk σ) ha hj hg hdb he hpl) fun σ H Q h => lift_callX h
end
section
variable {Z : Zn} {P : Program} {w : World} {K : PySem.W.Frag} {mg : Str → Option Value} {base : Heap}
theorem def_okXN {nm : Str} {st : Stmt} {N ps : List Str} {k : Nat} {F : DFX Z} {d : DSx Z} (M : Mk K mg nm st ps) (Sc : FnScope N ps (defScope st)) (hl : ps.length ≤ N.length) (len : ∀ s as Qd Xd, F s as Qd Xd → as.length = ps.length)
    (body : ∀ (f : Addr) (cdv : Value) (A : Around) (outer : List Env) (s : Shared) (H : Hp) (E : XK), Room k (A.deeper (envOfC nm (defScope st) s.heap.objs.size f cdv)) → PSs (cxOf (L2N.CX P w) P w K mg base N nm (defScope st) f cdv A outer s H E) (defBody st) (liftX Z (fun cls dx _ H' => E cls dx H') d))
    (hd : ∀ s as Qd Xd, F s as Qd Xd → d (endsX Qd Xd) s (as ++ List.replicate (N.length - as.length) .no)) : Df P w K mg base (L2N.CX P w) (k + 1) nm ps (spX Z F) := by
  obtain ⟨f, fd, Fn, b, g⟩ := M
  have hlen : ∀ vs H Q E, spX Z F vs H Q E → vs.length = ps.length := fun vs H Q E ⟨B0, s, as, Qd, Xd, _, _, ha, hf, _⟩ => by rw [ha.length, len s as Qd Xd hf]
  have kp := Fn.kp
  obtain ⟨oc, od, kV, doc, pm, an, cdv, ct, osl, rfl, lk, hcd⟩ := Fn.ex
  refine Df.of Fn b g (fn_of lk hcd Sc hlen fun A outer s H vs Q E hr h => ⟨_, body f cdv A outer s H E hr, body_okX ?_ hd h⟩)
  rw [hlen vs H Q E h]
  exact hl
end
end Lf
namespace Lf
open PySem PySem.Spec PyProof.Rows L2
/-! ### such a def is also one that lets any such error out -/
theorem cx_of_n {P : Program} {w : World} {outer : List Env} {H : Hp} {s s' : Shared} {E : XK} {u : Value} (c : L2N.CX P w outer H s E u s') : L2.CX P w outer H s E u s' := by
  obtain ⟨a, B, H', cls, d, e1, fl, r⟩ := c
  exact ⟨a, B, H', cls, d, e1, L2H.flyingZ_imp (fun o h => h.zc) fl, r⟩
theorem Df.ofN {P : Program} {w : World} {K : PySem.W.Frag} {mg : Str → Option Value} {base : Heap} {k : Nat} {x : Str} {ps : List Str} {sp : Sp} (D : Df P w K mg base (L2N.CX P w) k x ps sp) : Df P w K mg base (L2.CX P w) k x ps sp := by
  obtain ⟨f, fd, G, b, g, kp⟩ := D
  refine ⟨f, fd, ⟨G.len, fun A outer s H args us vs Q E hr e0 hb r h => codeAny_mono (G.run A outer s H args us vs Q E hr e0 hb r h) fun r s' z => ?_⟩, b, g, kp⟩
  cases r with
  | error e => exact cx_of_n z
  | ok fl => cases fl <;> exact z
end Lf
namespace Lf
open PySem PySem.Spec PyProof.Rows L2
/-! ### texts.py: the parsers, for any texts -/
--@strint
--@thru
--@sub (dx_raiseN (L2N.takes_of rfl rfl rfl rfl) => (dx_raiseN (L2N.takes_of rfl rfl rfl rfl)
--@inttext
--@call is_vertex_text P pass0
--@call forest_error P pass0
--@call check_string P pass0
--@call parse_history_part P pass0
def dNevA {Z : Zn} : DSt Z := fun _ _ _ => False
theorem dss_nev {Z : Zn} {X : Cx} {sts : List Stmt} : DSs Z X sts dNevA := ⟨fun pins s σ H D I h => by obtain ⟨_, _, _, _, _, _, hd, _⟩ := h; exact hd.elim⟩
theorem nD_snocA (l : List Nat) (x : Nat) : nD (l ++ [x]) = nD l ++ [.int ((x : Nat) : Int)] := by
  unfold nD
  rw [List.map_append]
  rfl
theorem enum_strs {P : List Str} {k : Nat} {d : PyData} (h : (enumD (P.map PyData.str))[k]? = some d) : ∃ p, P[k]? = some p ∧ d = .tuple [.int (k : Nat), .str p] := by
  obtain ⟨z, hz, rfl⟩ := enumD_get h
  rw [List.getElem?_map] at hz
  cases e : P[k]? with
  | none => rw [e] at hz; cases hz
  | some p => rw [e] at hz; exact ⟨p, rfl, by rw [Option.some.inj hz]⟩
theorem enum_len (P : List Str) : (enumD (P.map PyData.str)).length = P.length := by unfold enumD; rw [List.length_map, List.length_range, List.length_map]
theorem take_map {P : List Str} {k : Nat} {p : Str} (h : P[k]? = some p) : (P.take (k + 1)).map val = (P.take k).map val ++ [val p] := by
  rw [List.take_add_one, h, List.map_append]
  rfl
theorem spc_ne : (spc.length == 0) = false := by decide
section
variable {P : Program} {w : World} {K : PySem.W.Frag} {mg : Str → Option Value} {base : Heap} {C : Addr}
theorem okX_chk (M : Mk K mg "check_string" s_check_string p_check_string) (R_BadText : ErrF P w K mg base "BadText" "index" C) (m_isinstance : mg "isinstance" = none) (m_str : mg "str" = none) : Df P w K mg base (L2N.CX P w) 3 "check_string" p_check_string (spX Z0 (fChkX C)) := by
  have nd := sc_check_string.nd
  refine def_okXN (k := 2) M sc_check_string (by decide) ?_ (fun f cdv A outer s H E hr => have hu := hu65 hr; (dx_one (dx_if (dt_not (dt_val (de_isi (by rfl) m_isinstance (da_cons (dv 0) (da_cons (de_raw (pe_bltn (v := .ty "str") (by rfl) m_str (by decide +kernel) rfl)) da_nil))))) (dx_one (dx_raiseN (L2N.takes_of rfl rfl rfl rfl) rfl R_BadText hr (da_cons de_non da_nil))) dx_nil))) ?_
  · rintro s as Qd Xd ⟨d, rfl, _⟩; rfl
  · rintro s as Qd Xd ⟨d, rfl, ty, q⟩
    refine ⟨.inr (.inr (.inl rfl)), ?_⟩
    refine ifz_yes (c := !isTy "str" d) (by rw [ty]; rfl) ?_
    exact ⟨_, _, rfl, rfl, q⟩
abbrev s_parse_forest : Stmt := topS (16)
abbrev N_parse_forest : List Str := ["value", "parents", "index", "part", "wrong"]
abbrev p_parse_forest : List Str := ["value"]
theorem sc_parse_forest : FnScope N_parse_forest p_parse_forest (defScope s_parse_forest) := ⟨rfl, rfl, rfl, by decide +kernel, rfl, by decide +kernel, by decide +kernel⟩
theorem ok_pF (M : Mk K mg "parse_forest" s_parse_forest p_parse_forest) (d_check_string : Df P w K mg base CX0 1 "check_string" p_check_string (spD Z0 fChkS)) (d_is_vertex_text : Df P w K mg base CX0 2 "is_vertex_text" p_is_vertex_text (spD Z0 fVtA)) (d_forest_error : Df P w K mg base CX0 3 "forest_error" p_forest_error (spD Z0 fErrA)) {tc : Tok} (g_MAX_VERTICES : mg "MAX_VERTICES" = some (.int 24 tc)) (m_enumerate : mg "enumerate" = none) (m_int : mg "int" = none) (m_tuple : mg "tuple" = none) : Df P w K mg base CX0 4 "parse_forest" p_parse_forest (spD Z0 fPF) := by
  have nd := sc_parse_forest.nd
  refine def_ok (k := 3) M sc_parse_forest (by decide) ?_ (fun f cdv A outer s H E hr => have hu := hu65 hr; (ds_cons (ds_expr (de_callP d_check_string pass0 hr (da_cons (dv 0) da_nil)))
      (ds_cons (ds_set (i := 1) nd rfl (.inl rfl) (de_lst da_nil))
      (ds_cons (ds_for PassesOwn.never rfl (di_enumQ (by rfl) m_enumerate (da_cons (de_split (dv 0) de_str) da_nil)) (dg_tup rfl nd (.cons (i := 2) rfl (.inl rfl) (.inl rfl) rfl (.cons (i := 3) rfl (.inl rfl) (.inl rfl) rfl .nil)))
      (ds_cons (ds_if (PW.pt (dw_or (dt_eq hu (dv 2) (de_gi (by rfl) g_MAX_VERTICES)) (dw_or1 (dt_not (dt_val (de_callP d_is_vertex_text pass0 hr (da_cons (dv 3) da_nil))))))) (ds_one ds_never) ds_nil)
      (ds_one (ds_mt (i := 1) m2_app PySem.F.slot_list_append PySem.F.type_list_append mt_append rfl (by first | exact Or.inl rfl | exact Or.inr (Or.inl rfl) | exact Or.inr (Or.inr rfl)) (da_cons (de_intS (by rfl) m_int (da_cons (dv 3) da_nil)) da_nil)))))
      (ds_cons (ds_set (i := 4) nd rfl (.inl rfl) (de_callP d_forest_error pass0 hr (da_cons (de_tuple (by rfl) m_tuple (da_cons (dv 1) da_nil)) da_nil)))
      (ds_cons (ds_if (dt_notN (dv 4)) (ds_one ds_never) ds_nil)
      (ds_one (ds_ret (de_tuple (by rfl) m_tuple (da_cons (dv 1) da_nil)))))))))) ?_
  · rintro s as Qd ⟨z, l, rfl, _⟩; rfl
  · rintro s as Qd ⟨z, l, rfl, hl, hz, q⟩
    have pl := fun {p} (h : p ∈ pts z) => pts_le h
    unfold resF at hz
    have good : ∀ j, j < (pts z).length → badP true (pts z) j = false := fun j hj => by
      cases e : scan true (pts z) with
      | some i => rw [e] at hz; cases hz
      | none =>
        unfold scan at e
        rw [List.find?_eq_none] at e
        have := e j (List.mem_range.mpr hj)
        rwa [Bool.not_eq_true] at this
    rw [scan_none good] at hz
    have few := good_few good
    refine ⟨_, rfl, .inl rfl, _, rfl, by show 0 ≤ 1000000; decide, fun a => ?_⟩
    refine ⟨⟨spc_ne, by omega⟩, rfl, fun k s ρ => ∃ x2 x3 : Sl, ρ = [.im (.str z), .ow a (nD (((pts z).take k).map val)), x2, x3, .no], ⟨_, _, rfl⟩, ?_, ?_⟩
    · rintro k d s ρ hd ⟨x2, x3, rfl⟩
      obtain ⟨p, hp, rfl⟩ := enum_strs (P := pts z) hd
      have hk := (List.getElem?_eq_some_iff.mp hp).1
      obtain ⟨k24, vt⟩ := good_at (good k hk)
      rw [prt_at hp] at vt
      have lp := pl (List.mem_of_getElem? hp)
      obtain ⟨dg, l2⟩ := vt_dg vt
      refine ifz_no (c := decide (((k : Nat) : Int) = 24)) (decide_eq_false (by omega)) ?_
      refine ⟨p, rfl, by omega, .inl rfl, ?_⟩
      rw [vt]
      refine ifz_no (c := !true) rfl ?_
      refine ⟨_, num_int dg (by omega), by omega, _, rfl, by rw [nD_len, List.length_map, List.length_take]; omega, .im (.int (k : Nat)), .im (.str p), ?_⟩
      rw [take_map hp, nD_snocA]
      rfl
    · rintro s ρ ⟨x2, x3, rfl⟩
      rw [show (enumD ((Txt.split z (Str.ofString " ")).map PyData.str)).length = (pts z).length from enum_len (pts z), List.take_length]
      have pp := pts_pos z
      refine ⟨(pts z).map val, rfl, by rw [List.length_map]; exact pp, by rw [List.length_map]; exact few, fun pe => ⟨.inl rfl, ?_⟩, fun k w pe => ?_⟩
      · rw [pe] at hz
        cases hz
        exact q
      · rw [pe] at hz
        cases hz
theorem okX_pF (M : Mk K mg "parse_forest" s_parse_forest p_parse_forest) (R_BadText : ErrF P w K mg base "BadText" "index" C) (dX_check_string : Df P w K mg base (L2N.CX P w) 3 "check_string" p_check_string (spX Z0 (fChkX C))) (d_check_string : Df P w K mg base CX0 1 "check_string" p_check_string (spD Z0 fChkS)) (d_is_vertex_text : Df P w K mg base CX0 2 "is_vertex_text" p_is_vertex_text (spD Z0 fVtA)) (d_forest_error : Df P w K mg base CX0 3 "forest_error" p_forest_error (spD Z0 fErrA)) {tc : Tok} (g_MAX_VERTICES : mg "MAX_VERTICES" = some (.int 24 tc)) (m_enumerate : mg "enumerate" = none) (m_int : mg "int" = none) (m_tuple : mg "tuple" = none) : Df P w K mg base (L2N.CX P w) 4 "parse_forest" p_parse_forest (spX Z0 (fPFX C)) := by
  have nd := sc_parse_forest.nd
  refine def_okXN (k := 3) M sc_parse_forest (by decide) ?_ (fun f cdv A outer s H E hr => have hu := hu65 hr; (dxs_or (dx_cons (dx_expr (dxe_callN (L2N.takes_of rfl rfl rfl rfl) dX_check_string hr (da_cons (dv 0) da_nil))) (dxs_of dss_nev)) (dx_cons (dx_of (ds_expr (de_callP d_check_string pass0 hr (da_cons (dv 0) da_nil))))
      (dx_cons (dx_of (ds_set (i := 1) nd rfl (.inl rfl) (de_lst da_nil)))
      (dx_cons (dx_for (passes_of rfl) rfl (di_enumQ (by rfl) m_enumerate (da_cons (de_split (dv 0) de_str) da_nil)) (dg_tup rfl nd (.cons (i := 2) rfl (.inl rfl) (.inl rfl) rfl (.cons (i := 3) rfl (.inl rfl) (.inl rfl) rfl .nil)))
      (dx_cons (dx_if (PW.pt (dw_or (dt_eq hu (dv 2) (de_gi (by rfl) g_MAX_VERTICES)) (dw_or1 (dt_not (dt_val (de_callP d_is_vertex_text pass0 hr (da_cons (dv 3) da_nil))))))) (dx_one (dx_raiseN (L2N.takes_of rfl rfl rfl rfl) rfl R_BadText hr (da_cons (dv 2) da_nil))) dx_nil)
      (dxs_of (ds_one (ds_mt (i := 1) m2_app PySem.F.slot_list_append PySem.F.type_list_append mt_append rfl (by first | exact Or.inl rfl | exact Or.inr (Or.inl rfl) | exact Or.inr (Or.inr rfl)) (da_cons (de_intS (by rfl) m_int (da_cons (dv 3) da_nil)) da_nil))))))
      (dx_cons (dx_of (ds_set (i := 4) nd rfl (.inl rfl) (de_callP d_forest_error pass0 hr (da_cons (de_tuple (by rfl) m_tuple (da_cons (dv 1) da_nil)) da_nil))))
      (dx_cons (dx_if (dt_notN (dv 4)) (dx_one (dx_raiseN (L2N.takes_of rfl rfl rfl rfl) rfl R_BadText hr (da_cons (de_ix (dv 4) de_int) da_nil))) dx_nil)
      (dxs_of (ds_one (ds_ret (de_tuple (by rfl) m_tuple (da_cons (dv 1) da_nil)))))))))))) ?_
  · rintro s as Qd Xd (⟨d, rfl, _⟩ | ⟨z, i, rfl, _⟩) <;> rfl
  · rintro s as Qd Xd (⟨d, rfl, ty, q⟩ | ⟨z, i, rfl, hl, hz, q⟩)
    · exact .inl ⟨d, rfl, ty, .inl rfl, q⟩
    · refine .inr ?_
      have pl := fun {p} (h : p ∈ pts z) => pts_le h
      have pm := pts_many z
      unfold resF at hz
      refine ⟨_, rfl, .inl rfl, _, rfl, by show 0 ≤ 1000000; decide, fun a => ?_⟩
      refine ⟨⟨spc_ne, by omega⟩, rfl, fun k s ρ => ∃ x2 x3 : Sl, ρ = [.im (.str z), .ow a (nD (((pts z).take k).map val)), x2, x3, .no] ∧ ∀ j, j < k → badP true (pts z) j = false, ⟨_, _, rfl, fun j hj => absurd hj (Nat.not_lt_zero _)⟩, ?_, ?_⟩
      · rintro k d s ρ hd ⟨x2, x3, rfl, ok⟩
        obtain ⟨p, hp, rfl⟩ := enum_strs (P := pts z) hd
        have hk := (List.getElem?_eq_some_iff.mp hp).1
        have lp := pl (List.mem_of_getElem? hp)
        have ePrt := prt_at hp
        have hit : badP true (pts z) k = true → Xd C (some ("index", .int (k : Nat))) s := fun hb => by
          rw [scan_some hk hb ok] at hz
          cases hz
          exact q
        by_cases k24 : k = 24
        · refine ifz_yes (c := decide (((k : Nat) : Int) = 24)) (decide_eq_true (by omega)) ?_
          refine ⟨_, _, rfl, rfl, hit ?_⟩
          unfold badP
          rw [decide_eq_true k24, Bool.true_or]
        · refine ifz_no (c := decide (((k : Nat) : Int) = 24)) (decide_eq_false (by omega)) ?_
          refine ⟨p, rfl, by omega, .inl rfl, ?_⟩
          cases vt : vtB p with
          | false =>
            refine ifz_yes (c := !false) rfl ?_
            refine ⟨_, _, rfl, rfl, hit ?_⟩
            unfold badP
            rw [ePrt, vt, decide_eq_false k24]
            rfl
          | true =>
            obtain ⟨dg, l2⟩ := vt_dg vt
            refine ifz_no (c := !true) rfl ?_
            refine ⟨_, num_int dg (by omega), by omega, _, rfl, by rw [nD_len, List.length_map, List.length_take]; omega, .im (.int (k : Nat)), .im (.str p), ?_, fun j hj => ?_⟩
            · rw [take_map hp, nD_snocA]
              rfl
            · by_cases e : j = k
              · subst e
                unfold badP
                rw [ePrt, vt, decide_eq_false k24]
                rfl
              · exact ok j (by omega)
      · rintro s ρ ⟨x2, x3, rfl, ok⟩
        rw [show (enumD ((Txt.split z (Str.ofString " ")).map PyData.str)).length = (pts z).length from enum_len (pts z)] at ok ⊢
        rw [List.take_length]
        rw [scan_none ok] at hz
        have few := good_few ok
        have pp := pts_pos z
        refine ⟨(pts z).map val, rfl, by rw [List.length_map]; exact pp, by rw [List.length_map]; exact few, fun pe => ?_, fun k w pe => ⟨.inl rfl, ?_⟩⟩
        · rw [pe] at hz
          cases hz
        · rw [pe] at hz
          cases hz
          exact ⟨_, atI_nat (j := 0) rfl, _, _, rfl, rfl, q⟩
abbrev s_parse_vertices : Stmt := topS (17)
abbrev N_parse_vertices : List Str := ["value", "vertices", "index", "part"]
abbrev p_parse_vertices : List Str := ["value"]
theorem sc_parse_vertices : FnScope N_parse_vertices p_parse_vertices (defScope s_parse_vertices) := ⟨rfl, rfl, rfl, by decide +kernel, rfl, by decide +kernel, by decide +kernel⟩
theorem ok_pV (M : Mk K mg "parse_vertices" s_parse_vertices p_parse_vertices) (d_check_string : Df P w K mg base CX0 1 "check_string" p_check_string (spD Z0 fChkS)) (d_is_vertex_text : Df P w K mg base CX0 2 "is_vertex_text" p_is_vertex_text (spD Z0 fVtA)) {tc : Tok} (g_MAX_VERTICES : mg "MAX_VERTICES" = some (.int 24 tc)) (m_enumerate : mg "enumerate" = none) (m_int : mg "int" = none) (m_tuple : mg "tuple" = none) : Df P w K mg base CX0 3 "parse_vertices" p_parse_vertices (spD Z0 fPV) := by
  have nd := sc_parse_vertices.nd
  refine def_ok (k := 2) M sc_parse_vertices (by decide) ?_ (fun f cdv A outer s H E hr => have hu := hu65 hr; (ds_cons (ds_expr (de_callP d_check_string pass0 hr (da_cons (dv 0) da_nil)))
      (ds_cons (ds_if (dt_eq hu (dv 0) de_str) (ds_one (ds_ret (de_tup da_nil))) ds_nil)
      (ds_cons (ds_set (i := 1) nd rfl (.inl rfl) (de_lst da_nil))
      (ds_cons (ds_for PassesOwn.never rfl (di_enumQ (by rfl) m_enumerate (da_cons (de_split (dv 0) de_str) da_nil)) (dg_tup rfl nd (.cons (i := 2) rfl (.inl rfl) (.inl rfl) rfl (.cons (i := 3) rfl (.inl rfl) (.inl rfl) rfl .nil)))
      (ds_cons (ds_if (PW.pt (dw_or (dt_eq hu (dv 2) (de_gi (by rfl) g_MAX_VERTICES)) (dw_or (dt_not (dt_val (de_callP d_is_vertex_text pass0 hr (da_cons (dv 3) da_nil)))) (dw_or1 (dt_in hu (de_intS (by rfl) m_int (da_cons (dv 3) da_nil)) (dv 1)))))) (ds_one ds_never) ds_nil)
      (ds_one (ds_mt (i := 1) m2_app PySem.F.slot_list_append PySem.F.type_list_append mt_append rfl (by first | exact Or.inl rfl | exact Or.inr (Or.inl rfl) | exact Or.inr (Or.inr rfl)) (da_cons (de_intS (by rfl) m_int (da_cons (dv 3) da_nil)) da_nil)))))
      (ds_one (ds_ret (de_tuple (by rfl) m_tuple (da_cons (dv 1) da_nil))))))))) ?_
  · rintro s as Qd ⟨z, l, rfl, _⟩; rfl
  · rintro s as Qd ⟨z, l, rfl, hl, hz, q⟩
    have pl := fun {p} (h : p ∈ pts z) => pts_le h
    refine ⟨_, rfl, .inl rfl, ?_⟩
    unfold resV at hz
    by_cases hn : z = tNone
    · rw [if_pos hn] at hz
      cases hz
      refine ifz_yes (c := decide (z = tNone)) (decide_eq_true hn) ?_
      exact ⟨_, rfl, by show 0 ≤ 1000000; decide, q⟩
    · rw [if_neg hn] at hz
      refine ifz_no (c := decide (z = tNone)) (decide_eq_false hn) ?_
      have good : ∀ j, j < (pts z).length → badP false (pts z) j = false := fun j hj => by
        cases e : scan false (pts z) with
        | some i => rw [e] at hz; cases hz
        | none =>
          unfold scan at e
          rw [List.find?_eq_none] at e
          have := e j (List.mem_range.mpr hj)
          rwa [Bool.not_eq_true] at this
      rw [scan_none good] at hz
      cases hz
      have few := good_few good
      refine ⟨_, rfl, by show 0 ≤ 1000000; decide, fun a => ?_⟩
      refine ⟨⟨spc_ne, by omega⟩, rfl, fun k s ρ => ∃ x2 x3 : Sl, ρ = [.im (.str z), .ow a (nD (((pts z).take k).map val)), x2, x3], ⟨_, _, rfl⟩, ?_, ?_⟩
      · rintro k d s ρ hd ⟨x2, x3, rfl⟩
        obtain ⟨p, hp, rfl⟩ := enum_strs (P := pts z) hd
        have hk := (List.getElem?_eq_some_iff.mp hp).1
        have gk := good k hk
        obtain ⟨k24, vt⟩ := good_at gk
        unfold badP at gk
        rw [prt_at hp] at vt gk
        have nin : decide (val p ∈ ((pts z).take k).map val) = false := by
          simp only [Bool.or_eq_false_iff, Bool.and_eq_false_iff, Bool.not_eq_false'] at gk
          rcases gk.2.2 with h | h
          · cases h
          · exact h
        have lp := pl (List.mem_of_getElem? hp)
        obtain ⟨dg, l2⟩ := vt_dg vt
        refine ifz_no (c := decide (((k : Nat) : Int) = 24)) (decide_eq_false (by omega)) ?_
        refine ⟨p, rfl, by omega, .inl rfl, ?_⟩
        rw [vt]
        refine ifz_no (c := !true) rfl ?_
        refine ⟨_, num_int dg (by omega), by omega, rfl, sh_nD _, ?_⟩
        refine ifz_no (c := false != (nD (((pts z).take k).map val)).any fun z => PyData.eqv z (.int (val p : Nat))) (by rw [any_nD, nin]; rfl) ?_
        refine ⟨_, num_int dg (by omega), by omega, _, rfl, by rw [nD_len, List.length_map, List.length_take]; omega, .im (.int (k : Nat)), .im (.str p), ?_⟩
        rw [take_map hp, nD_snocA]
        rfl
      · rintro s ρ ⟨x2, x3, rfl⟩
        rw [show (enumD ((Txt.split z (Str.ofString " ")).map PyData.str)).length = (pts z).length from enum_len (pts z), List.take_length]
        exact q
theorem okX_pV (M : Mk K mg "parse_vertices" s_parse_vertices p_parse_vertices) (R_BadText : ErrF P w K mg base "BadText" "index" C) (dX_check_string : Df P w K mg base (L2N.CX P w) 3 "check_string" p_check_string (spX Z0 (fChkX C))) (d_check_string : Df P w K mg base CX0 1 "check_string" p_check_string (spD Z0 fChkS)) (d_is_vertex_text : Df P w K mg base CX0 2 "is_vertex_text" p_is_vertex_text (spD Z0 fVtA)) {tc : Tok} (g_MAX_VERTICES : mg "MAX_VERTICES" = some (.int 24 tc)) (m_enumerate : mg "enumerate" = none) (m_int : mg "int" = none) (m_tuple : mg "tuple" = none) : Df P w K mg base (L2N.CX P w) 4 "parse_vertices" p_parse_vertices (spX Z0 (fPVX C)) := by
  have nd := sc_parse_vertices.nd
  refine def_okXN (k := 3) M sc_parse_vertices (by decide) ?_ (fun f cdv A outer s H E hr => have hu := hu65 hr; (dxs_or (dx_cons (dx_expr (dxe_callN (L2N.takes_of rfl rfl rfl rfl) dX_check_string hr (da_cons (dv 0) da_nil))) (dxs_of dss_nev)) (dx_cons (dx_of (ds_expr (de_callP d_check_string pass0 hr (da_cons (dv 0) da_nil))))
      (dx_cons (dx_of (ds_if (dt_eq hu (dv 0) de_str) (ds_one (ds_ret (de_tup da_nil))) ds_nil))
      (dx_cons (dx_of (ds_set (i := 1) nd rfl (.inl rfl) (de_lst da_nil)))
      (dx_cons (dx_for (passes_of rfl) rfl (di_enumQ (by rfl) m_enumerate (da_cons (de_split (dv 0) de_str) da_nil)) (dg_tup rfl nd (.cons (i := 2) rfl (.inl rfl) (.inl rfl) rfl (.cons (i := 3) rfl (.inl rfl) (.inl rfl) rfl .nil)))
      (dx_cons (dx_if (PW.pt (dw_or (dt_eq hu (dv 2) (de_gi (by rfl) g_MAX_VERTICES)) (dw_or (dt_not (dt_val (de_callP d_is_vertex_text pass0 hr (da_cons (dv 3) da_nil)))) (dw_or1 (dt_in hu (de_intS (by rfl) m_int (da_cons (dv 3) da_nil)) (dv 1)))))) (dx_one (dx_raiseN (L2N.takes_of rfl rfl rfl rfl) rfl R_BadText hr (da_cons (dv 2) da_nil))) dx_nil)
      (dxs_of (ds_one (ds_mt (i := 1) m2_app PySem.F.slot_list_append PySem.F.type_list_append mt_append rfl (by first | exact Or.inl rfl | exact Or.inr (Or.inl rfl) | exact Or.inr (Or.inr rfl)) (da_cons (de_intS (by rfl) m_int (da_cons (dv 3) da_nil)) da_nil))))))
      (dxs_of (ds_one (ds_ret (de_tuple (by rfl) m_tuple (da_cons (dv 1) da_nil))))))))))) ?_
  · rintro s as Qd Xd (⟨d, rfl, _⟩ | ⟨z, i, rfl, _⟩) <;> rfl
  · rintro s as Qd Xd (⟨d, rfl, ty, q⟩ | ⟨z, i, rfl, hl, hz, q⟩)
    · exact .inl ⟨d, rfl, ty, .inl rfl, q⟩
    · refine .inr ?_
      have pl := fun {p} (h : p ∈ pts z) => pts_le h
      have pm := pts_many z
      refine ⟨_, rfl, .inl rfl, ?_⟩
      unfold resV at hz
      by_cases hn : z = tNone
      · rw [if_pos hn] at hz
        cases hz
      rw [if_neg hn] at hz
      refine ifz_no (c := decide (z = tNone)) (decide_eq_false hn) ?_
      refine ⟨_, rfl, by show 0 ≤ 1000000; decide, fun a => ?_⟩
      refine ⟨⟨spc_ne, by omega⟩, rfl, fun k s ρ => ∃ x2 x3 : Sl, ρ = [.im (.str z), .ow a (nD (((pts z).take k).map val)), x2, x3] ∧ ∀ j, j < k → badP false (pts z) j = false, ⟨_, _, rfl, fun j hj => absurd hj (Nat.not_lt_zero _)⟩, ?_, ?_⟩
      · rintro k d s ρ hd ⟨x2, x3, rfl, ok⟩
        obtain ⟨p, hp, rfl⟩ := enum_strs (P := pts z) hd
        have hk := (List.getElem?_eq_some_iff.mp hp).1
        have lp := pl (List.mem_of_getElem? hp)
        have ePrt := prt_at hp
        have hit : badP false (pts z) k = true → Xd C (some ("index", .int (k : Nat))) s := fun hb => by
          rw [scan_some hk hb ok] at hz
          cases hz
          exact q
        by_cases k24 : k = 24
        · refine ifz_yes (c := decide (((k : Nat) : Int) = 24)) (decide_eq_true (by omega)) ?_
          refine ⟨_, _, rfl, rfl, hit ?_⟩
          unfold badP
          rw [decide_eq_true k24, Bool.true_or]
        · refine ifz_no (c := decide (((k : Nat) : Int) = 24)) (decide_eq_false (by omega)) ?_
          refine ⟨p, rfl, by omega, .inl rfl, ?_⟩
          cases vt : vtB p with
          | false =>
            refine ifz_yes (c := !false) rfl ?_
            refine ⟨_, _, rfl, rfl, hit ?_⟩
            unfold badP
            rw [ePrt, vt, decide_eq_false k24]
            rfl
          | true =>
            obtain ⟨dg, l2⟩ := vt_dg vt
            refine ifz_no (c := !true) rfl ?_
            have tl : (((pts z).take k).map val).length ≤ 100001 := by rw [List.length_map, List.length_take]; omega
            refine ⟨_, num_int dg (by omega), by omega, rfl, sh_nD _, ?_⟩
            cases inn : decide (val p ∈ ((pts z).take k).map val) with
            | true =>
              refine ifz_yes (c := false != (nD (((pts z).take k).map val)).any fun z => PyData.eqv z (.int (val p : Nat))) (by rw [any_nD, inn]; rfl) ?_
              refine ⟨_, _, rfl, rfl, hit ?_⟩
              unfold badP
              rw [ePrt, vt, decide_eq_false k24, inn]
              rfl
            | false =>
              refine ifz_no (c := false != (nD (((pts z).take k).map val)).any fun z => PyData.eqv z (.int (val p : Nat))) (by rw [any_nD, inn]; rfl) ?_
              refine ⟨_, num_int dg (by omega), by omega, _, rfl, by rw [nD_len]; omega, .im (.int (k : Nat)), .im (.str p), ?_, fun j hj => ?_⟩
              · rw [take_map hp, nD_snocA]
                rfl
              · by_cases e : j = k
                · subst e
                  unfold badP
                  rw [ePrt, vt, decide_eq_false k24, inn]
                  rfl
                · exact ok j (by omega)
      · rintro s ρ ⟨x2, x3, rfl, ok⟩
        rw [show (enumD ((Txt.split z (Str.ofString " ")).map PyData.str)).length = (pts z).length from enum_len (pts z)] at ok
        rw [scan_none ok] at hz
        cases hz
abbrev s_parse_history_part : Stmt := topS (19)
abbrev N_parse_history_part : List Str := ["text"]
abbrev p_parse_history_part : List Str := ["text"]
theorem sc_parse_history_part : FnScope N_parse_history_part p_parse_history_part (defScope s_parse_history_part) := ⟨rfl, rfl, rfl, by decide +kernel, rfl, by decide +kernel, by decide +kernel⟩
theorem ok_pH (M : Mk K mg "parse_history_part" s_parse_history_part p_parse_history_part) (d_parse_vertices : Df P w K mg base CX0 3 "parse_vertices" p_parse_vertices (spD Z0 fPV)) : Df P w K mg base CX0 4 "parse_history_part" p_parse_history_part (spD Z0 fPV) := by
  have nd := sc_parse_history_part.nd
  refine def_ok (k := 3) M sc_parse_history_part (by decide) ?_ (fun f cdv A outer s H E hr => have hu := hu65 hr; (ds_one (ds_thru (ds_one (ds_ret (de_callP d_parse_vertices pass0 hr (da_cons (dv 0) da_nil))))))) ?_
  · rintro s as Qd ⟨z, l, rfl, _⟩; rfl
  · rintro s as Qd ⟨z, l, rfl, hl, hz, q⟩
    exact ⟨z, l, rfl, hl, hz, .inl rfl, q⟩
theorem okX_pH (M : Mk K mg "parse_history_part" s_parse_history_part p_parse_history_part) (R_BadText : ErrF P w K mg base "BadText" "index" C) (RH : ErrH P w K mg base "BadText" "index" C) (exm : PySem.W.exmOne K (.ref C) (.ref C) = some true) (dX_parse_vertices : Df P w K mg base (L2N.CX P w) 4 "parse_vertices" p_parse_vertices (spX Z0 (fPVX C))) : Df P w K mg base (L2.CX P w) 5 "parse_history_part" p_parse_history_part (spX Z0 (fPHX C)) := by
  obtain ⟨f, fd, F, b, g⟩ := M
  refine Df.of F b g (F.okX sc_parse_history_part (fun vs H Q E h => ?_) (fun cdv A outer s H vs Q E hr h => ?_))
  · obtain ⟨B0, s0, as, Qd, Xd, _, _, ha, ⟨z, i, rfl, _⟩, _⟩ := h
    exact ha.length
  · obtain ⟨B0, s0, as, Qd, Xd, ok, hB, ha, ⟨z, i, rfl, hl, hz, q⟩, hq, hx⟩ := h
    obtain rfl : vs = [.str z] := by
      cases ha with
      | cons h1 t =>
        cases t
        cases (show Im (Bad Z0 B0 []) H _ (.str z) from h1)
        rfl
    refine ⟨_, pss_one (L2H.ps_try_onlyX (Wout := fun cls d _ H' => E cls d H') (ts := fun _ _ _ _ σ H0 => tMkO C (spInit K C (Str.ofString "index")) [] (tCons (tC (V.int 0)) tNil) σ H0 fun cls d H' => E cls d H') rfl rfl ⟨rfl, by decide, .inl R_BadText.g⟩ (L2H.passesAt_of rfl) (takes_of rfl rfl rfl rfl)
        (fun W pn xe tk _ _ => pss_one (ps_ret (pe_dS dX_parse_vertices hr (fun σ => L2N.passAt tk σ) (pa_cons (pv 0) pa_nil))))
        (fun a oe cls d pn hz hf tk hot => pss_one (L2H.ps_raiseHN hot tk (pmk_errH RH (L2H.roomH_mark (hr.mono (by decide)) _) hot (pa_cons pe_int pa_nil))))), ?_⟩
    refine ⟨.str z, rfl, B0, s0, [.im (.str z)], fun _ _ => False, fun C' o _ => C' = C, ok, hB, ha, .inr ⟨z, i, rfl, hl, hz, rfl⟩, fun r s' v H' hr => hr.elim, fun C' o s' dx H' hx' ok' g' er => ?_⟩
    obtain rfl : C' = C := hx'
    refine ⟨true, exm, fun _ _ _ => ?_, fun z => nomatch z⟩
    refine ⟨by show 1 ≤ 1000; decide, fun a na => ⟨a, .int 0, rfl, upd_same, fun dx nd ne => ⟨rfl, made_out (f := "index") (v := .int 0) (Q := fun cls d H' => E cls d H') (Same.refl H') (fun d' H2 sm n1 h1 => ?_) a na dx nd ne⟩⟩⟩
    exact hx C' (some ("index", .int 0)) s0 (some d') H2 q trivial (g'.trans (Gr.of sm)) ⟨.int 0, h1, Im.int 0⟩
end
end Lf
namespace Lf
open PySem PySem.Spec PyProof.Rows L2
/-! ### texts.py: parse_certificate, for any texts -/
--@strint
--@inttext
--@thru
--@call is_vertex_text P pass0
--@call check_string P pass0
--@call parse_history_part P pass0
section
variable {X : Cx} {a b : Expr} {x : V} {x1} {pos : Pos} {R : L2.St → Hp → Prop}
theorem rz_tup2 (ha : PE X a (tC x)) (hb : PE X b (tRz R)) (h1 : starEach [a, b] X.env = (false, eval a X.env) :: starEach [b] X.env := by rfl) (h2 : starEach [b] X.env = (false, eval b X.env) :: starEach [] X.env := by rfl) : PE X (.Tuple [a, b] x1 pos) (tRz R) :=
  PE.of (pe_tup (pa_cons ha (pa_cons hb pa_nil h2) h1)) fun σ H Q h => h
end
section
variable {P : Program} {w : World} {K : PySem.W.Frag} {mg : Str → Option Value} {base : Heap} {C : Addr}
abbrev s_parse_certificate : Stmt := topS (18)
abbrev N_parse_certificate : List Str := ["value", "word", "space", "rest"]
abbrev p_parse_certificate : List Str := ["value"]
theorem sc_parse_certificate : FnScope N_parse_certificate p_parse_certificate (defScope s_parse_certificate) := ⟨rfl, rfl, rfl, by decide +kernel, rfl, by decide +kernel, by decide +kernel⟩
theorem ok_pC (M : Mk K mg "parse_certificate" s_parse_certificate p_parse_certificate) (d_check_string : Df P w K mg base CX0 1 "check_string" p_check_string (spD Z0 fChkS)) (d_is_vertex_text : Df P w K mg base CX0 2 "is_vertex_text" p_is_vertex_text (spD Z0 fVtA)) (d_parse_history_part : Df P w K mg base CX0 4 "parse_history_part" p_parse_history_part (spD Z0 fPV)) (m_int : mg "int" = none) : Df P w K mg base CX0 5 "parse_certificate" p_parse_certificate (spD Z0 fPC) := by
  have nd := sc_parse_certificate.nd
  refine def_ok (k := 4) M sc_parse_certificate (by decide) ?_ (fun f cdv A outer s H E hr => have hu := hu65 hr; (ds_cons (ds_expr (de_callP d_check_string pass0 hr (da_cons (dv 0) da_nil)))
      (ds_cons (ds_asg (de_partition (dv 0) de_str) (dg_tup rfl nd (.cons (i := 1) rfl (.inl rfl) (.inl rfl) rfl (.cons (i := 2) rfl (.inl rfl) (.inl rfl) rfl (.cons (i := 3) rfl (.inl rfl) (.inl rfl) rfl .nil)))))
      (ds_cons (ds_if (dt_eq hu (dv 1) de_str) (ds_one (ds_ret (de_tup (da_cons de_str (da_cons (de_callP d_parse_history_part pass0 hr (da_cons (dv 3) da_nil)) da_nil))))) ds_nil)
      (ds_cons (ds_if (dt_ne hu (dv 1) de_str) (ds_one ds_never) ds_nil)
      (ds_cons (ds_if (dt_not (dt_val (de_callP d_is_vertex_text pass0 hr (da_cons (dv 3) da_nil)))) (ds_one ds_never) ds_nil)
      (ds_one (ds_ret (de_tup (da_cons de_str (da_cons (de_intS (by rfl) m_int (da_cons (dv 3) da_nil)) da_nil))))))))))) ?_
  · rintro s as Qd ⟨z, l, rfl, _⟩; rfl
  · rintro s as Qd ⟨z, l, rfl, hl, hz, q⟩
    have lr := rst_len z
    refine ⟨_, rfl, .inl rfl, ⟨spc_ne, by omega⟩, ?_⟩
    unfold ansC at hz
    show if decide (wrd z = tHis) = true then _ else _
    by_cases h1 : wrd z = tHis
    · rw [if_pos h1] at hz
      refine ifz_yes (c := decide (wrd z = tHis)) (decide_eq_true h1) ?_
      cases e : resV (rst z) with
      | inl i => rw [e] at hz; cases hz
      | inr l' =>
        rw [e] at hz
        cases hz
        exact ⟨rst z, l', rfl, by omega, e, .inl rfl, _, rfl, by show 2 ≤ 1000000; decide, q⟩
    · rw [if_neg h1] at hz
      refine ifz_no (c := decide (wrd z = tHis)) (decide_eq_false h1) ?_
      by_cases h2 : wrd z = tHvy
      · rw [if_pos h2] at hz
        refine ifz_no (c := !decide (wrd z = tHvy)) (by rw [decide_eq_true h2]; rfl) ?_
        refine ⟨rst z, rfl, by omega, .inl rfl, ?_⟩
        by_cases vt : vtB (rst z) = true
        · rw [if_pos vt] at hz
          cases hz
          obtain ⟨dg, l2⟩ := vt_dg vt
          rw [vt]
          refine ifz_no (c := !true) rfl ?_
          exact ⟨_, num_int (z := rst z) dg (by omega), by show (rst z).length ≤ 640; omega, _, rfl, by show 2 ≤ 1000000; decide, q⟩
        · rw [if_neg vt] at hz
          cases hz
      · rw [if_neg h2] at hz
        cases hz
theorem okX_pC (M : Mk K mg "parse_certificate" s_parse_certificate p_parse_certificate) (R_BadText : ErrF P w K mg base "BadText" "index" C) (dX_check_string : Df P w K mg base (L2.CX P w) 3 "check_string" p_check_string (spX Z0 (fChkX C))) (d_check_string : Df P w K mg base CX0 1 "check_string" p_check_string (spD Z0 fChkS)) (d_is_vertex_text : Df P w K mg base CX0 2 "is_vertex_text" p_is_vertex_text (spD Z0 fVtA)) (d_parse_history_part : Df P w K mg base CX0 4 "parse_history_part" p_parse_history_part (spD Z0 fPV)) (dX_parse_history_part : Df P w K mg base (L2.CX P w) 5 "parse_history_part" p_parse_history_part (spX Z0 (fPHX C))) (m_int : mg "int" = none) : Df P w K mg base (L2.CX P w) 6 "parse_certificate" p_parse_certificate (spX Z0 (fPCX C)) := by
  have nd := sc_parse_certificate.nd
  refine def_okX (k := 5) M sc_parse_certificate (by decide) ?_ (fun f cdv A outer s H E hr => have hu := hu65 hr; (dxs_or (dx_cons (dx_expr (dxe_call (takes_of rfl rfl rfl rfl) dX_check_string hr (da_cons (dv 0) da_nil))) (dxs_of dss_nev)) (dxs_or (dx_cons (dx_of (ds_expr (de_callP d_check_string pass0 hr (da_cons (dv 0) da_nil))))
      (dx_cons (dx_of (ds_asg (de_partition (dv 0) de_str) (dg_tup rfl nd (.cons (i := 1) rfl (.inl rfl) (.inl rfl) rfl (.cons (i := 2) rfl (.inl rfl) (.inl rfl) rfl (.cons (i := 3) rfl (.inl rfl) (.inl rfl) rfl .nil))))))
      (dx_cons (dx_if (dt_eq hu (dv 1) de_str) (dx_one (dx_ret (rz_to (rz_tup2 pe_str (rz_of (dxe_call (takes_of rfl rfl rfl rfl) dX_parse_history_part hr (da_cons (dv 3) da_nil))))))) dx_nil) (dxs_of dss_nev)))) (dx_cons (dx_of (ds_expr (de_callP d_check_string pass0 hr (da_cons (dv 0) da_nil))))
      (dx_cons (dx_of (ds_asg (de_partition (dv 0) de_str) (dg_tup rfl nd (.cons (i := 1) rfl (.inl rfl) (.inl rfl) rfl (.cons (i := 2) rfl (.inl rfl) (.inl rfl) rfl (.cons (i := 3) rfl (.inl rfl) (.inl rfl) rfl .nil))))))
      (dx_cons (dx_of (ds_if (dt_eq hu (dv 1) de_str) (ds_one (ds_ret (de_tup (da_cons de_str (da_cons (de_callP d_parse_history_part pass0 hr (da_cons (dv 3) da_nil)) da_nil))))) ds_nil))
      (dx_cons (dx_if (dt_ne hu (dv 1) de_str) (dx_one (dx_raise (takes_of rfl rfl rfl rfl) rfl R_BadText hr (da_cons de_non da_nil))) dx_nil)
      (dx_cons (dx_if (dt_not (dt_val (de_callP d_is_vertex_text pass0 hr (da_cons (dv 3) da_nil)))) (dx_one (dx_raise (takes_of rfl rfl rfl rfl) rfl R_BadText hr (da_cons de_int da_nil))) dx_nil)
      (dxs_of (ds_one (ds_ret (de_tup (da_cons de_str (da_cons (de_intS (by rfl) m_int (da_cons (dv 3) da_nil)) da_nil)))))))))))))) ?_
  · rintro s as Qd Xd (⟨d, rfl, _⟩ | ⟨z, x, rfl, _⟩) <;> rfl
  · rintro s as Qd Xd (⟨d, rfl, ty, q⟩ | ⟨z, x, rfl, hl, hz, q⟩)
    · exact .inl ⟨d, rfl, ty, .inl rfl, q⟩
    · have lr := rst_len z
      unfold ansC at hz
      by_cases h1 : wrd z = tHis
      · rw [if_pos h1] at hz
        refine .inr (.inl ?_)
        refine ⟨_, rfl, .inl rfl, ⟨spc_ne, by omega⟩, ?_⟩
        show if decide (wrd z = tHis) = true then _ else _
        refine ifz_yes (c := decide (wrd z = tHis)) (decide_eq_true h1) ?_
        cases e : resV (rst z) with
        | inr l' => rw [e] at hz; cases hz
        | inl i =>
          rw [e] at hz
          cases hz
          exact ⟨rst z, i, rfl, by omega, e, .inl rfl, q⟩
      · rw [if_neg h1] at hz
        refine .inr (.inr ?_)
        refine ⟨_, rfl, .inl rfl, ⟨spc_ne, by omega⟩, ?_⟩
        show if decide (wrd z = tHis) = true then _ else _
        refine ifz_no (c := decide (wrd z = tHis)) (decide_eq_false h1) ?_
        by_cases h2 : wrd z = tHvy
        · rw [if_pos h2] at hz
          refine ifz_no (c := !decide (wrd z = tHvy)) (by rw [decide_eq_true h2]; rfl) ?_
          refine ⟨rst z, rfl, by omega, .inl rfl, ?_⟩
          cases vt : vtB (rst z) with
          | true => rw [if_pos vt] at hz; cases hz
          | false =>
            rw [if_neg (by rw [vt]; decide)] at hz
            cases hz
            refine ifz_yes (c := !false) rfl ?_
            exact ⟨_, _, rfl, rfl, q⟩
        · rw [if_neg h2] at hz
          cases hz
          refine ifz_yes (c := !decide (wrd z = tHvy)) (by rw [decide_eq_false h2]; rfl) ?_
          exact ⟨_, _, rfl, rfl, q⟩
end
end Lf
namespace Lf
/-! ### weights: plain mathematics -/
theorem rg_filter_succ {k : Nat} (p : Nat → Bool) : (List.range (k + 1)).filter p = if p k = true then (List.range k).filter p ++ [k] else (List.range k).filter p := by
  rw [List.range_succ, List.filter_append]
  by_cases h : p k = true
  · rw [if_pos h, List.filter_cons_of_pos h]
    rfl
  · rw [if_neg h, List.filter_cons_of_neg h]
    simp
section
open Classical
/-- how many of the first k vertices have v on their way -/
noncomputable def cnt (fs : List Nat) (v k : Nat) : Nat := ((List.range k).filter fun u => decide (Bel fs v u)).length
theorem cnt_zero (fs : List Nat) (v : Nat) : cnt fs v 0 = 0 := rfl
theorem cnt_succ (fs : List Nat) (v k : Nat) : cnt fs v (k + 1) = cnt fs v k + (if Bel fs v k then 1 else 0) := by
  unfold cnt
  rw [rg_filter_succ]
  by_cases h : Bel fs v k
  · rw [if_pos (decide_eq_true h), if_pos h, List.length_append]
    rfl
  · rw [if_neg (fun z => h (of_decide_eq_true z)), if_neg h]
    rfl
end
theorem same_len {l m : List Nat} (hl : l.Nodup) (hm : m.Nodup) (h : ∀ u, u ∈ l ↔ u ∈ m) : l.length = m.length := ((List.perm_ext_iff_of_nodup hl hm).mpr h).length_eq
open Classical in
theorem cnt_of {fs : List Nat} {v : Nat} {l : List Nat} (nd : l.Nodup) (h : ∀ u, u ∈ l ↔ u < fs.length ∧ Bel fs v u) : cnt fs v fs.length = l.length := by
  unfold cnt
  refine same_len (List.Pairwise.filter _ List.nodup_range) nd fun u => ?_
  rw [h, List.mem_filter, List.mem_range, decide_eq_true_iff]
/-- the weight of v -/
noncomputable abbrev wt (fs : List Nat) (v : Nat) : Nat := cnt fs v fs.length
/-! sums -/
theorem sum_add {α : Type} (f g : α → Nat) : ∀ l : List α, (l.map fun x => f x + g x).sum = (l.map f).sum + (l.map g).sum
  | [] => rfl
  | x :: l => by
    have := sum_add f g l
    simp only [List.map_cons, List.sum_cons]
    omega
theorem sum_zero {α : Type} {f : α → Nat} : ∀ {l : List α}, (∀ x ∈ l, f x = 0) → (l.map f).sum = 0
  | [], _ => rfl
  | x :: l, h => by
    have := sum_zero (f := f) (l := l) fun y hy => h y (List.mem_cons_of_mem _ hy)
    have := h x List.mem_cons_self
    simp only [List.map_cons, List.sum_cons]
    omega
theorem sum_congr {α : Type} {f g : α → Nat} : ∀ {l : List α}, (∀ x ∈ l, f x = g x) → (l.map f).sum = (l.map g).sum
  | [], _ => rfl
  | x :: l, h => by
    have := sum_congr (f := f) (g := g) (l := l) fun y hy => h y (List.mem_cons_of_mem _ hy)
    have := h x List.mem_cons_self
    simp only [List.map_cons, List.sum_cons]
    omega
theorem sum_le {α : Type} {f g : α → Nat} : ∀ {l : List α}, (∀ x ∈ l, f x ≤ g x) → (l.map f).sum ≤ (l.map g).sum
  | [], _ => Nat.le_refl _
  | x :: l, h => by
    have := sum_le (f := f) (g := g) (l := l) fun y hy => h y (List.mem_cons_of_mem _ hy)
    have := h x List.mem_cons_self
    simp only [List.map_cons, List.sum_cons]
    omega
theorem sum_swap {α β : Type} (f : α → β → Nat) (ds : List β) : ∀ us : List α, (us.map fun u => (ds.map fun d => f u d).sum).sum = (ds.map fun d => (us.map fun u => f u d).sum).sum
  | [] => (sum_zero fun _ _ => rfl).symm
  | u :: us => by
    have := sum_swap f ds us
    simp only [List.map_cons, List.sum_cons]
    rw [sum_add, this]
theorem sum_mem {α : Type} {f : α → Nat} {x : α} : ∀ {l : List α}, x ∈ l → f x ≤ (l.map f).sum
  | y :: l, h => by
    simp only [List.map_cons, List.sum_cons]
    rcases List.mem_cons.mp h with z | z
    · subst z
      omega
    · have := sum_mem (f := f) z
      omega
theorem len_sum {α : Type} (p : α → Bool) : ∀ l : List α, (l.filter p).length = (l.map fun x => if p x = true then 1 else 0).sum
  | [] => rfl
  | x :: l => by
    have := len_sum p l
    simp only [List.map_cons, List.sum_cons]
    by_cases h : p x = true
    · rw [List.filter_cons_of_pos h, List.length_cons, if_pos h]
      omega
    · rw [List.filter_cons_of_neg h, if_neg h]
      omega
theorem filter_sum {α : Type} (p : α → Bool) (f : α → Nat) : ∀ l : List α, ((l.filter p).map f).sum = (l.map fun x => if p x = true then f x else 0).sum
  | [] => rfl
  | x :: l => by
    have := filter_sum p f l
    simp only [List.map_cons, List.sum_cons]
    by_cases h : p x = true
    · rw [List.filter_cons_of_pos h, List.map_cons, List.sum_cons, if_pos h]
      omega
    · rw [List.filter_cons_of_neg h, if_neg h]
      omega
open Classical in
theorem sum_one {l : List Nat} {p : Nat → Prop} {d : Nat} (nd : l.Nodup) (hd : d ∈ l) (pd : p d) (h : ∀ e ∈ l, p e → e = d) : (l.map fun e => if p e then 1 else 0).sum = 1 := by
  induction l with
  | nil => cases hd
  | cons x l ih =>
    simp only [List.map_cons, List.sum_cons]
    obtain ⟨n1, n2⟩ := List.nodup_cons.mp nd
    by_cases z : x = d
    · subst z
      rw [if_pos pd, sum_zero]
      intro e he
      rw [if_neg]
      intro pe
      exact n1 (h e (List.mem_cons_of_mem _ he) pe ▸ he)
    · have hd' : d ∈ l := by
        rcases List.mem_cons.mp hd with y | y
        · exact absurd y.symm z
        · exact y
      rw [if_neg (fun px => z (h x List.mem_cons_self px)), ih n2 hd' fun e he pe => h e (List.mem_cons_of_mem _ he) pe]
/-! the tree of a vertex: the vertex and the trees of its children -/
theorem Bel.trans {fs : List Nat} {a b c : Nat} (h : Bel fs a b) (g : Bel fs b c) : Bel fs a c := by
  induction g with
  | refl => exact h
  | step n _ ih => exact .step n ih
theorem Bel.comp {fs : List Nat} {a b u : Nat} (h : Bel fs a u) (g : Bel fs b u) : Bel fs a b ∨ Bel fs b a := by
  induction h with
  | refl => exact .inr g
  | step n h ih =>
    cases g with
    | refl => exact .inl (.step n h)
    | step _ g => exact ih g
theorem bel_kid {fs : List Nat} {v u : Nat} (h : Bel fs v u) (ne : u ≠ v) (rng : ∀ v, v < fs.length → par fs v < fs.length) (hu : u < fs.length) : ∃ d, d ∈ kids fs v ∧ Bel fs d u := by
  induction h with
  | refl => exact absurd rfl ne
  | @step u n h ih =>
    by_cases z : par fs u = v
    · exact ⟨u, mem_kids.mpr ⟨hu, z, fun e => n e.symm⟩, .refl⟩
    · obtain ⟨d, h1, h2⟩ := ih z (rng _ hu)
      exact ⟨d, h1, .step n h2⟩
theorem kids_nodup (fs : List Nat) (y : Nat) : (kids fs y).Nodup := List.Pairwise.filter _ List.nodup_range
open Classical in
theorem wt_kids {fs : List Nat} (F : Forest fs) {v : Nat} (hv : v < fs.length) : wt fs v = 1 + ((kids fs v).map (wt fs)).sum := by
  have e0 : ∀ d, wt fs d = ((List.range fs.length).map fun u => if Bel fs d u then 1 else 0).sum := fun d => by
    show ((List.range fs.length).filter _).length = _
    rw [len_sum]
    exact sum_congr fun u _ => by by_cases z : Bel fs d u <;> simp [z]
  have step : ∀ u ∈ List.range fs.length, (if Bel fs v u then 1 else 0) = (if u = v then 1 else 0) + ((kids fs v).map fun d => if Bel fs d u then 1 else 0).sum := fun u hu => by
    have hu := List.mem_range.mp hu
    by_cases ne : u = v
    · subst ne
      rw [if_pos .refl, if_pos rfl, sum_zero]
      intro d hd
      obtain ⟨k1, k2, k3⟩ := mem_kids.mp hd
      rw [if_neg]
      intro b
      rw [← k2] at b
      exact Bel.no (F.rch d k1) (fun e => k3 e.symm) b
    · rw [if_neg ne]
      by_cases b : Bel fs v u
      · obtain ⟨d, hd, bd⟩ := bel_kid b ne F.rng hu
        rw [if_pos b, sum_one (p := fun d => Bel fs d u) (kids_nodup fs v) hd bd]
        intro e he be
        obtain ⟨k1, k2, k3⟩ := mem_kids.mp hd
        obtain ⟨j1, j2, j3⟩ := mem_kids.mp he
        rcases be.comp bd with z | z
        · cases z with
          | refl => rfl
          | step _ z =>
            rw [k2] at z
            rw [← j2] at z
            exact absurd z (Bel.no (F.rch e j1) (fun e => j3 e.symm))
        · cases z with
          | refl => rfl
          | step _ z =>
            rw [j2] at z
            rw [← k2] at z
            exact absurd z (Bel.no (F.rch d k1) (fun e => k3 e.symm))
      · rw [if_neg b, sum_zero]
        intro d hd
        obtain ⟨k1, k2, k3⟩ := mem_kids.mp hd
        rw [if_neg]
        intro bd
        exact b (Bel.trans (.step (fun e => k3 e.symm) (by rw [k2]; exact .refl)) bd)
  rw [e0 v, sum_congr step, sum_add, sum_swap]
  have e1 : ((List.range fs.length).map fun u => if u = v then 1 else 0).sum = 1 := (sum_congr fun u _ => by by_cases z : u = v <;> simp [z]).trans (sum_one (p := fun u => u = v) List.nodup_range (List.mem_range.mpr hv) rfl fun e _ h => h)
  rw [e1]
  congr 1
  exact sum_congr fun d _ => (e0 d).symm
theorem wt_pos {fs : List Nat} (F : Forest fs) {v : Nat} (hv : v < fs.length) : 0 < wt fs v := by
  have := wt_kids F hv
  omega
theorem wt_lt {fs : List Nat} (F : Forest fs) {v d : Nat} (hv : v < fs.length) (hd : d ∈ kids fs v) : wt fs d < wt fs v := by
  have := wt_kids F hv
  have := sum_mem (f := wt fs) hd
  omega
/-! ### states on the way: S holds the vertices that are joined -/
noncomputable section
open Classical
def there (fs S : List Nat) : List Nat := (List.range fs.length).map fun v => if v ∈ S then par fs v else v
theorem there_length (fs S : List Nat) : (there fs S).length = fs.length := by unfold there; rw [List.length_map, List.length_range]
theorem par_there {fs S : List Nat} {v : Nat} (h : v < fs.length) : par (there fs S) v = if v ∈ S then par fs v else v := by
  unfold there
  show List.getD _ v 0 = _
  rw [List.getD_eq_getElem?_getD, List.getElem?_map, List.getElem?_range h]
  rfl
theorem there_up {fs S : List Nat} {k v : Nat} (rng : ∀ v, v < fs.length → par fs v < fs.length) (r : Rch fs k v) : v < fs.length → Up (there fs S) v := by
  induction r with
  | @root v h =>
    intro hv
    refine .root ?_
    rw [par_there hv]
    by_cases z : v ∈ S
    · rw [if_pos z, h]
    · rw [if_neg z]
  | @step k v h _ ih =>
    intro hv
    by_cases z : v ∈ S
    · refine .step ?_
      rw [par_there hv, if_pos z]
      exact ih (rng _ hv)
    · exact .root (by rw [par_there hv, if_neg z])
theorem there_forest {fs : List Nat} (F : Forest fs) (S : List Nat) : Forest (there fs S) := by
  have l := there_length fs S
  refine ⟨by rw [l]; exact F.pos, by rw [l]; exact F.few, fun v hv => ?_, fun v hv => ?_⟩
  · rw [l] at hv ⊢
    rw [par_there hv]
    by_cases z : v ∈ S
    · rw [if_pos z]
      exact F.rng v hv
    · rw [if_neg z]
      exact hv
  · rw [l] at hv
    obtain ⟨k, r⟩ := F.rch v hv
    exact there_up F.rng r hv
/-- the weight of p's tree so far -/
def grown (fs S : List Nat) (p : Nat) : Nat := 1 + ((kids fs p).map fun d => if d ∈ S then wt fs d else 0).sum
/-- joined vertices are no roots, and their children are joined -/
structure DC (fs S : List Nat) : Prop where
  low : ∀ v ∈ S, v < fs.length ∧ par fs v ≠ v
  cls : ∀ v ∈ S, ∀ d ∈ kids fs v, d ∈ S
theorem kids_there {fs S : List Nat} (r : Nat) : kids (there fs S) r = (kids fs r).filter fun d => decide (d ∈ S) := by
  unfold kids
  rw [there_length, List.filter_filter]
  refine List.filter_congr fun u hu => ?_
  rw [par_there (List.mem_range.mp hu)]
  by_cases z : u ∈ S
  · simp [z]
  · simp [z]
theorem there_in {fs S : List Nat} (F : Forest fs) (D : DC fs S) : ∀ (n v : Nat), wt fs v ≤ n → v ∈ S → wt (there fs S) v = wt fs v := by
  intro n
  induction n with
  | zero =>
    intro v h hv
    have := wt_pos F (D.low v hv).1
    omega
  | succ n ih =>
    intro v h hv
    have l := (D.low v hv).1
    rw [wt_kids (there_forest F S) (by rw [there_length]; exact l), wt_kids F l, kids_there, filter_sum]
    congr 1
    refine sum_congr fun d hd => ?_
    have ds := D.cls v hv d hd
    rw [if_pos (decide_eq_true ds)]
    exact ih d (by have := wt_lt F l hd; omega) ds
theorem there_out {fs S : List Nat} (F : Forest fs) (D : DC fs S) {r : Nat} (hr : r < fs.length) : wt (there fs S) r = grown fs S r := by
  rw [wt_kids (there_forest F S) (by rw [there_length]; exact hr), kids_there, filter_sum]
  unfold grown
  congr 1
  refine sum_congr fun d _ => ?_
  by_cases z : d ∈ S
  · rw [if_pos (decide_eq_true z), if_pos z]
    exact there_in F D _ d (Nat.le_refl _) z
  · rw [if_neg (fun y => z (of_decide_eq_true y)), if_neg z]
/-- v can be joined -/
structure Can (fs S : List Nat) (v : Nat) : Prop where
  low : v < fs.length
  lo : par fs v ≠ v
  new : v ∉ S
  all : ∀ d ∈ kids fs v, d ∈ S
  fit : wt fs v ≤ grown fs S (par fs v)
/-- the tree of v is whole exactly if all its children are joined -/
theorem grown_all {fs S : List Nat} (F : Forest fs) {v : Nat} (hv : v < fs.length) : grown fs S v = wt fs v ↔ ∀ d ∈ kids fs v, d ∈ S := by
  rw [wt_kids F hv]
  unfold grown
  constructor
  · intro h d hd
    refine Classical.byContradiction fun z => ?_
    have key : ∀ (l : List Nat), d ∈ l → (∀ e ∈ l, e < fs.length) → (l.map fun d => if d ∈ S then wt fs d else 0).sum < (l.map (wt fs)).sum := by
      intro l
      induction l with
      | nil => intro y; cases y
      | cons x l ih =>
        intro y hl
        simp only [List.map_cons, List.sum_cons]
        have le : (if x ∈ S then wt fs x else 0) ≤ wt fs x := by
          by_cases q : x ∈ S
          · rw [if_pos q]; exact Nat.le_refl _
          · rw [if_neg q]; exact Nat.zero_le _
        have le2 : (l.map fun d => if d ∈ S then wt fs d else 0).sum ≤ (l.map (wt fs)).sum := sum_le fun e _ => by
          by_cases q : e ∈ S
          · rw [if_pos q]; exact Nat.le_refl _
          · rw [if_neg q]; exact Nat.zero_le _
        rcases List.mem_cons.mp y with q | q
        · subst q
          rw [if_neg z]
          have := wt_pos F (hl d List.mem_cons_self)
          omega
        · have := ih q fun e he => hl e (List.mem_cons_of_mem _ he)
          omega
    have := key (kids fs v) hd fun e he => (mem_kids.mp he).1
    omega
  · intro h
    congr 1
    exact sum_congr fun d hd => if_pos (h d hd)
theorem grown_le {fs S : List Nat} (F : Forest fs) {v : Nat} (hv : v < fs.length) : grown fs S v ≤ wt fs v := by
  rw [wt_kids F hv]
  unfold grown
  have := sum_le (l := kids fs v) (f := fun d => if d ∈ S then wt fs d else 0) (g := wt fs) fun e _ => by
    by_cases q : e ∈ S
    · rw [if_pos q]; exact Nat.le_refl _
    · rw [if_neg q]; exact Nat.zero_le _
  omega
theorem grown_set {fs S T : List Nat} (h : ∀ v, v ∈ S ↔ v ∈ T) (p : Nat) : grown fs S p = grown fs T p := by
  unfold grown
  congr 1
  exact sum_congr fun d _ => by
    by_cases z : d ∈ S
    · rw [if_pos z, if_pos ((h d).mp z)]
    · rw [if_neg z, if_neg (fun y => z ((h d).mpr y))]
theorem grown_mono {fs S T : List Nat} (h : ∀ v, v ∈ S → v ∈ T) (p : Nat) : grown fs S p ≤ grown fs T p := by
  unfold grown
  have := sum_le (l := kids fs p) (f := fun d => if d ∈ S then wt fs d else 0) (g := fun d => if d ∈ T then wt fs d else 0) fun e _ => by
    by_cases q : e ∈ S
    · rw [if_pos q, if_pos (h e q)]; exact Nat.le_refl _
    · rw [if_neg q]; exact Nat.zero_le _
  omega
/-- after v is joined, its parent weighs so much more -/
theorem grown_snoc {fs S : List Nat} {v : Nat} (hv : v < fs.length) (lo : par fs v ≠ v) (new : v ∉ S) (p : Nat) : grown fs (S ++ [v]) p = grown fs S p + (if p = par fs v then wt fs v else 0) := by
  unfold grown
  have key : ∀ (l : List Nat), l.Nodup → (l.map fun d => if d ∈ S ++ [v] then wt fs d else 0).sum = (l.map fun d => if d ∈ S then wt fs d else 0).sum + (if v ∈ l then wt fs v else 0) := by
    intro l
    induction l with
    | nil => intro _; rfl
    | cons x l ih =>
      intro nd
      obtain ⟨n1, n2⟩ := List.nodup_cons.mp nd
      simp only [List.map_cons, List.sum_cons]
      rw [ih n2]
      by_cases z : x = v
      · subst z
        rw [if_pos (List.mem_append_right _ (List.mem_singleton.mpr rfl)), if_neg new, if_neg n1, if_pos List.mem_cons_self]
        omega
      · have e1 : (x ∈ S ++ [v]) ↔ x ∈ S := by simp [z]
        have e2 : (v ∈ x :: l) ↔ v ∈ l := ⟨fun y => (List.mem_cons.mp y).elim (fun e => absurd e.symm z) id, List.mem_cons_of_mem _⟩
        by_cases q : x ∈ S
        · rw [if_pos (e1.mpr q), if_pos q]
          by_cases q2 : v ∈ l
          · rw [if_pos q2, if_pos (e2.mpr q2)]; omega
          · rw [if_neg q2, if_neg (fun y => q2 (e2.mp y))]; omega
        · rw [if_neg (fun y => q (e1.mp y)), if_neg q]
          by_cases q2 : v ∈ l
          · rw [if_pos q2, if_pos (e2.mpr q2)]; omega
          · rw [if_neg q2, if_neg (fun y => q2 (e2.mp y))]; omega
  rw [key _ (kids_nodup fs p)]
  have e : (v ∈ kids fs p) ↔ p = par fs v := by
    rw [mem_kids]
    exact ⟨fun h => h.2.1.symm, fun h => ⟨hv, h.symm, fun y => lo y.symm⟩⟩
  by_cases q : p = par fs v
  · rw [if_pos q, if_pos (e.mpr q)]; omega
  · rw [if_neg q, if_neg (fun y => q (e.mp y))]; omega
/-- beginnings: each vertex possible at its turn -/
inductive Bg (fs : List Nat) : List Nat → Prop
  | nil : Bg fs []
  | snoc {S : List Nat} {v : Nat} : Bg fs S → Can fs S v → Bg fs (S ++ [v])
theorem Bg.low {fs S : List Nat} (h : Bg fs S) : ∀ v ∈ S, v < fs.length ∧ par fs v ≠ v := by
  induction h with
  | nil => intro v hv; cases hv
  | snoc _ p ih =>
    intro v hv
    rcases List.mem_append.mp hv with z | z
    · exact ih v z
    · rw [List.mem_singleton.mp z]
      exact ⟨p.low, p.lo⟩
theorem Bg.dc {fs S : List Nat} (h : Bg fs S) : DC fs S := by
  refine ⟨h.low, ?_⟩
  induction h with
  | nil => intro v hv; cases hv
  | snoc _ p ih =>
    intro v hv d hd
    rcases List.mem_append.mp hv with z | z
    · exact List.mem_append_left _ (ih v z d hd)
    · rw [List.mem_singleton.mp z] at hd
      exact List.mem_append_left _ (p.all d hd)
theorem Bg.nodup {fs S : List Nat} (h : Bg fs S) : S.Nodup := by
  induction h with
  | nil => exact List.nodup_nil
  | snoc _ p ih =>
    refine List.nodup_append.mpr ⟨ih, List.nodup_cons.mpr ⟨List.not_mem_nil, List.nodup_nil⟩, fun a ha b hb e => ?_⟩
    rw [List.mem_singleton.mp hb] at e
    exact p.new (e ▸ ha)
/-- the vertices that are no roots -/
def lowers (fs : List Nat) : List Nat := (List.range fs.length).filter fun v => !decide (par fs v = v)
theorem mem_lowers {fs : List Nat} {v : Nat} : v ∈ lowers fs ↔ v < fs.length ∧ par fs v ≠ v := by
  unfold lowers
  rw [List.mem_filter, List.mem_range]
  simp
/-- heavy children -/
def Heavy (fs : List Nat) (c : Nat) : Prop := c < fs.length ∧ par fs c ≠ c ∧ 1 + ((kids fs (par fs c)).map fun d => if wt fs d < wt fs c then wt fs d else 0).sum < wt fs c
/-- without heavy children some vertex can always be joined, until all are -/
theorem go_on {fs S : List Nat} (F : Forest fs) (nh : ∀ c, ¬ Heavy fs c) (D : ∀ v ∈ S, v < fs.length ∧ par fs v ≠ v) {u : Nat} (hu : u < fs.length) (lo : par fs u ≠ u) (new : u ∉ S) : ∃ v, Can fs S v := by
  have key : ∀ (n u : Nat), wt fs u ≤ n → u < fs.length → par fs u ≠ u → u ∉ S → ∃ v, Can fs S v := by
    intro n
    induction n with
    | zero =>
      intro u h hu
      have := wt_pos F hu
      omega
    | succ n ih =>
      intro u h hu lo new
      by_cases z : ∃ v, wt fs v < wt fs u ∧ v < fs.length ∧ par fs v ≠ v ∧ v ∉ S
      · obtain ⟨v, h1, h2, h3, h4⟩ := z
        exact ih v (by omega) h2 h3 h4
      · have all : ∀ v, wt fs v < wt fs u → v < fs.length → par fs v ≠ v → v ∈ S := fun v h1 h2 h3 => Classical.byContradiction fun h4 => z ⟨v, h1, h2, h3, h4⟩
        refine ⟨u, hu, lo, new, fun d hd => ?_, ?_⟩
        · obtain ⟨k1, k2, k3⟩ := mem_kids.mp hd
          exact all d (wt_lt F hu hd) k1 fun e => k3 e.symm
        · have hn := nh u
          unfold Heavy at hn
          have hn : wt fs u ≤ 1 + ((kids fs (par fs u)).map fun d => if wt fs d < wt fs u then wt fs d else 0).sum := Nat.le_of_not_lt fun y => hn ⟨hu, lo, y⟩
          refine Nat.le_trans hn ?_
          unfold grown
          refine Nat.add_le_add_left (sum_le fun d hd => ?_) _
          obtain ⟨k1, k2, k3⟩ := mem_kids.mp hd
          by_cases y : wt fs d < wt fs u
          · rw [if_pos y, if_pos (all d y k1 fun e => k3 e.symm)]
            exact Nat.le_refl _
          · rw [if_neg y]
            exact Nat.zero_le _
  exact key _ u (Nat.le_refl _) hu lo new
/-- what is joined is not too heavy -/
theorem Bg.light {fs S : List Nat} (F : Forest fs) (h : Bg fs S) : ∀ c ∈ S, ¬ Heavy fs c := by
  -- the first one of p's children that is at least as heavy as c
  have key : ∀ (c : Nat), Heavy fs c → ∀ e ∈ S, par fs e = par fs c → wt fs e < wt fs c := by
    intro c hc
    induction h with
    | nil => intro e he; cases he
    | @snoc S v b p ih =>
      intro e he pe
      rcases List.mem_append.mp he with z | z
      · exact ih e z pe
      · have z := List.mem_singleton.mp z
        subst z
        refine Nat.lt_of_le_of_lt p.fit (Nat.lt_of_le_of_lt ?_ hc.2.2)
        rw [pe]
        unfold grown
        refine Nat.add_le_add_left (sum_le fun d hd => ?_) _
        obtain ⟨k1, k2, k3⟩ := mem_kids.mp hd
        by_cases y : d ∈ S
        · rw [if_pos y, if_pos (ih d y k2)]
          exact Nat.le_refl _
        · rw [if_neg y]
          exact Nat.zero_le _
  intro c hc hh
  exact absurd (key c hh c hc rfl) (Nat.lt_irrefl _)
end
end Lf
namespace Lf
/-! ### the search through all orders of joins: plain mathematics -/
noncomputable section
open Classical
theorem there_get {fs S : List Nat} : there fs S = fs ↔ ∀ v, v < fs.length → par fs v ≠ v → v ∈ S := by
  constructor
  · intro h v hv lo
    refine Classical.byContradiction fun z => lo ?_
    have := par_there (S := S) hv
    rw [h, if_neg z] at this
    exact this
  · intro h
    refine List.ext_getElem? fun i => ?_
    unfold there
    by_cases z : i < fs.length
    · rw [List.getElem?_map, List.getElem?_range z]
      have e : fs[i]? = some (par fs i) := by
        unfold par
        rw [List.getD_eq_getElem?_getD, List.getElem?_eq_getElem z]
        rfl
      rw [e]
      show some (if i ∈ S then par fs i else i) = _
      by_cases y : par fs i = i
      · rw [y]
        by_cases q : i ∈ S
        · rw [if_pos q]
        · rw [if_neg q]
      · rw [if_pos (h i z y)]
    · rw [List.getElem?_eq_none (by rw [List.length_map, List.length_range]; omega), List.getElem?_eq_none (by omega)]
theorem there_nil (fs : List Nat) : there fs [] = List.range fs.length := by
  unfold there
  simp
theorem there_inj {fs S T : List Nat} (DS : ∀ v ∈ S, v < fs.length ∧ par fs v ≠ v) (DT : ∀ v ∈ T, v < fs.length ∧ par fs v ≠ v) (h : there fs S = there fs T) : ∀ v, v ∈ S ↔ v ∈ T := by
  have one : ∀ {S T : List Nat}, (∀ v ∈ S, v < fs.length ∧ par fs v ≠ v) → there fs S = there fs T → ∀ v, v ∈ S → v ∈ T := by
    intro S T DS h v hv
    obtain ⟨l, lo⟩ := DS v hv
    refine Classical.byContradiction fun z => lo ?_
    have e1 := par_there (S := S) l
    have e2 := par_there (S := T) l
    rw [h, if_pos hv] at e1
    rw [if_neg z] at e2
    exact e1.symm.trans e2
  exact fun v => ⟨one DS h v, one DT h.symm v⟩
theorem there_set {fs S T : List Nat} (h : ∀ v, v ∈ S ↔ v ∈ T) : there fs S = there fs T := by
  unfold there
  refine List.map_congr_left fun v _ => ?_
  by_cases z : v ∈ S
  · rw [if_pos z, if_pos ((h v).mp z)]
  · rw [if_neg z, if_neg (fun y => z ((h v).mpr y))]
theorem there_snoc {fs S : List Nat} {v : Nat} : (there fs S).set v (par fs v) = there fs (S ++ [v]) := by
  unfold there
  refine List.ext_getElem? fun i => ?_
  rw [List.getElem?_set, List.getElem?_map, List.getElem?_map, List.length_map, List.length_range]
  by_cases z : i < fs.length
  · rw [List.getElem?_range z]
    by_cases y : v = i
    · subst y
      rw [if_pos rfl, if_pos z]
      show _ = some (if v ∈ S ++ [v] then par fs v else v)
      rw [if_pos (List.mem_append_right _ (List.mem_singleton.mpr rfl))]
    · rw [if_neg y]
      show some (if i ∈ S then par fs i else i) = some (if i ∈ S ++ [v] then par fs i else i)
      have e1 : (i ∈ S ++ [v]) ↔ i ∈ S := by
        rw [List.mem_append, List.mem_singleton]
        exact ⟨fun q => q.elim id fun q => absurd q.symm y, .inl⟩
      by_cases q : i ∈ S
      · rw [if_pos q, if_pos (e1.mpr q)]
      · rw [if_neg q, if_neg (fun w => q (e1.mp w))]
  · rw [List.getElem?_eq_none (l := List.range fs.length) (by rw [List.length_range]; omega)]
    by_cases y : v = i
    · rw [if_pos y, if_neg (by omega)]
      rfl
    · rw [if_neg y]
      rfl
theorem Can.set {fs S T : List Nat} {v : Nat} (h : ∀ v, v ∈ S ↔ v ∈ T) (p : Can fs S v) : Can fs T v := ⟨p.low, p.lo, fun z => p.new ((h v).mpr z), fun d hd => (h d).mp (p.all d hd), by rw [← grown_set h]; exact p.fit⟩
/-- the whole trees below stay so when others are joined -/
theorem there_in' {fs S T : List Nat} (F : Forest fs) (D : DC fs S) (sub : ∀ v ∈ S, v ∈ T) : ∀ (n v : Nat), wt fs v ≤ n → v ∈ S → wt (there fs T) v = wt fs v := by
  intro n
  induction n with
  | zero =>
    intro v h hv
    have := wt_pos F (D.low v hv).1
    omega
  | succ n ih =>
    intro v h hv
    have l := (D.low v hv).1
    rw [wt_kids (there_forest F T) (by rw [there_length]; exact l), wt_kids F l, kids_there, filter_sum]
    congr 1
    refine sum_congr fun d hd => ?_
    have ds := D.cls v hv d hd
    rw [if_pos (decide_eq_true (sub d ds))]
    exact ih d (by have := wt_lt F l hd; omega) ds
/-- after v is put below its parent, its own tree is as it was -/
theorem there_own {fs S : List Nat} (F : Forest fs) (D : DC fs S) {v : Nat} (hv : v < fs.length) (lo : par fs v ≠ v) : wt (there fs (S ++ [v])) v = grown fs S v := by
  rw [wt_kids (there_forest F _) (by rw [there_length]; exact hv), kids_there, filter_sum]
  unfold grown
  congr 1
  refine sum_congr fun d hd => ?_
  have ne : d ≠ v := fun e => by
    subst e
    exact lo (mem_kids.mp hd).2.1
  have e1 : (d ∈ S ++ [v]) ↔ d ∈ S := by
    rw [List.mem_append, List.mem_singleton]
    exact ⟨fun q => q.elim id fun q => absurd q ne, .inl⟩
  by_cases z : d ∈ S
  · rw [if_pos (decide_eq_true (e1.mpr z)), if_pos z]
    exact there_in' F D (fun v hv => List.mem_append_left _ hv) _ d (Nat.le_refl _) z
  · rw [if_neg (fun y => z (e1.mp (of_decide_eq_true y))), if_neg z]
/-- (a, b) is a join -/
def Jn (fs : List Nat) (a b : Nat) : Prop := a < fs.length ∧ par fs a = a ∧ b < fs.length ∧ par fs b = b ∧ a ≠ b ∧ cnt fs a fs.length ≤ cnt fs b fs.length
/-- what the step's tests say -/
theorem step_pos {fs S : List Nat} (F : Forest fs) (b : Bg fs S) {c : Nat} (hc : c < fs.length) : (Jn (there fs S) c (par fs c) ∧ wt (there fs (S ++ [c])) c = wt fs c) ↔ Can fs S c := by
  have D := b.dc
  have pc := F.rng c hc
  constructor
  · rintro ⟨⟨_, h1, _, h2, h3, h4⟩, h5⟩
    rw [there_own F D hc (fun e => h3 e.symm)] at h5
    have new : c ∉ S := fun z => by
      rw [par_there hc, if_pos z] at h1
      exact h3 h1.symm
    refine ⟨hc, fun e => h3 e.symm, new, (grown_all F hc).mp h5, ?_⟩
    have e1 := there_out F D hc
    have e2 := there_out F D pc
    rw [← h5, ← e1, ← e2]
    exact h4
  · intro p
    have pn : par fs c ∉ S := fun z => p.new (D.cls _ z c (mem_kids.mpr ⟨hc, rfl, fun e => p.lo e.symm⟩))
    refine ⟨⟨by rw [there_length]; exact hc, by rw [par_there hc, if_neg p.new], by rw [there_length]; exact pc, by rw [par_there pc, if_neg pn], fun e => p.lo e.symm, ?_⟩, ?_⟩
    · show wt (there fs S) c ≤ wt (there fs S) (par fs c)
      rw [there_out F D hc, there_out F D pc]
      exact Nat.le_trans (grown_le F hc) p.fit
    · rw [there_own F D hc p.lo]
      exact (grown_all F hc).mpr p.all
/-- all states -/
def allT (fs : List Nat) : List Nat → List (List Nat)
  | [] => [[]]
  | v :: vs => (allT fs vs).flatMap fun r => [v :: r, par fs v :: r]
theorem allT_length (fs : List Nat) : ∀ vs, (allT fs vs).length = 2 ^ vs.length
  | [] => rfl
  | v :: vs => by
    have key : ∀ l : List (List Nat), (l.flatMap fun r => [v :: r, par fs v :: r]).length = 2 * l.length := by
      intro l
      induction l with
      | nil => rfl
      | cons x l ih =>
        rw [List.flatMap_cons, List.length_append, ih]
        show 2 + 2 * l.length = 2 * (l.length + 1)
        omega
    show ((allT fs vs).flatMap _).length = _
    rw [key, allT_length fs vs, List.length_cons, Nat.pow_succ, Nat.mul_comm]
theorem allT_mem (fs S : List Nat) : ∀ vs, (vs.map fun v => if v ∈ S then par fs v else v) ∈ allT fs vs
  | [] => List.mem_singleton.mpr rfl
  | v :: vs => by
    refine List.mem_flatMap.mpr ⟨_, allT_mem fs S vs, ?_⟩
    rw [List.map_cons]
    by_cases z : v ∈ S
    · rw [if_pos z]
      exact List.mem_cons_of_mem _ List.mem_cons_self
    · rw [if_neg z]
      exact List.mem_cons_self
theorem nodup_sub {α : Type} : ∀ {l m : List α}, l.Nodup → (∀ x ∈ l, x ∈ m) → l.length ≤ m.length
  | [], m, _, _ => Nat.zero_le _
  | x :: l, m, nd, h => by
    obtain ⟨n1, n2⟩ := List.nodup_cons.mp nd
    have hx := h x List.mem_cons_self
    have := nodup_sub (l := l) (m := m.erase x) n2 fun y hy => (List.mem_erase_of_ne (fun e : y = x => n1 (e ▸ hy))).mpr (h y (List.mem_cons_of_mem _ hy))
    rw [List.length_erase_of_mem hx] at this
    have := List.length_pos_of_mem hx
    rw [List.length_cons]
    omega
/-- closed at M for the children below k -/
def ClsAt (fs : List Nat) (Ms : List (List Nat)) (M : List Nat) (k : Nat) : Prop := ∀ S v, v < k → M = there fs S → Bg fs S → Can fs S v → there fs (S ++ [v]) ∈ Ms
structure Srch (fs : List Nat) (Ms Ws : List (List Nat)) (ex : List Nat → Prop) : Prop where
  st : List.range fs.length ∈ Ms
  bg : ∀ M ∈ Ms, ∃ S, Bg fs S ∧ M = there fs S
  nd : Ms.Nodup
  sub : ∀ W ∈ Ws, W ∈ Ms
  cls : ∀ M ∈ Ms, M ∉ Ws → ¬ ex M → ClsAt fs Ms M fs.length
  le : Ws.length ≤ Ms.length
theorem Srch.few {fs : List Nat} {Ms Ws : List (List Nat)} {ex : List Nat → Prop} (h : Srch fs Ms Ws ex) : Ms.length ≤ 2 ^ fs.length := by
  have := nodup_sub (m := allT fs (List.range fs.length)) h.nd fun M hM => by
    obtain ⟨S, _, rfl⟩ := h.bg M hM
    exact allT_mem fs S _
  rw [allT_length, List.length_range] at this
  exact this
theorem Srch.start (fs : List Nat) : Srch fs [List.range fs.length] [List.range fs.length] fun _ => False :=
  ⟨List.mem_singleton.mpr rfl, fun M hM => ⟨[], .nil, by rw [List.mem_singleton.mp hM, there_nil]⟩, List.nodup_cons.mpr ⟨List.not_mem_nil, List.nodup_nil⟩, fun W h => h, fun M h1 h2 => absurd h1 h2, Nat.le_refl _⟩
theorem Srch.pop {fs : List Nat} {Ms Ws : List (List Nat)} {M : List Nat} (h : Srch fs Ms (Ws ++ [M]) fun _ => False) : Srch fs Ms Ws fun N => N = M :=
  ⟨h.st, h.bg, h.nd, fun W hW => h.sub W (List.mem_append_left _ hW), fun N h1 h2 h3 => h.cls N h1 (fun z => (List.mem_append.mp z).elim h2 fun y => h3 (List.mem_singleton.mp y)) id, by have := h.le; rw [List.length_append] at this; omega⟩
theorem Srch.back {fs : List Nat} {Ms Ws : List (List Nat)} {M : List Nat} (h : Srch fs Ms Ws fun N => N = M) (c : ClsAt fs Ms M fs.length) : Srch fs Ms Ws fun _ => False :=
  ⟨h.st, h.bg, h.nd, h.sub, fun N h1 h2 _ => by
    by_cases z : N = M
    · subst z
      exact c
    · exact h.cls N h1 h2 z, h.le⟩
theorem ClsAt.more {fs : List Nat} {Ms Ns : List (List Nat)} {M : List Nat} {k : Nat} (h : ClsAt fs Ms M k) (s : ∀ x ∈ Ms, x ∈ Ns) : ClsAt fs Ns M k := fun S v hv e b p => s _ (h S v hv e b p)
theorem Srch.add {fs : List Nat} {Ms Ws : List (List Nat)} {M S : List Nat} {v : Nat} (h : Srch fs Ms Ws fun N => N = M) (b : Bg fs S) (p : Can fs S v) (new : there fs (S ++ [v]) ∉ Ms) : Srch fs (Ms ++ [there fs (S ++ [v])]) (Ws ++ [there fs (S ++ [v])]) fun N => N = M := by
  refine ⟨List.mem_append_left _ h.st, fun N hN => ?_, ?_, fun W hW => ?_, fun N h1 h2 h3 => ?_, by have := h.le; rw [List.length_append, List.length_append]; exact Nat.add_le_add_right this _⟩
  · rcases List.mem_append.mp hN with z | z
    · exact h.bg N z
    · exact ⟨_, b.snoc p, List.mem_singleton.mp z⟩
  · refine List.nodup_append.mpr ⟨h.nd, List.nodup_cons.mpr ⟨List.not_mem_nil, List.nodup_nil⟩, fun x hx y hy e => ?_⟩
    rw [List.mem_singleton.mp hy] at e
    exact new (e ▸ hx)
  · rcases List.mem_append.mp hW with z | z
    · exact List.mem_append_left _ (h.sub W z)
    · exact List.mem_append_right _ z
  · rcases List.mem_append.mp h1 with z | z
    · exact (h.cls N z (fun y => h2 (List.mem_append_left _ y)) h3).more fun x hx => List.mem_append_left _ hx
    · exact absurd (List.mem_append_right _ z) h2
/-- at M = there fs S: all that is due for v -/
theorem ClsAt.next {fs : List Nat} {Ms : List (List Nat)} {S : List Nat} {k : Nat} (b : Bg fs S) (h : ClsAt fs Ms (there fs S) k) (new : Can fs S k → there fs (S ++ [k]) ∈ Ms) : ClsAt fs Ms (there fs S) (k + 1) := by
  intro T v hv e bT p
  by_cases z : v < k
  · exact h T v z e bT p
  · have z : v = k := by omega
    subst z
    have same := there_inj b.low bT.low e
    have := new (p.set fun x => (same x).symm)
    rw [there_set (T := S ++ [v]) fun x => by rw [List.mem_append, List.mem_append, same x]]
    exact this
theorem Srch.done {fs : List Nat} (F : Forest fs) {Ms : List (List Nat)} (h : Srch fs Ms [] fun _ => False) : fs ∈ Ms ↔ ∀ c, ¬ Heavy fs c := by
  constructor
  · intro hm c hc
    obtain ⟨S, b, e⟩ := h.bg fs hm
    exact b.light F c (there_get.mp e.symm c hc.1 hc.2.1) hc
  · intro nh
    have key : ∀ (n : Nat) (S : List Nat), Bg fs S → there fs S ∈ Ms → fs.length - S.length ≤ n → fs ∈ Ms := by
      intro n
      induction n with
      | zero =>
        intro S b hS le
        by_cases z : ∃ u, u < fs.length ∧ par fs u ≠ u ∧ u ∉ S
        · obtain ⟨u, h1, h2, h3⟩ := z
          have : (u :: S).length ≤ fs.length := nodup_le (List.nodup_cons.mpr ⟨h3, b.nodup⟩) fun x hx => by
            rcases List.mem_cons.mp hx with y | y
            · omega
            · exact (b.low x y).1
          rw [List.length_cons] at this
          omega
        · rw [there_get.mpr fun v h1 h2 => Classical.byContradiction fun h3 => z ⟨v, h1, h2, h3⟩] at hS
          exact hS
      | succ n ih =>
        intro S b hS le
        by_cases z : ∃ u, u < fs.length ∧ par fs u ≠ u ∧ u ∉ S
        · obtain ⟨u, h1, h2, h3⟩ := z
          obtain ⟨v, p⟩ := go_on F nh b.low h1 h2 h3
          refine ih (S ++ [v]) (b.snoc p) (h.cls _ hS List.not_mem_nil id S v p.low rfl b p) ?_
          rw [List.length_append]
          show fs.length - (S.length + 1) ≤ n
          omega
        · rw [there_get.mpr fun v h1 h2 => Classical.byContradiction fun h3 => z ⟨v, h1, h2, h3⟩] at hS
          exact hS
    exact key _ [] .nil (by rw [there_nil]; exact h.st) (Nat.le_refl _)
end
end Lf
namespace Lf
/-! ### histories: plain mathematics -/
noncomputable section
open Classical
theorem lowers_nodup (fs : List Nat) : (lowers fs).Nodup := List.Pairwise.filter _ List.nodup_range
theorem tops_lowers (fs : List Nat) : (tops fs).length + (lowers fs).length = fs.length := by
  have key : ∀ (l : List Nat) (p : Nat → Bool), (l.filter p).length + (l.filter fun v => !p v).length = l.length := by
    intro l p
    induction l with
    | nil => rfl
    | cons x l ih =>
      by_cases h : p x = true
      · rw [List.filter_cons_of_pos h, List.filter_cons_of_neg (by simp [h])]
        simp only [List.length_cons]
        omega
      · rw [List.filter_cons_of_neg h, List.filter_cons_of_pos (by simp [h])]
        simp only [List.length_cons]
        omega
  have := key (List.range fs.length) fun v => decide (par fs v = v)
  rw [List.length_range] at this
  exact this
/-- a whole history -/
def Hs (fs S : List Nat) : Prop := Bg fs S ∧ S.length = (lowers fs).length
theorem Bg.le {fs S : List Nat} (b : Bg fs S) : S.length ≤ (lowers fs).length := nodup_sub b.nodup fun v hv => mem_lowers.mpr (b.low v hv)
theorem Hs.all {fs S : List Nat} (h : Hs fs S) : ∀ v, v < fs.length → par fs v ≠ v → v ∈ S := by
  intro v hv lo
  refine Classical.byContradiction fun z => ?_
  have := nodup_sub (l := v :: S) (m := lowers fs) (List.nodup_cons.mpr ⟨z, h.1.nodup⟩) fun x hx => by
    rcases List.mem_cons.mp hx with y | y
    · rw [y]
      exact mem_lowers.mpr ⟨hv, lo⟩
    · exact mem_lowers.mpr (h.1.low x y)
  rw [List.length_cons, h.2] at this
  omega
theorem Hs.of {fs S : List Nat} (b : Bg fs S) (h : ∀ v, v < fs.length → par fs v ≠ v → v ∈ S) : Hs fs S := by
  refine ⟨b, Nat.le_antisymm b.le (nodup_sub (lowers_nodup fs) fun v hv => ?_)⟩
  obtain ⟨h1, h2⟩ := mem_lowers.mp hv
  exact h v h1 h2
theorem Hs.there {fs S : List Nat} (h : Hs fs S) : there fs S = fs := there_get.mpr h.all
theorem Bg.there {fs S : List Nat} (b : Bg fs S) (h : there fs S = fs) : Hs fs S := Hs.of b (there_get.mp h)
theorem Hs.light {fs S : List Nat} (F : Forest fs) (h : Hs fs S) : ∀ c, ¬ Heavy fs c := fun c hc => h.1.light F c (h.all c hc.1 hc.2.1) hc
/-- every beginning of a forest without heavy children can be finished -/
theorem Bg.ends {fs : List Nat} (F : Forest fs) (nh : ∀ c, ¬ Heavy fs c) : ∀ (n : Nat) (S : List Nat), Bg fs S → (lowers fs).length - S.length ≤ n → ∃ T, Hs fs (S ++ T) := by
  intro n
  induction n with
  | zero =>
    intro S b le
    have := b.le
    exact ⟨[], by rw [List.append_nil]; exact ⟨b, by omega⟩⟩
  | succ n ih =>
    intro S b le
    by_cases z : ∃ u, u < fs.length ∧ par fs u ≠ u ∧ u ∉ S
    · obtain ⟨u, h1, h2, h3⟩ := z
      obtain ⟨v, p⟩ := go_on F nh b.low h1 h2 h3
      obtain ⟨T, h⟩ := ih (S ++ [v]) (b.snoc p) (by rw [List.length_append]; show _ - (S.length + 1) ≤ n; omega)
      exact ⟨v :: T, by rw [List.append_assoc] at h; exact h⟩
    · exact ⟨[], by rw [List.append_nil]; exact Hs.of b fun v h1 h2 => Classical.byContradiction fun h3 => z ⟨v, h1, h2, h3⟩⟩
/-- what is possible stays possible -/
theorem Can.stay {fs S : List Nat} {v u : Nat} (p : Can fs S v) (ne : v ≠ u) : Can fs (S ++ [u]) v :=
  ⟨p.low, p.lo, fun z => (List.mem_append.mp z).elim p.new fun y => ne (List.mem_singleton.mp y), fun d hd => List.mem_append_left _ (p.all d hd), Nat.le_trans p.fit (grown_mono (fun x hx => List.mem_append_left _ hx) _)⟩
theorem Bg.last {fs S : List Nat} {v : Nat} (h : Bg fs (S ++ [v])) : Bg fs S ∧ Can fs S v := by
  generalize e : S ++ [v] = T at h
  cases h with
  | nil => cases S <;> cases e
  | @snoc S' v' b p =>
    obtain ⟨e1, e2⟩ := List.append_inj' e rfl
    cases e2
    subst e1
    exact ⟨b, p⟩
theorem Bg.pre {fs : List Nat} : ∀ {T S : List Nat}, Bg fs (S ++ T) → Bg fs S := by
  intro T
  induction T with
  | nil =>
    intro S h
    rw [List.append_nil] at h
    exact h
  | cons v T ih =>
    intro S h
    have : Bg fs ((S ++ [v]) ++ T) := by rw [List.append_assoc]; exact h
    exact (ih this).last.1
theorem Bg.take {fs S : List Nat} (h : Bg fs S) (k : Nat) : Bg fs (S.take k) := by
  rw [← List.take_append_drop k S] at h
  exact h.pre
theorem Bg.at {fs S : List Nat} (h : Bg fs S) {k v : Nat} (e : S[k]? = some v) : Can fs (S.take k) v := by
  have := h.take (k + 1)
  rw [List.take_add_one, e] at this
  exact this.last.2
/-! a join keeps a forest without heavy children -/
theorem par_join {fs : List Nat} {a b v : Nat} (ha : a < fs.length) : par (fs.set a b) v = if v = a then b else par fs v := par_set ha
theorem kids_join {fs : List Nat} {a b : Nat} (ha : a < fs.length) (pa : par fs a = a) (ne : a ≠ b) {x u : Nat} : u ∈ kids (fs.set a b) x ↔ u ∈ kids fs x ∨ (u = a ∧ x = b) := by
  rw [mem_kids, mem_kids, List.length_set, par_join ha]
  by_cases z : u = a
  · subst z
    rw [if_pos rfl]
    constructor
    · rintro ⟨_, h, _⟩
      exact .inr ⟨rfl, h.symm⟩
    · rintro (⟨_, h1, h2⟩ | ⟨_, h⟩)
      · exact absurd pa.symm h2
      · exact ⟨ha, h.symm, ne⟩
  · rw [if_neg z]
    constructor
    · exact fun h => .inl h
    · rintro (h | ⟨h, _⟩)
      · exact h
      · exact absurd h z
theorem sum_perm {l m : List Nat} (hl : l.Nodup) (hm : m.Nodup) (h : ∀ u, u ∈ l ↔ u ∈ m) (f : Nat → Nat) : (l.map f).sum = (m.map f).sum := by
  have := ((List.perm_ext_iff_of_nodup hl hm).mpr h).map f
  exact this.sum_nat
theorem join_forest {fs : List Nat} (F : Forest fs) {a b : Nat} (ha : a < fs.length) (pa : par fs a = a) (hb : b < fs.length) (pb : par fs b = b) (ne : a ≠ b) : Forest (fs.set a b) := F.moved ha hb fun z => by
  cases z with
  | refl => exact ne rfl
  | step h _ => exact h pb
theorem wt_join {fs : List Nat} (F : Forest fs) {a b : Nat} (ha : a < fs.length) (pa : par fs a = a) (hb : b < fs.length) (pb : par fs b = b) (ne : a ≠ b) : ∀ (n v : Nat), wt fs v ≤ n → v < fs.length → v ≠ b → wt (fs.set a b) v = wt fs v := by
  intro n
  have F' := join_forest F ha pa hb pb ne
  induction n with
  | zero =>
    intro v h hv
    have := wt_pos F hv
    omega
  | succ n ih =>
    intro v h hv nb
    rw [wt_kids F' (by rw [List.length_set]; exact hv), wt_kids F hv]
    congr 1
    rw [sum_perm (kids_nodup _ v) (kids_nodup fs v) (fun u => ?_) (wt (fs.set a b))]
    · refine sum_congr fun d hd => ?_
      obtain ⟨k1, k2, k3⟩ := mem_kids.mp hd
      refine ih d (by have := wt_lt F hv hd; omega) k1 fun e => ?_
      subst e
      exact k3 pb.symm
    · rw [kids_join ha pa ne]
      exact ⟨fun z => z.elim id fun y => absurd y.2 nb, .inl⟩
theorem join_light {fs : List Nat} (F : Forest fs) {a b : Nat} (ha : a < fs.length) (pa : par fs a = a) (hb : b < fs.length) (pb : par fs b = b) (ne : a ≠ b) (le : wt fs a ≤ wt fs b) (nh : ∀ c, ¬ Heavy fs c) : ∀ c, ¬ Heavy (fs.set a b) c := by
  have F' := join_forest F ha pa hb pb ne
  have same : ∀ v, v < fs.length → v ≠ b → wt (fs.set a b) v = wt fs v := fun v => wt_join F ha pa hb pb ne _ v (Nat.le_refl _)
  rintro c ⟨hc, lo, hv⟩
  rw [List.length_set] at hc
  rw [par_join ha] at lo hv
  have kb : ∀ {d x : Nat}, d ∈ kids fs x → d < fs.length ∧ d ≠ b := fun hd => by
    obtain ⟨k1, k2, k3⟩ := mem_kids.mp hd
    refine ⟨k1, fun e => ?_⟩
    subst e
    exact k3 pb.symm
  -- sums over old children only grow
  have grow : ∀ (x w : Nat), ((kids fs x).map fun d => if wt fs d < w then wt fs d else 0).sum ≤ ((kids (fs.set a b) x).map fun d => if wt (fs.set a b) d < w then wt (fs.set a b) d else 0).sum := by
    intro x w
    have e1 : ((kids fs x).map fun d => if wt fs d < w then wt fs d else 0).sum = ((kids fs x).map fun d => if wt (fs.set a b) d < w then wt (fs.set a b) d else 0).sum := sum_congr fun d hd => by
      obtain ⟨k1, k2⟩ := kb hd
      rw [same d k1 k2]
    rw [e1]
    by_cases z : x = b
    · subst z
      have e2 := sum_perm (m := a :: kids fs x) (kids_nodup (fs.set a x) x) (List.nodup_cons.mpr ⟨fun y => (mem_kids.mp y).2.2 pa.symm, kids_nodup fs x⟩) (fun u => by
        rw [kids_join ha pa ne, List.mem_cons]
        exact ⟨fun y => y.elim .inr fun q => .inl q.1, fun y => y.elim (fun q => .inr ⟨q, rfl⟩) .inl⟩) (fun d => if wt (fs.set a x) d < w then wt (fs.set a x) d else 0)
      rw [e2, List.map_cons, List.sum_cons]
      exact Nat.le_add_left _ _
    · rw [sum_perm (kids_nodup (fs.set a b) x) (kids_nodup fs x) fun u => by
        rw [kids_join ha pa ne]
        exact ⟨fun y => y.elim id fun q => absurd q.2 z, .inl⟩]
      exact Nat.le_refl _
  by_cases ca : c = a
  · subst ca
    rw [if_pos rfl] at lo hv
    rw [same c hc ne] at hv
    have g := grow b (wt fs c)
    -- the lightest child of b that is at least as heavy
    have key : ∀ (n d : Nat), wt fs d ≤ n → d ∈ kids fs b → wt fs c ≤ wt fs d → wt fs c ≤ 1 + ((kids fs b).map fun d => if wt fs d < wt fs c then wt fs d else 0).sum := by
      intro n
      induction n with
      | zero =>
        intro d h hd
        have := wt_pos F (kb hd).1
        omega
      | succ n ih =>
        intro d h hd hle
        by_cases y : ∃ e, e ∈ kids fs b ∧ wt fs c ≤ wt fs e ∧ wt fs e < wt fs d
        · obtain ⟨e, e1, e2, e3⟩ := y
          exact ih e (by omega) e1 e2
        · obtain ⟨k1, k2, k3⟩ := mem_kids.mp hd
          have hn := nh d
          unfold Heavy at hn
          have hn : wt fs d ≤ 1 + ((kids fs (par fs d)).map fun e => if wt fs e < wt fs d then wt fs e else 0).sum := Nat.le_of_not_lt fun q => hn ⟨k1, fun e => k3 e.symm, q⟩
          rw [k2] at hn
          refine Nat.le_trans hle (Nat.le_trans hn (Nat.add_le_add_left (sum_le fun e he => ?_) _))
          by_cases q : wt fs e < wt fs d
          · rw [if_pos q, if_pos (Nat.lt_of_not_le fun r => y ⟨e, he, r, q⟩)]
            exact Nat.le_refl _
          · rw [if_neg q]
            exact Nat.zero_le _
    have fin : wt fs c ≤ 1 + ((kids fs b).map fun d => if wt fs d < wt fs c then wt fs d else 0).sum := by
      by_cases y : ∃ d, d ∈ kids fs b ∧ wt fs c ≤ wt fs d
      · obtain ⟨d, h1, h2⟩ := y
        exact key _ d (Nat.le_refl _) h1 h2
      · refine Nat.le_trans le ?_
        rw [wt_kids F hb]
        refine Nat.add_le_add_left (sum_le fun d hd => ?_) _
        rw [if_pos (Nat.lt_of_not_le fun q => y ⟨d, hd, q⟩)]
        exact Nat.le_refl _
    omega
  · rw [if_neg ca] at lo hv
    have cb : c ≠ b := fun e => by
      subst e
      exact lo pb
    rw [same c hc cb] at hv
    have g := grow (par fs c) (wt fs c)
    exact nh c ⟨hc, lo, by omega⟩
theorem range_light (n : Nat) : ∀ c, ¬ Heavy (List.range n) c := fun c h => by
  have hc := h.1
  rw [List.length_range] at hc
  exact h.2.1 (par_range hc)
end
end Lf
namespace Lf
/-! ### what can stand before a vertex -/
def Clo (fs S : List Nat) (v : Nat) : Prop := Bg fs S ∧ v ∉ S ∧ ∀ u, Can fs S u → u = v
/-- some beginning without v has u -/
def Bef (fs : List Nat) (v u : Nat) : Prop := ∃ S, Bg fs S ∧ v ∉ S ∧ u ∈ S
noncomputable def befB (fs : List Nat) (v u : Nat) : Bool := @decide (Bef fs v u) (Classical.propDecidable _)
theorem befB_iff {fs : List Nat} {v u : Nat} : befB fs v u = true ↔ Bef fs v u := by
  unfold befB
  exact @decide_eq_true_iff _ (Classical.propDecidable _)
theorem Clo.sub {fs S : List Nat} {v : Nat} (c : Clo fs S v) {T : List Nat} (b : Bg fs T) (hv : v ∉ T) : ∀ u ∈ T, u ∈ S := by
  induction b with
  | nil => intro u z; cases z
  | @snoc T w b cw ih =>
    have ih := ih fun z => hv (List.mem_append_left _ z)
    intro u hu
    rcases List.mem_append.mp hu with z | z
    · exact ih u z
    · have e := List.mem_singleton.mp z
      rw [e]
      refine Classical.byContradiction fun n => hv (List.mem_append_right _ (List.mem_singleton.mpr ?_))
      exact (c.2.2 w ⟨cw.low, cw.lo, n, fun d hd => ih d (cw.all d hd), Nat.le_trans cw.fit (grown_mono ih _)⟩).symm
theorem Clo.bef {fs S : List Nat} {v u : Nat} (c : Clo fs S v) : decide (u ∈ S) = befB fs v u := by
  rw [Bool.eq_iff_iff, decide_eq_true_iff, befB_iff]
  exact ⟨fun h => ⟨S, c.1, c.2.1, h⟩, fun ⟨T, b, h1, h2⟩ => c.sub b h1 u h2⟩
theorem idx_mem {l : List Nat} {v : Nat} (h : v ∈ l) : l[l.idxOf v]? = some v := by
  rw [List.getElem?_eq_getElem (List.idxOf_lt_length_of_mem h), List.getElem_idxOf]
/-- a history with u no later than v: u is v, or can stand before it -/
theorem early_iff {fs : List Nat} (F : Forest fs) (nh : ∀ c, ¬ Heavy fs c) {v u : Nat} (hv : v < fs.length ∧ par fs v ≠ v) (hu : u < fs.length ∧ par fs u ≠ u) :
    (∃ S, Hs fs S ∧ S.idxOf u ≤ S.idxOf v) ↔ v = u ∨ Bef fs v u := by
  constructor
  · rintro ⟨S, h, le⟩
    by_cases e : v = u
    · exact .inl e
    have mv := h.all v hv.1 hv.2
    have mu := h.all u hu.1 hu.2
    have iv := idx_mem mv
    have iu := idx_mem mu
    have lt : S.idxOf u < S.idxOf v := by
      rcases Nat.lt_or_ge (S.idxOf u) (S.idxOf v) with z | z
      · exact z
      · rw [show S.idxOf u = S.idxOf v by omega, iv] at iu
        exact absurd (Option.some.inj iu) e
    have c := h.1.at iv
    refine .inr ⟨S.take (S.idxOf v), h.1.take _, c.new, ?_⟩
    refine List.mem_of_getElem? (i := S.idxOf u) ?_
    rw [List.getElem?_take, if_pos lt]
    exact iu
  · intro h
    have go : ∀ S, Bg fs S → v ∉ S → (v = u ∨ u ∈ S) → ∃ S, Hs fs S ∧ S.idxOf u ≤ S.idxOf v := fun S b nv z => by
      obtain ⟨T, hT⟩ := Bg.ends F nh _ S b (Nat.le_refl _)
      refine ⟨S ++ T, hT, ?_⟩
      rcases z with z | z
      · rw [z]; exact Nat.le_refl _
      · rw [List.idxOf_append, if_pos z, List.idxOf_append, if_neg nv]
        have := List.idxOf_lt_length_of_mem z
        omega
    rcases h with h | ⟨S, b, h1, h2⟩
    · exact go [] .nil (fun z => nomatch z) (.inl h)
    · exact go S b h1 (.inr h2)
end Lf
namespace PySem.SeqAt
open PySem PyProof.Rows PySem.Spec
/-! ### a dict == an int -/
theorem dict_declines_int (l : Addr) (es : Array DictEntry) (n : Nat) (dd : Option Addr) (sl : Array (Option Value)) (b : Int) (u : Tok) :
    Meets (Builtin.«dict.__eq__» ⟨[.ref l, .int b u], []⟩) (fun _ R s => s.heap.get? l = some { cls := .type "dict", dict := dd, data := .dict es n, slots := sl } ∧ R (.ok (.ret .notImplemented)) s) :=
  .of_wp fun prog w A R s h => by obtain ⟨hp, g, d, tk, os⟩ := s; obtain ⟨hl, h⟩ := h; have f1 := F.sub_int_dict; wp_walk using wpAny_loadPart' hl, wpAny_load hl; exact ⟨_, rfl, h⟩
theorem int_declines_dict (b : Int) (u : Tok) (l : Addr) (c : Value) (es : Array DictEntry) (n : Nat) (dd : Option Addr) (sl : Array (Option Value)) :
    Meets (Builtin.«int.__eq__» ⟨[.int b u, .ref l], []⟩) (fun _ R s => s.heap.get? l = some { cls := c, dict := dd, data := .dict es n, slots := sl } ∧ R (.ok (.ret .notImplemented)) s) :=
  .of_wp fun prog w A R s h => by obtain ⟨hp, g, d, tk, os⟩ := s; obtain ⟨hl, h⟩ := h; wp_walk using wpAny_loadPart' hl, wpAny_load hl; exact ⟨_, rfl, h⟩
theorem rc_dict_int {A : Around} {s : Shared} {l : Addr} {o : Obj} {es : Array DictEntry} {n : Nat} (b : Int) (u : Tok) (ho : s.heap.get? l = some o) (he : o.ExactDict) (hd : o.data = .dict es n) (hu : A.units < cLine) : RcAt A s (.ref l) (.int b u) false := fun prog w E Q h => by
  obtain ⟨cls, dd, data, sl⟩ := o
  obtain ⟨h1, h2, h3⟩ := he
  simp only at h1 hd
  subst h1 hd
  exact rc_eq_decline_or (k := false) ⟨_, ho, rfl⟩ (typeIs_int s b u) (by decide) F.sub_int_dict F.slot_dict_eq F.slot_int_eq_refl
    (fun _ hq => call_meets F.slot_dict_eq ⟨_, ho, rfl⟩ F.entry_dict_eq (F.args_dict_eq_2 _ _) (dict_declines_int l es n dd sl b u) ⟨ho, hq⟩)
    (fun _ hq => call_meets F.slot_int_eq_refl (typeIs_int s b u) F.entry_int_eq (F.args_int_eq_2 _ _) (int_declines_dict b u l (.type "dict") es n dd sl) ⟨ho, hq⟩)
    (fun _ hq => wpAny_of_eq (rfl : isSame (.ref l) (.int b u) = pure false) hq) (.inr hu) h
end PySem.SeqAt
namespace Lf
open PySem PySem.Spec PyProof.Rows L2
section
variable {Z : Zn} {X : Cx} {a b : Expr} {da db : DX Z} {pos p : Pos} {K : PySem.W.Frag}
def rDI : R2 := fun x y H Q => ∃ (d : Addr) (kvs : List (Key × V)) (i : Int), x = .ref d ∧ y = .int i ∧ H d = some (.dK kvs) ∧ Q (.bl false) H
theorem op_DI (hu : X.A.units < cLine) : OpR X (compareOp .Eq) rDI := by
  intro pins s σ H x y v u Q I rx ry h
  obtain ⟨d, kvs, i, rfl, rfl, hd, q⟩ := h
  cases (show v = Value.ref d from rx)
  obtain ⟨t, rfl⟩ := ry
  obtain ⟨_, _, vs, _, o, es, ep, ho, hx, hda, _⟩ := I.hok d _ hd
  exact SeqAt.rc_dict_int i t ho hx hda hu _ _ _ _ ⟨.bl false, H, I, rfl, q⟩
inductive opEqK (x y : Rv) (Q : Rv → Prop) : Prop
  | dct {es : List (PyData × PyData)} {i : Int} : x.D = some (.dict es) → y.D = some (.int i) → Q (.im (.bool false)) → opEqK x y Q
  | els : opEq x y Q → opEqK x y Q
theorem o2_eqK : Op2 K (fun x y H Q => (rEq x y H Q ∨ rEqD K x y H Q) ∨ rDI x y H Q) opEqK := by
  intro Z B0 ρ s H0 σ Ha Hb H v u x y Qd Q R rx ry q k
  cases q with
  | @dct es i e1 e2 q =>
    cases rx.rd e1 with
    | dct h1 _ _ => exact .inr ⟨_, _, i, rfl, ry.vI e2, h1, k _ _ _ q (Same.refl H) (Im.bl _)⟩
  | els q => exact .inl (o2_eq Z B0 ρ s H0 σ Ha Hb H v u x y Qd Q R rx ry q k)
theorem de_eqK (hu : X.A.units + 65 < cLine) (ha : DE Z X a da) (hb : DE Z X b db) : DE Z X (.Compare a [.Eq] [b] pos) (dBin opEqK da db) :=
  PE.of (pe_cmpR ((op_eq.or (op_eqD (by omega))).or (op_DI (by omega))) ha hb (nomark _)) fun σ H Q h => lift_bin (K := X.K) o2_eqK h
/-! ### t == () of a tuple of any items -/
def dEqE (da : DX Z) : DX Z := fun s ρ Q => da s ρ fun x s1 => match x.D with
  | some (.tuple l) => Q (.im (.bool l.isEmpty)) s1
  | _ => False
theorem dt_eqE {kk} {p' : Pos} (hu : X.A.units + 65 < cLine) (ha : DE Z X a da) : DTs Z X (.Compare a [.Eq] [.Tuple [] kk p'] pos) (dTst (dEqE da)) := by
  refine PT.of (pt_cmpR (op_eqE (by omega)) ha (pe_tup pa_nil) (nomark _)) fun σ H Q h => ?_
  obtain ⟨B0, H0, ρ, s, Qd, R, hd, hq⟩ := lift_tst h
  refine ⟨B0, H0, ρ, s, _, R, hd, fun x s1 v H1 qx R1 g1 r1 => ?_⟩
  split at qx
  · rename_i l e1
    refine ⟨by show 0 ≤ sizeLine; decide, fun p hp => ?_⟩
    have sm := same_new (o := .tup []) hp
    obtain ⟨a, xs, rfl, h1, h2⟩ := r1.tup (K := X.K) e1
    refine ⟨a, p, xs, rfl, rfl, same_seqT sm h1, upd_same, ?_⟩
    have e : xs.isEmpty = l.isEmpty := by cases h2 <;> rfl
    rw [e]
    exact hq _ s1 _ _ qx (R1.same sm) (g1.trans (Gr.of sm)) (Im.bl _)
  · exact qx.elim
end
end Lf
namespace Lf
open PySem PySem.Spec PyProof.Rows L2
section
variable {Z : Zn} {X : Cx} {a : Expr} {da : DX Z} {pos : Pos}
/-! ### t != () of a tuple of any items -/
theorem op_neET (hu : X.A.units < cLine) : OpR X (compareOp .NotEq) (fun x y H Q => ∃ (a b : Addr) (xs : List V), x = .ref a ∧ y = .ref b ∧ SqT X.K H a xs ∧ H b = some (.tup []) ∧ Q (.bl (!xs.isEmpty)) H) := by
  intro pins s σ H x y v u Q I rx ry h
  obtain ⟨a, b, xs, rfl, rfl, ha, hb, q⟩ := h
  cases (show v = Value.ref a from rx)
  cases (show u = Value.ref b from ry)
  obtain ⟨its, rv, ⟨o, ho, hc, n, hd⟩, _⟩ := I.tuple ha
  obtain ⟨jts, rw', ⟨o2, ho2, hc2, n2, hd2⟩, _⟩ := I.tuple (SqT.of hb)
  cases rw'
  have e : ((List.range (min its.toArray.size ([] : List Value).toArray.size)).all (fun _ => true) && its.toArray.size == ([] : List Value).toArray.size) = xs.isEmpty := by
    have same := rv.length
    cases xs with
    | nil =>
      cases rv
      rfl
    | cons x xs =>
      cases rv with
      | cons _ _ => rfl
  refine SeqAt.RcNeAt.tuples (e := fun _ => true) ⟨o, ho, hc, n, hd⟩ ⟨o2, ho2, hc2, n2, hd2⟩ hu (fun j _ h2 => absurd h2 (Nat.not_lt_zero j)) _ _ _ _ ?_
  rw [e]
  exact ⟨.bl _, H, I, rfl, q⟩
def dNeE (da : DX Z) : DX Z := fun s ρ Q => da s ρ fun x s1 => match x.D with
  | some (.tuple l) => Q (.im (.bool (!l.isEmpty))) s1
  | _ => False
theorem dt_neET {kk} {p' : Pos} (hu : X.A.units + 65 < cLine) (ha : DE Z X a da) : DTs Z X (.Compare a [.NotEq] [.Tuple [] kk p'] pos) (dTst (dNeE da)) := by
  refine PT.of (pt_cmpR (op_neET (by omega)) ha (pe_tup pa_nil) (nomark _)) fun σ H Q h => ?_
  obtain ⟨B0, H0, ρ, s, Qd, R, hd, hq⟩ := lift_tst h
  refine ⟨B0, H0, ρ, s, _, R, hd, fun x s1 v H1 qx R1 g1 r1 => ?_⟩
  split at qx
  · rename_i l e1
    refine ⟨by show 0 ≤ sizeLine; decide, fun p hp => ?_⟩
    have sm := same_new (o := .tup []) hp
    obtain ⟨a, xs, rfl, h1, h2⟩ := r1.tup (K := X.K) e1
    refine ⟨a, p, xs, rfl, rfl, same_seqT sm h1, upd_same, ?_⟩
    have e : xs.isEmpty = l.isEmpty := by cases h2 <;> rfl
    rw [e]
    exact hq _ s1 _ _ qx (R1.same sm) (g1.trans (Gr.of sm)) (Im.bl _)
  · exact qx.elim
end
end Lf
namespace Lf
open PySem PySem.Spec PyProof.Rows L2
/-! ### k72: what a text denotes, by the law -/
--@strint
--@inttext
--@emptylist
--@call _law_number P pass0
--@call _law_parts P pass0
--@call _law_tops P pass0
--@call _law_vertices_of P pass0
--@sub gok_name (i := 1) (by decide)) rfl nd (di_str (dv 0)) => gok_name (i := 1) (by decide)) rfl nd (di_str (dv 0))
--@sub dt_notinS (dv 1) de_str => dt_notinS (dv 1) de_str
--@sub (de_ixS (dv 0) de_int) => (de_ixS (dv 0) de_int)
--@sub (de_slS (dv 0) (do_some => (de_slS (dv 0) (do_some
theorem digits10 : TL.tl (Str.ofString "0123456789") = [48, 49, 50, 51, 52, 53, 54, 55, 56, 57] := by decide +kernel
theorem in_digits (c : Nat) : decide (c ∈ TL.tl (Str.ofString "0123456789")) = isDg c := by
  rw [digits10]
  unfold isDg
  rw [Bool.eq_iff_iff, decide_eq_true_iff, Bool.and_eq_true, decide_eq_true_iff, decide_eq_true_iff]
  simp only [List.mem_cons, List.not_mem_nil, or_false]
  omega
def Asc (z : Str) : Prop := ∀ c ∈ TL.tl z, c < 128
theorem Asc.ok {z : Str} (h : Asc z) : PyData.strOk z = true := by
  unfold PyData.strOk
  rw [all_tl, List.all_eq_true]
  exact fun c hc => decide_eq_true (by have := h c hc; omega)
theorem Asc.sh {z : Str} (h : Asc z) : SeqAt.shaped (.str z) = true := by
  unfold SeqAt.shaped
  rw [show PyData.canLay0 (.str z) = PyData.strOk z from rfl, h.ok]
  rfl
theorem Asc.app {x y : Str} (hx : Asc x) (hy : Asc y) : Asc (x ++ y) := fun c hc => by
  rw [TL.tl_append, List.mem_append] at hc
  exact hc.elim (hx c) (hy c)
theorem Asc.left {x y : Str} (h : Asc (x ++ y)) : Asc x := fun c hc => h c (by rw [TL.tl_append]; exact List.mem_append_left _ hc)
theorem Asc.right {x y : Str} (h : Asc (x ++ y)) : Asc y := fun c hc => h c (by rw [TL.tl_append]; exact List.mem_append_right _ hc)
theorem Asc.wrd {z : Str} (h : Asc z) : Asc (Lf.wrd z) := by
  rcases wrd_rst z with ⟨_, e, _⟩ | ⟨e, _⟩
  · rw [e]; exact h
  · rw [e] at h
    exact h.left.left
def ascB (z : Str) : Bool := (TL.tl z).all fun c => decide (c < 128)
theorem asc_of {z : Str} (h : ascB z = true) : Asc z := fun c hc => of_decide_eq_true (List.all_eq_true.mp h c hc)
theorem cut_rst {z : Str} (h : wrd z ≠ z) {k : Int} (hk : k = ((wrd z).length : Int) + 1) : cutS z (some k) none = rst z := by
  rcases wrd_rst z with ⟨_, e, _⟩ | ⟨e, _⟩
  · exact absurd e h
  · have el : z.length = (wrd z).length + 1 + (rst z).length := by rw [← spc_len, ← app_len, ← app_len, ← e]
    refine TL.ext_tl ?_
    show (((TL.tl z).drop (HT.sIx z.length 0 (some k))).take (HT.sIx z.length z.length none - HT.sIx z.length 0 (some k))) = TL.tl (rst z)
    have ek : k = (((wrd z).length + 1 : Nat) : Int) := by omega
    rw [ek, HT.sIx_none, HT.sIx_nat, Nat.min_eq_left (by omega)]
    have lz := TL.len_tl z
    rw [List.take_of_length_le (by rw [List.length_drop, ← lz]; exact Nat.le_refl _)]
    have et : TL.tl z = (TL.tl (wrd z) ++ TL.tl spc) ++ TL.tl (rst z) := by rw [← TL.tl_append, ← TL.tl_append, ← e]
    rw [et]
    refine List.drop_left' ?_
    rw [List.length_append, ← TL.len_tl, ← TL.len_tl, spc_len]
def fLNum : DF Z0 := fun s as Q => ∃ z : Str, as = [.im (.str z)] ∧ z.length ≤ 100000 ∧ Q (.im (if numB z 13 = true then .int (val z : Nat) else .none)) s
def fLPar : DF Z0 := fun s as Q => ∃ (z : Str) (fr : Bool), as = [.im (.str z), .im (.bool fr)] ∧ z.length ≤ 100000 ∧ (∀ i, scan fr (pts z) = some i → Q (.fr [.int (i : Nat)]) s) ∧ (scan fr (pts z) = none → Q (.im (tupN ((pts z).map val))) s)
def fTopsA : DF Z0 := fun s as Q => ∃ l : List Nat, as = [.im (tupN l)] ∧ l.length ≤ 24 ∧ Q (.fr (nD ((List.range l.length).filter fun v => decide (par l v = v)))) s
def fLFor : DF Z0 := fun s as Q => ∃ z : Str, as = [.im (.str z)] ∧ z.length ≤ 100000 ∧ (∀ i, resF z = .inl i → Q (.fr [.int (i : Nat)]) s) ∧ (∀ l, resF z = .inr l → Q (.im (tupN l)) s)
def fLVer : DF Z0 := fun s as Q => ∃ z : Str, as = [.im (.str z)] ∧ z.length ≤ 100000 ∧ (∀ i, resV z = .inl i → Q (.fr [.int (i : Nat)]) s) ∧ (∀ l, resV z = .inr l → Q (.im (tupN l)) s)
def fLCer : DF Z0 := fun s as Q => ∃ z : Str, as = [.im (.str z)] ∧ z.length ≤ 100000 ∧ Asc z ∧ (∀ x, ansC z = .list [x] → Q (.fr [x]) s) ∧ (∀ l, ansC z = .tuple l → Q (.im (.tuple l)) s)
theorem cut_one (l : List PyData) : cutD l none (some 1) = l.take 1 := by
  unfold cutD
  rw [HT.sIx_none, show (1 : Int) = ((1 : Nat) : Int) from rfl, HT.sIx_nat, List.drop_zero, Nat.sub_zero]
  by_cases h : 1 ≤ l.length
  · rw [Nat.min_eq_left h]
  · rw [Nat.min_eq_right (by omega)]
    have : l = [] := List.length_eq_zero_iff.mp (by omega)
    rw [this]
    rfl
theorem nD_take1 {L : List Nat} {k : Nat} (h : L[0]? = some k) : (nD L).take 1 = [.int (k : Nat)] := by
  cases L with
  | nil => cases h
  | cons x L => cases h; rfl
theorem eqv_nE (l : List Nat) : PyData.eqv (.list (nD l)) (.list []) = l.isEmpty := by cases l <;> rfl
theorem nD_empty (l : List Nat) : (nD l).isEmpty = l.isEmpty := by cases l <;> rfl
def badSg : PyData → Bool
  | .str u => !isDg (u.cps.getD 0 0)
  | _ => false
section
variable {P : Program} {w : World} {K : PySem.W.Frag} {mg : Str → Option Value} {base : Heap} {C : Addr}
abbrev s__law_number : Stmt := topS (31)
abbrev N__law_number : List Str := ["_law_part", "_law_sign"]
abbrev p__law_number : List Str := ["_law_part"]
theorem sc__law_number : FnScope N__law_number p__law_number (defScope s__law_number) := ⟨rfl, rfl, rfl, by decide +kernel, rfl, by decide +kernel, by decide +kernel⟩
theorem ok_lnum (M : Mk K mg "_law_number" s__law_number p__law_number) (m_int : mg "int" = none) (m_len : mg "len" = none) : Df P w K mg base CX0 1 "_law_number" p__law_number (spD Z0 fLNum) := by
  have nd := sc__law_number.nd
  refine def_ok (k := 0) M sc__law_number (by decide) ?_ (fun f cdv A outer s H E hr => have hu := hu65 hr; (ds_cons (ds_if (PW.pt (dw_or (dt_eq hu (dv 0) de_str) (dw_or (dt_gt (de_len (by rfl) m_len (da_cons (dv 0) da_nil)) de_int) (dw_or1 (dt_neE hu (de_lc (ow := [("_law_sign", 1)]) (gok_name (i := 1) (by decide)) rfl nd (di_str (dv 0)) (blkOk_by (own := [("_law_sign", 1)]) (N := N__law_number) (sc := defScope s__law_number) (by decide +kernel)) (fun _ _ _ _ _ => pg_name (i := 1) nd rfl (Or.inl rfl)) (fun _ _ _ _ _ => (dp_one (dt_notinS (dv 1) de_str))) (fun _ _ _ _ _ => (dv 1))) (de_lst da_nil)))))) (ds_one (ds_ret de_non)) ds_nil)
      (ds_one (ds_ret (de_if (PW.pt (dw_and (dt_eq hu (de_ixS (dv 0) de_int) de_str) (dw_and1 (dt_gt (de_len (by rfl) m_len (da_cons (dv 0) da_nil)) de_int)))) de_non (de_intS (by rfl) m_int (da_cons (dv 0) da_nil))))))) ?_
  · rintro s as Qd ⟨z, rfl, _⟩; rfl
  · rintro s as Qd ⟨z, rfl, hl, q⟩
    unfold numB at q
    by_cases e0 : z = Str.ofString ""
    · have dg : dgB z = false := by rw [e0]; decide +kernel
      rw [dg, Bool.false_and, if_neg Bool.false_ne_true] at q
      exact ifz_yes (c := decide (z = Str.ofString "")) (decide_eq_true e0) q
    refine ifz_no (c := decide (z = Str.ofString "")) (decide_eq_false e0) ?_
    refine ⟨by omega, ?_⟩
    by_cases l13 : 13 < z.length
    · rw [decide_eq_false (show ¬ z.length ≤ 13 by omega), Bool.false_and, Bool.and_false, if_neg Bool.false_ne_true] at q
      exact ifz_yes (c := decide ((13 : Int) < ((z.length : Nat) : Int))) (decide_eq_true (by omega)) q
    rw [decide_eq_true (show z.length ≤ 13 by omega), Bool.true_and] at q
    refine ifz_no (c := decide ((13 : Int) < ((z.length : Nat) : Int))) (decide_eq_false (by omega)) ?_
    refine ⟨rfl, ?_⟩
    refine lcR_fun (items := sgD z) (acc := []) (f := fun d => if badSg d = true then some d else none) (fun d hd D hD => ?_) (by have := sgD_len z; show 0 + _ ≤ _; omega) ?_
    · obtain ⟨c, hc, rfl⟩ := List.mem_map.mp hd
      refine ⟨c, rfl, ?_⟩
      rw [in_digits]
      show if (!isDg c) = true then _ else _
      have e : badSg (.str (sg c)) = !isDg c := rfl
      rw [e] at hD
      by_cases y : (!isDg c) = true
      · rw [if_pos y] at hD ⊢
        exact ⟨_, rfl, hD⟩
      · rw [if_neg y] at hD ⊢
        exact hD
    rw [List.nil_append, fm_if (fun d => badSg d) (fun d => d), List.map_id']
    refine ⟨_, rfl, by show 0 ≤ 1000000; decide, ?_⟩
    show if (!((sgD z).filter fun d => badSg d).isEmpty) = true then _ else _
    have ne : TL.tl z ≠ [] := fun y => e0 (TL.ext_tl (by rw [y]; decide +kernel))
    have eD : ((sgD z).filter fun d => badSg d).isEmpty = (TL.tl z).all isDg := by
      rw [Bool.eq_iff_iff, List.isEmpty_iff, List.filter_eq_nil_iff, List.all_eq_true]
      constructor
      · intro h c hc
        have := h _ (List.mem_map.mpr ⟨c, hc, rfl⟩)
        have e : badSg (.str (sg c)) = !isDg c := rfl
        rw [e, Bool.not_eq_true, Bool.not_eq_false'] at this
        exact this
      · intro h d hd
        obtain ⟨c, hc, rfl⟩ := List.mem_map.mp hd
        have e : badSg (.str (sg c)) = !isDg c := rfl
        rw [e, h c hc]
        decide
    have dgE : dgB z = (TL.tl z).all isDg := by
      unfold dgB
      rw [show (TL.tl z).isEmpty = false from by cases h : TL.tl z with | nil => exact absurd h ne | cons _ _ => rfl]
      exact Bool.true_and _
    rw [eD]
    rw [dgE] at q
    cases ad : (TL.tl z).all isDg with
    | false =>
      rw [ad, Bool.false_and, if_neg Bool.false_ne_true] at q
      exact ifz_yes (c := !false) rfl q
    | true =>
      rw [ad, Bool.true_and] at q
      refine ifz_no (c := !true) rfl ?_
      obtain ⟨c, r, ez⟩ : ∃ c r, TL.tl z = c :: r := by
        cases h : TL.tl z with
        | nil => exact absurd h ne
        | cons c r => exact ⟨c, r, rfl⟩
      have lz := TL.len_tl z
      rw [ez, List.length_cons] at lz
      have go : Qd (.im (.int (val z : Nat))) s → ∃ n : Int, PySem.intText? z = some n ∧ z.length ≤ 640 ∧ Qd (.im (.int n)) s := fun y => ⟨_, num_int (by rw [dgE]; exact ad) (by omega), by omega, y⟩
      unfold nlB at q
      rw [ez, List.head?_cons] at q
      refine ⟨c, by omega, by rw [ez]; exact atI_nat (j := 0) rfl, ?_⟩
      have eS : decide (sg c = Str.ofString "0") = decide (c = 48) := by
        rw [Bool.eq_iff_iff, decide_eq_true_iff, decide_eq_true_iff]
        constructor
        · intro h
          have := congrArg TL.tl h
          rw [show TL.tl (Str.ofString "0") = [48] from tl_zero] at this
          exact (List.cons.inj (show [c] = [48] from this)).1
        · rintro rfl
          exact TL.ext_tl (by rw [show TL.tl (Str.ofString "0") = [48] from tl_zero]; rfl)
      show if decide (sg c = Str.ofString "0") = true then _ else _
      rw [eS]
      by_cases c48 : c = 48
      · subst c48
        refine ifz_yes (c := decide (48 = 48)) rfl ?_
        refine ⟨by omega, ?_⟩
        by_cases l1 : 1 < z.length
        · have nz : z ≠ tZero := fun y => by rw [y] at l1; revert l1; decide +kernel
          rw [decide_eq_false nz, decide_eq_true rfl, if_neg (by decide)] at q
          exact ifz_yes (c := decide ((1 : Int) < ((z.length : Nat) : Int))) (decide_eq_true (by omega)) q
        · have ez0 : z = tZero := TL.ext_tl (by
            rw [tl_zero, ez]
            cases r with
            | nil => rfl
            | cons _ _ => rw [List.length_cons] at lz; omega)
          rw [decide_eq_true ez0, Bool.true_or, if_pos rfl] at q
          exact ifz_no (c := decide ((1 : Int) < ((z.length : Nat) : Int))) (decide_eq_false (by omega)) (go q)
      · refine ifz_no (c := decide (c = 48)) (decide_eq_false c48) ?_
        refine ifz_no (c := false) rfl ?_
        rw [decide_eq_false (show ¬ some c = some 48 from fun y => c48 (Option.some.inj y)), Bool.not_false, Bool.or_true, if_pos rfl] at q
        exact go q
abbrev s__law_parts : Stmt := topS (32)
abbrev N__law_parts : List Str := ["_law_text", "_law_free", "_law_found_here", "_law_index", "_law_part", "_law_number_here"]
abbrev p__law_parts : List Str := ["_law_text", "_law_free"]
theorem sc__law_parts : FnScope N__law_parts p__law_parts (defScope s__law_parts) := ⟨rfl, rfl, rfl, by decide +kernel, rfl, by decide +kernel, by decide +kernel⟩
theorem ok_lpar (M : Mk K mg "_law_parts" s__law_parts p__law_parts) (d__law_number : Df P w K mg base CX0 1 "_law_number" p__law_number (spD Z0 fLNum)) (m_enumerate : mg "enumerate" = none) (m_tuple : mg "tuple" = none) : Df P w K mg base CX0 2 "_law_parts" p__law_parts (spD Z0 fLPar) := by
  have nd := sc__law_parts.nd
  refine def_ok (k := 1) M sc__law_parts (by decide) ?_ (fun f cdv A outer s H E hr => have hu := hu65 hr; (ds_cons (ds_set (i := 2) nd rfl (.inl rfl) (de_lst da_nil))
      (ds_cons (ds_for PassesOwn.never rfl (di_enumQ (by rfl) m_enumerate (da_cons (de_split (dv 0) de_str) da_nil)) (dg_tup rfl nd (.cons (i := 3) rfl (.inl rfl) (.inl rfl) rfl (.cons (i := 4) rfl (.inl rfl) (.inl rfl) rfl .nil)))
      (ds_cons (ds_set (i := 5) nd rfl (.inl rfl) (de_callP d__law_number pass0 hr (da_cons (dv 4) da_nil)))
      (ds_cons (ds_if (PW.pt (dw_or (dt_isN (dv 5)) (dw_or (dt_gt (dv 5) de_int) (dw_or (dt_eq hu (dv 3) de_int) (dw_or1 (PW.pt (dw_and (dt_not (dt_tru (dv 1))) (dw_and1 (dt_in hu (dv 5) (dv 2)))))))))) (ds_one (ds_ret (de_lst (da_cons (dv 3) da_nil)))) ds_nil)
      (ds_one (ds_mt (i := 2) m2_app PySem.F.slot_list_append PySem.F.type_list_append mt_append rfl (by first | exact Or.inl rfl | exact Or.inr (Or.inl rfl) | exact Or.inr (Or.inr rfl)) (da_cons (dv 5) da_nil))))))
      (ds_one (ds_ret (de_tuple (by rfl) m_tuple (da_cons (dv 2) da_nil))))))) ?_
  · rintro s as Qd ⟨z, fr, rfl, _⟩; rfl
  · rintro s as Qd ⟨z, fr, rfl, hl, q1, q2⟩
    have pl := fun {p} (h : p ∈ pts z) => pts_le h
    have pm := pts_many z
    refine ⟨_, rfl, by show 0 ≤ 1000000; decide, fun a => ?_⟩
    refine ⟨⟨spc_ne, by omega⟩, rfl, fun k s ρ => ∃ x3 x4 x5 : Sl, ρ = [.im (.str z), .im (.bool fr), .ow a (nD (((pts z).take k).map val)), x3, x4, x5] ∧ ∀ j, j < k → badP fr (pts z) j = false, ⟨_, _, _, rfl, fun j hj => absurd hj (Nat.not_lt_zero _)⟩, ?_, ?_⟩
    · rintro k d s ρ hd ⟨x3, x4, x5, rfl, ok⟩
      obtain ⟨p, hp, rfl⟩ := enum_strs (P := pts z) hd
      have hk := (List.getElem?_eq_some_iff.mp hp).1
      have lp := pl (List.mem_of_getElem? hp)
      have ePrt := prt_at hp
      refine ⟨p, rfl, by omega, .inl rfl, ?_⟩
      have hit : badP fr (pts z) k = true → Qd (.fr [.int (k : Nat)]) s := fun hb => q1 k (scan_some hk hb ok)
      have v13 := vt_13 p
      by_cases n13 : numB p 13 = true
      · rw [if_pos n13]
        rw [n13, Bool.true_and] at v13
        by_cases big : 23 < val p
        · refine ifz_yes (c := decide ((23 : Int) < ((val p : Nat) : Int))) (decide_eq_true (by omega)) ?_
          refine ⟨_, rfl, by show 1 ≤ 1000000; decide, hit ?_⟩
          unfold badP
          rw [ePrt, ← v13, decide_eq_false (show ¬ val p < 24 by omega)]
          cases decide (k = 24) <;> rfl
        · have vt : vtB p = true := by rw [← v13]; exact decide_eq_true (by omega)
          refine ifz_no (c := decide ((23 : Int) < ((val p : Nat) : Int))) (decide_eq_false (by omega)) ?_
          by_cases k24 : k = 24
          · refine ifz_yes (c := decide (((k : Nat) : Int) = 24)) (decide_eq_true (by omega)) ?_
            refine ⟨_, rfl, by show 1 ≤ 1000000; decide, hit ?_⟩
            unfold badP
            rw [decide_eq_true k24, Bool.true_or]
          · refine ifz_no (c := decide (((k : Nat) : Int) = 24)) (decide_eq_false (by omega)) ?_
            have tl : (((pts z).take k).map val).length ≤ 100001 := by rw [List.length_map, List.length_take]; omega
            have goOn : badP fr (pts z) k = false → ∃ x3 x4 x5 : Sl, ([.im (.str z), .im (.bool fr), .ow a (nD (((pts z).take k).map val) ++ [.int (val p : Nat)]), .im (.int (k : Nat)), .im (.str p), .im (.int (val p : Nat))] : List Sl) = [.im (.str z), .im (.bool fr), .ow a (nD (((pts z).take (k + 1)).map val)), x3, x4, x5] ∧ ∀ j, j < k + 1 → badP fr (pts z) j = false := fun hb => by
              refine ⟨_, _, _, by rw [take_map hp, nD_snocA], fun j hj => ?_⟩
              by_cases e : j = k
              · subst e; exact hb
              · exact ok j (by omega)
            cases fr with
            | true =>
              refine ⟨trivial, ?_⟩
              refine ifz_no (c := !true) rfl ?_
              refine ⟨_, rfl, by rw [nD_len]; omega, goOn ?_⟩
              unfold badP
              rw [ePrt, vt, decide_eq_false k24]
              rfl
            | false =>
              refine ⟨trivial, ?_⟩
              refine ifz_yes (c := !false) rfl ?_
              refine ⟨rfl, sh_nD _, ?_⟩
              cases inn : decide (val p ∈ ((pts z).take k).map val) with
              | true =>
                refine ifz_yes (c := false != (nD (((pts z).take k).map val)).any fun z => PyData.eqv z (.int (val p : Nat))) (by rw [any_nD, inn]; rfl) ?_
                refine ⟨_, rfl, by show 1 ≤ 1000000; decide, hit ?_⟩
                unfold badP
                rw [ePrt, vt, decide_eq_false k24, inn]
                rfl
              | false =>
                refine ifz_no (c := false != (nD (((pts z).take k).map val)).any fun z => PyData.eqv z (.int (val p : Nat))) (by rw [any_nD, inn]; rfl) ?_
                refine ⟨_, rfl, by rw [nD_len]; omega, goOn ?_⟩
                unfold badP
                rw [ePrt, vt, decide_eq_false k24, inn]
                rfl
      · rw [if_neg n13]
        rw [Bool.not_eq_true] at n13
        rw [n13, Bool.false_and] at v13
        refine ⟨_, rfl, by show 1 ≤ 1000000; decide, hit ?_⟩
        unfold badP
        rw [ePrt, ← v13]
        cases decide (k = 24) <;> rfl
    · rintro s ρ ⟨x3, x4, x5, rfl, ok⟩
      rw [show (enumD ((Txt.split z (Str.ofString " ")).map PyData.str)).length = (pts z).length from enum_len (pts z)] at ok ⊢
      rw [List.take_length]
      exact q2 (scan_none ok)
abbrev s__law_tops : Stmt := topS (25)
abbrev N__law_tops : List Str := ["_law_parents", "_law_vertex"]
abbrev p__law_tops : List Str := ["_law_parents"]
theorem sc__law_tops : FnScope N__law_tops p__law_tops (defScope s__law_tops) := ⟨rfl, rfl, rfl, by decide +kernel, rfl, by decide +kernel, by decide +kernel⟩
theorem ok_ltopsA (M : Mk K mg "_law_tops" s__law_tops p__law_tops) (m_len : mg "len" = none) (m_range : mg "range" = none) : Df P w K mg base CX0 1 "_law_tops" p__law_tops (spD Z0 fTopsA) := by
  have nd := sc__law_tops.nd
  refine def_ok (k := 0) M sc__law_tops (by decide) ?_ (fun f cdv A outer s H E hr => have hu := hu65 hr; (ds_one (ds_ret (de_lc (ow := [("_law_vertex", 1)]) (gok_name (i := 1) (by decide)) rfl nd (di_r1 (by rfl) m_range (da_cons (de_len (by rfl) m_len (da_cons (dv 0) da_nil)) da_nil)) (blkOk_by (own := [("_law_vertex", 1)]) (N := N__law_tops) (sc := defScope s__law_tops) (by decide +kernel)) (fun _ _ _ _ _ => pg_name (i := 1) nd rfl (Or.inl rfl)) (fun _ _ _ _ _ => (dp_one (dt_eq hu (de_ix (dv 0) (dv 1)) (dv 1)))) (fun _ _ _ _ _ => (dv 1)))))) ?_
  · rintro s as Qd ⟨l, rfl, _⟩; rfl
  · rintro s as Qd ⟨l, rfl, few, q⟩
    refine ⟨rfl, by rw [nD_len]; omega, by rw [nD_len]; omega, ?_⟩
    rw [nD_len, Int.toNat_natCast]
    refine lcR_rng (f := fun v => if decide (par l v = v) = true then some (.int (v : Nat)) else none) (fun k hk D hD => ?_) (by omega) ?_
    · refine ⟨_, nD_at hk, ?_⟩
      show if decide (((par l k : Nat) : Int) = ((k : Nat) : Int)) = true then _ else _
      by_cases z : par l k = k
      · rw [if_pos (decide_eq_true (by omega))]
        rw [if_pos (decide_eq_true z)] at hD
        exact ⟨_, rfl, hD⟩
      · rw [if_neg (by rw [decide_eq_false (by omega)]; decide)]
        rw [if_neg (by rw [decide_eq_false z]; decide)] at hD
        exact hD
    · rw [fm_if]
      exact q
abbrev s__law_forest_of : Stmt := topS (33)
abbrev N__law_forest_of : List Str := ["_law_text", "_law_found_here", "_law_wrong", "_law_safe", "_law_turn", "_law_lost", "_law_k", "_law_v"]
abbrev p__law_forest_of : List Str := ["_law_text"]
theorem sc__law_forest_of : FnScope N__law_forest_of p__law_forest_of (defScope s__law_forest_of) := ⟨rfl, rfl, rfl, by decide +kernel, rfl, by decide +kernel, by decide +kernel⟩
theorem ok_lfor (M : Mk K mg "_law_forest_of" s__law_forest_of p__law_forest_of) (d__law_parts : Df P w K mg base CX0 2 "_law_parts" p__law_parts (spD Z0 fLPar)) (d__law_tops : Df P w K mg base CX0 1 "_law_tops" p__law_tops (spD Z0 fTopsA)) (m_isinstance : mg "isinstance" = none) (m_len : mg "len" = none) (m_list : mg "list" = none) (m_range : mg "range" = none) : Df P w K mg base CX0 3 "_law_forest_of" p__law_forest_of (spD Z0 fLFor) := by
  have nd := sc__law_forest_of.nd
  refine def_ok (k := 2) M sc__law_forest_of (by decide) ?_ (fun f cdv A outer s H E hr => have hu := hu65 hr; (ds_cons (ds_set (i := 1) nd rfl (.inr rfl) (de_callP d__law_parts pass0 hr (da_cons (dv 0) (da_cons de_bl da_nil))))
      (ds_cons (ds_if (dt_val (de_isi (by rfl) m_isinstance (da_cons (dv 1) (da_cons (de_raw (pe_bltn (v := .ty "list") (by rfl) m_list (by decide +kernel) rfl)) da_nil)))) (ds_one (ds_ret (dv 1))) ds_nil)
      (ds_cons (ds_setLc (i := 2) (ow := [("_law_k", 6)]) (gok_name (i := 6) (by decide)) rfl nd rfl rfl (sw_true rfl rfl rfl rfl) (di_r1 (by rfl) m_range (da_cons (de_len (by rfl) m_len (da_cons (dv 1) da_nil)) da_nil)) (blkOk_by (own := [("_law_k", 6)]) (N := N__law_forest_of) (sc := defScope s__law_forest_of) (by decide +kernel)) (fun _ _ _ _ _ => pg_name (i := 6) nd rfl (Or.inl rfl)) (fun _ _ _ _ _ => (dp_one (dt_ge (de_ix (dv 1) (dv 6)) (de_len (by rfl) m_len (da_cons (dv 1) da_nil))))) (fun _ _ _ _ _ => (dv 6)))
      (ds_cons (ds_if (dt_neE hu (dv 2) (de_lst da_nil)) (ds_one (ds_ret (de_sl (dv 2) do_none (do_some de_int)))) ds_nil)
      (ds_cons (ds_set (i := 3) nd rfl (.inr rfl) (de_callP d__law_tops pass0 hr (da_cons (dv 1) da_nil)))
      (ds_cons (ds_frz 1 (ds_for PassesOwn.never rfl (di_seq (dv 1)) (dg_name (i := 4) nd rfl (.inl rfl))
      (ds_one (ds_set (i := 3) nd rfl (.inr rfl) (de_add (dv 3) (de_lc (ow := [("_law_v", 7)]) (gok_name (i := 7) (by decide)) rfl nd (di_r1 (by rfl) m_range (da_cons (de_len (by rfl) m_len (da_cons (dv 1) da_nil)) da_nil)) (blkOk_by (own := [("_law_v", 7)]) (N := N__law_forest_of) (sc := defScope s__law_forest_of) (by decide +kernel)) (fun _ _ _ _ _ => pg_name (i := 7) nd rfl (Or.inl rfl)) (fun _ _ _ _ _ => (dp_one (PW.pt (dw_and (dt_notin hu (dv 7) (dv 3)) (dw_and1 (dt_in hu (de_ix (dv 1) (dv 7)) (dv 3))))))) (fun _ _ _ _ _ => (dv 7))))))))
      (ds_cons (ds_setLc (i := 5) (ow := [("_law_v", 7)]) (gok_name (i := 7) (by decide)) rfl nd rfl rfl (sw_true rfl rfl rfl rfl) (di_r1 (by rfl) m_range (da_cons (de_len (by rfl) m_len (da_cons (dv 1) da_nil)) da_nil)) (blkOk_by (own := [("_law_v", 7)]) (N := N__law_forest_of) (sc := defScope s__law_forest_of) (by decide +kernel)) (fun _ _ _ _ _ => pg_name (i := 7) nd rfl (Or.inl rfl)) (fun _ _ _ _ _ => (dp_one (dt_notin hu (dv 7) (dv 3)))) (fun _ _ _ _ _ => (dv 7)))
      (ds_one (ds_ret (de_if (dt_eq hu (dv 5) (de_lst da_nil)) (dv 1) (de_sl (dv 5) do_none (do_some de_int))))))))))))) ?_
  · rintro s as Qd ⟨z, rfl, _⟩; rfl
  · rintro s as Qd ⟨z, rfl, hl, q1, q2⟩
    refine ⟨z, true, rfl, hl, fun i hi => ⟨.inl rfl, fun a1 => ⟨.inr (.inr (.inr (.inr (.inl rfl)))), ?_⟩⟩, fun hn => ⟨.inl rfl, .inr (.inr (.inr (.inr (.inl rfl)))), ?_⟩⟩
    · have e : resF z = .inl i := by unfold resF; rw [hi]
      exact ifz_yes (c := true) rfl (q1 i e)
    refine ifz_no (c := false) rfl ?_
    have good : ∀ j, j < (pts z).length → badP true (pts z) j = false := fun j hj => by
      unfold scan at hn
      rw [List.find?_eq_none] at hn
      have := hn j (List.mem_range.mpr hj)
      rwa [Bool.not_eq_true] at this
    have few : ((pts z).map val).length ≤ 24 := by rw [List.length_map]; exact good_few good
    have eR : resF z = match perr ((pts z).map val) with | some k => .inl k | none => .inr ((pts z).map val) := by unfold resF; rw [hn]; try rfl
    generalize (pts z).map val = l at *
    have ln : (nD l).length = l.length := nD_len l
    refine ⟨rfl, by omega, by omega, ?_⟩
    rw [ln, Int.toNat_natCast]
    refine lcR_rng (f := fun k => if decide (l.length ≤ par l k) = true then some (.int (k : Nat)) else none) (fun k hk D hD => ?_) (by omega) ?_
    · refine ⟨_, nD_at hk, ?_⟩
      show if decide ((((nD l).length : Nat) : Int) ≤ ((par l k : Nat) : Int)) = true then _ else _
      by_cases y : l.length ≤ par l k
      · rw [if_pos (decide_eq_true (by omega))]
        rw [if_pos (decide_eq_true y)] at hD
        exact ⟨_, rfl, hD⟩
      · rw [if_neg (by rw [decide_eq_false (by omega)]; decide)]
        rw [if_neg (by rw [decide_eq_false y]; decide)] at hD
        exact hD
    rw [fm_if]
    intro a2
    refine ⟨_, rfl, by show 0 ≤ 1000000; decide, ?_⟩
    show if (!(nD ((List.range l.length).filter fun k => decide (l.length ≤ par l k))).isEmpty) = true then _ else _
    rw [nD_empty]
    have h0 := filter_find (p := fun k => decide (l.length ≤ par l k)) (n := l.length)
    cases ew : (List.range l.length).find? (fun k => decide (l.length ≤ par l k)) with
    | some k0 =>
      rw [ew] at h0
      have ne : ((List.range l.length).filter fun k => decide (l.length ≤ par l k)).isEmpty = false := by
        cases h : (List.range l.length).filter fun k => decide (l.length ≤ par l k) with
        | nil => rw [h] at h0; cases h0
        | cons _ _ => rfl
      rw [ne]
      refine ifz_yes (c := !false) rfl ?_
      have e : resF z = .inl k0 := by
        rw [eR]
        unfold perr
        rw [ew]
      have := q1 k0 e
      rw [← nD_take1 h0, ← cut_one] at this
      exact this
    | none =>
      rw [ew] at h0
      have em : (List.range l.length).filter (fun k => decide (l.length ≤ par l k)) = [] := by
        cases h : (List.range l.length).filter fun k => decide (l.length ≤ par l k) with
        | nil => rfl
        | cons _ _ => rw [h] at h0; cases h0
      have rng : ∀ k, k < l.length → par l k < l.length := fun k hk => by
        rw [List.find?_eq_none] at ew
        have := ew k (List.mem_range.mpr hk)
        rw [decide_eq_true_iff] at this
        omega
      rw [em]
      refine ifz_no (c := !true) rfl ?_
      have pe : perr l = (List.range l.length).find? (cyc l) := by unfold perr; rw [ew]
      refine ⟨l, rfl, few, .inl rfl, fun a3 => ⟨rfl, fun k s ρ => ∃ (a3 : Addr) (S : List Nat) (x4 : Sl), ρ = [.im (.str z), .im (tupN l), .ow a2 [], .ow a3 (nD S), x4, .no, .no, .no] ∧ (∀ v, v ∈ S ↔ v < l.length ∧ lead l k v = true) ∧ S.Nodup, ⟨a3, _, .no, rfl, fun v => ?_, List.Pairwise.filter _ List.nodup_range⟩, ?_, ?_⟩⟩
      · rw [List.mem_filter, List.mem_range]
        rfl
      · rintro k d s ρ hd ⟨a3, S, x4, rfl, hS, nS⟩
        have lS : S.length ≤ l.length := by
          have := nodup_sub (m := List.range l.length) nS fun v hv => List.mem_range.mpr ((hS v).mp hv).1
          rwa [List.length_range] at this
        refine ⟨rfl, by omega, by omega, ?_⟩
        rw [ln, Int.toNat_natCast]
        refine lcR_rng (f := fun v => if (!decide (v ∈ S) && decide (par l v ∈ S)) = true then some (.int (v : Nat)) else none) (fun v hv D hD => ?_) (by omega) ?_
        · refine ⟨rfl, sh_nD _, ?_⟩
          rw [any_nD, Bool.true_bne]
          cases in1 : decide (v ∈ S) with
          | true =>
            rw [in1, Bool.not_true, Bool.false_and, if_neg Bool.false_ne_true] at hD
            exact ifz_no (c := !true) rfl hD
          | false =>
            rw [in1, Bool.not_false, Bool.true_and] at hD
            refine ifz_yes (c := !false) rfl ?_
            refine ⟨_, nD_at hv, rfl, sh_nD _, ?_⟩
            rw [any_nD, Bool.false_bne]
            cases in2 : decide (l.getD v 0 ∈ S) with
            | true =>
              rw [show decide (par l v ∈ S) = true from in2, if_pos rfl] at hD
              exact ifz_yes (c := true) rfl ⟨_, rfl, hD⟩
            | false =>
              rw [show decide (par l v ∈ S) = false from in2, if_neg Bool.false_ne_true] at hD
              exact ifz_no (c := false) rfl hD
        rw [fm_if]
        have fl := List.length_filter_le (fun v => !decide (v ∈ S) && decide (par l v ∈ S)) (List.range l.length)
        rw [List.length_range] at fl
        refine ⟨by show (nD S).length + (nD _).length ≤ _; rw [nD_len, nD_len]; omega, fun a3 => ⟨a3, S ++ (List.range l.length).filter (fun v => !decide (v ∈ S) && decide (par l v ∈ S)), _, by rw [nD_app]; rfl, fun v => ?_, ?_⟩⟩
        · rw [List.mem_append, List.mem_filter, List.mem_range, lead_succ]
          refine (or_congr (hS v) Iff.rfl).trans ?_
          constructor
          · rintro (⟨h1, h2⟩ | ⟨h1, h2⟩)
            · exact ⟨h1, by rw [h2, Bool.true_or]⟩
            · rw [Bool.and_eq_true, decide_eq_true_iff] at h2
              exact ⟨h1, by rw [((hS _).mp h2.2).2, Bool.or_true]⟩
          · rintro ⟨h1, h2⟩
            cases e : lead l k v with
            | true => exact .inl ⟨h1, rfl⟩
            | false =>
              rw [e, Bool.false_or] at h2
              refine .inr ⟨h1, ?_⟩
              rw [Bool.and_eq_true, decide_eq_true_iff, Bool.not_eq_true', decide_eq_false_iff_not]
              exact ⟨fun y => (by have y := (hS v).mp y; rw [e] at y; cases y.2), (hS _).mpr ⟨rng v h1, h2⟩⟩
        · refine List.nodup_append.mpr ⟨nS, List.Pairwise.filter _ List.nodup_range, fun x hx y hy exy => ?_⟩
          subst exy
          have := (List.mem_filter.mp hy).2
          rw [Bool.and_eq_true, Bool.not_eq_true', decide_eq_false_iff_not] at this
          exact this.1 hx
      · rintro s ρ ⟨a3, S, x4, rfl, hS, nS⟩
        rw [ln] at hS
        refine ⟨rfl, by omega, by omega, ?_⟩
        rw [ln, Int.toNat_natCast]
        refine lcR_rng (f := fun v => if cyc l v = true then some (.int (v : Nat)) else none) (fun v hv D hD => ?_) (by omega) ?_
        · refine ⟨rfl, sh_nD _, ?_⟩
          rw [any_nD, Bool.true_bne]
          have e : (!decide (v ∈ S)) = cyc l v := by
            unfold cyc
            congr 1
            rw [Bool.eq_iff_iff, decide_eq_true_iff]
            exact ⟨fun h => ((hS v).mp h).2, fun h => (hS v).mpr ⟨hv, h⟩⟩
          rw [e]
          by_cases y : cyc l v = true
          · rw [if_pos y] at hD
            exact ifz_yes y ⟨_, rfl, hD⟩
          · rw [if_neg y] at hD
            rw [Bool.not_eq_true] at y
            exact ifz_no y hD
        rw [fm_if]
        intro a5
        refine ⟨_, rfl, by show 0 ≤ 1000000; decide, sh_nD _, rfl, ?_⟩
        show if PyData.eqv (.list (nD ((List.range l.length).filter (cyc l)))) (.list []) = true then _ else _
        rw [eqv_nE]
        have h1 := filter_find (p := cyc l) (n := l.length)
        rw [← pe] at h1
        cases ep : perr l with
        | none =>
          rw [ep] at h1 eR
          have em2 : ((List.range l.length).filter (cyc l)).isEmpty = true := by
            cases h : (List.range l.length).filter (cyc l) with
            | nil => rfl
            | cons _ _ => rw [h] at h1; cases h1
          rw [em2]
          exact ifz_yes (c := true) rfl (q2 l eR)
        | some k0 =>
          rw [ep] at h1 eR
          have em2 : ((List.range l.length).filter (cyc l)).isEmpty = false := by
            cases h : (List.range l.length).filter (cyc l) with
            | nil => rw [h] at h1; cases h1
            | cons _ _ => rfl
          rw [em2]
          have := q1 k0 eR
          rw [← nD_take1 h1, ← cut_one] at this
          exact ifz_no (c := false) rfl this
abbrev s__law_vertices_of : Stmt := topS (34)
abbrev N__law_vertices_of : List Str := ["_law_text"]
abbrev p__law_vertices_of : List Str := ["_law_text"]
theorem sc__law_vertices_of : FnScope N__law_vertices_of p__law_vertices_of (defScope s__law_vertices_of) := ⟨rfl, rfl, rfl, by decide +kernel, rfl, by decide +kernel, by decide +kernel⟩
theorem ok_lver (M : Mk K mg "_law_vertices_of" s__law_vertices_of p__law_vertices_of) (d__law_parts : Df P w K mg base CX0 2 "_law_parts" p__law_parts (spD Z0 fLPar)) : Df P w K mg base CX0 3 "_law_vertices_of" p__law_vertices_of (spD Z0 fLVer) := by
  have nd := sc__law_vertices_of.nd
  refine def_ok (k := 2) M sc__law_vertices_of (by decide) ?_ (fun f cdv A outer s H E hr => have hu := hu65 hr; (ds_one (ds_ret (de_if (dt_eq hu (dv 0) de_str) (de_tup da_nil) (de_callP d__law_parts pass0 hr (da_cons (dv 0) (da_cons de_bl da_nil))))))) ?_
  · rintro s as Qd ⟨z, rfl, _⟩; rfl
  · rintro s as Qd ⟨z, rfl, hl, q1, q2⟩
    unfold resV at q1 q2
    by_cases hn : z = tNone
    · rw [if_pos hn] at q2
      refine ifz_yes (c := decide (z = tNone)) (decide_eq_true hn) ?_
      exact ⟨_, rfl, by show 0 ≤ 1000000; decide, q2 [] rfl⟩
    · rw [if_neg hn] at q1 q2
      refine ifz_no (c := decide (z = tNone)) (decide_eq_false hn) ?_
      refine ⟨z, false, rfl, hl, fun i hi => ⟨.inl rfl, ?_⟩, fun hs => ⟨.inl rfl, ?_⟩⟩
      · rw [hi] at q1
        exact q1 i rfl
      · rw [hs] at q2
        exact q2 _ rfl
abbrev s__law_certificate_of : Stmt := topS (35)
abbrev N__law_certificate_of : List Str := ["_law_text", "_law_word", "_law_vertices"]
abbrev p__law_certificate_of : List Str := ["_law_text"]
theorem sc__law_certificate_of : FnScope N__law_certificate_of p__law_certificate_of (defScope s__law_certificate_of) := ⟨rfl, rfl, rfl, by decide +kernel, rfl, by decide +kernel, by decide +kernel⟩
theorem ok_lcer (M : Mk K mg "_law_certificate_of" s__law_certificate_of p__law_certificate_of) (d__law_vertices_of : Df P w K mg base CX0 3 "_law_vertices_of" p__law_vertices_of (spD Z0 fLVer)) (m_isinstance : mg "isinstance" = none) (m_len : mg "len" = none) (m_list : mg "list" = none) : Df P w K mg base CX0 4 "_law_certificate_of" p__law_certificate_of (spD Z0 fLCer) := by
  have nd := sc__law_certificate_of.nd
  refine def_ok (k := 3) M sc__law_certificate_of (by decide) ?_ (fun f cdv A outer s H E hr => have hu := hu65 hr; (ds_cons (ds_set (i := 1) nd rfl (.inl rfl) (de_ix (de_split (dv 0) de_str) de_int))
      (ds_cons (ds_if (dt_notin hu (dv 1) (de_lst (da_cons de_str (da_cons de_str da_nil)))) (ds_one (ds_ret (de_lst (da_cons de_non da_nil)))) ds_nil)
      (ds_cons (ds_set (i := 2) nd rfl (.inl rfl) (de_if (dt_eq hu (dv 1) (dv 0)) (de_lst (da_cons de_int da_nil)) (de_callP d__law_vertices_of pass0 hr (da_cons (de_slS (dv 0) (do_some (de_add (de_len (by rfl) m_len (da_cons (dv 1) da_nil)) de_int)) do_none) da_nil))))
      (ds_cons (ds_if (PW.pt (dw_or (dt_val (de_isi (by rfl) m_isinstance (da_cons (dv 2) (da_cons (de_raw (pe_bltn (v := .ty "list") (by rfl) m_list (by decide +kernel) rfl)) da_nil)))) (dw_or1 (PW.pt (dw_and (dt_eq hu (dv 1) de_str) (dw_and1 (dt_ne hu (de_len (by rfl) m_len (da_cons (dv 2) da_nil)) de_int))))))) (ds_one (ds_ret (de_lst (da_cons de_int da_nil)))) ds_nil)
      (ds_one (ds_ret (de_if (dt_eq hu (dv 1) de_str) (de_tup (da_cons (dv 1) (da_cons (dv 2) da_nil))) (de_tup (da_cons (dv 1) (da_cons (de_ix (dv 2) de_int) da_nil))))))))))) ?_
  · rintro s as Qd ⟨z, rfl, _⟩; rfl
  · rintro s as Qd ⟨z, rfl, hl, hA, q1, q2⟩
    have P0 := wrd_pts z
    have a1 : atI ((pts z).map PyData.str) 0 = some (.str (wrd z)) := by
      refine atI_nat (j := 0) ?_
      rw [List.getElem?_map, P0]
      rfl
    refine ⟨⟨spc_ne, by omega⟩, .str (wrd z), a1, [.str tHis, .str tHvy], rfl, by show 2 ≤ 1000000; decide, hA.wrd.sh, by decide +kernel, ?_⟩
    have any2 : ([.str tHis, .str tHvy].any fun d => PyData.eqv d (.str (wrd z))) = (decide (wrd z = tHis) || decide (wrd z = tHvy)) := by
      show (PyData.eqv (.str tHis) (.str (wrd z)) || (PyData.eqv (.str tHvy) (.str (wrd z)) || false)) = _
      rw [Bool.or_false]
      congr 1
      · show (tHis == wrd z) = _
        rw [Bool.eq_iff_iff, beq_iff_eq, decide_eq_true_iff]
        exact eq_comm
      · show (tHvy == wrd z) = _
        rw [Bool.eq_iff_iff, beq_iff_eq, decide_eq_true_iff]
        exact eq_comm
    have hh : tHvy ≠ tHis := by decide +kernel
    by_cases known : wrd z = tHis ∨ wrd z = tHvy
    · have kb : (decide (wrd z = tHis) || decide (wrd z = tHvy)) = true := by rw [Bool.or_eq_true, decide_eq_true_iff, decide_eq_true_iff]; exact known
      refine ifz_no (c := true != _) (by rw [any2, kb]; rfl) ?_
      by_cases alone : wrd z = z
      · refine ifz_yes (c := decide (wrd z = z)) (decide_eq_true alone) ?_
        refine ⟨_, rfl, by show 1 ≤ 1000000; decide, ?_⟩
        refine fun a2 => ⟨.inr (.inr (.inr (.inr (.inl rfl)))), ?_⟩
        refine ifz_yes (c := true) rfl ⟨_, rfl, by show 1 ≤ 1000000; decide, q1 (.int 0) ?_⟩
        have er : rst z = Str.empty := by
          rcases wrd_rst z with ⟨_, _, e⟩ | ⟨_, e⟩
          · exact e
          · exact absurd alone e
        unfold ansC
        rw [er]
        rcases known with k | k
        · rw [if_pos k, show resV Str.empty = .inl 0 from by decide +kernel]
        · rw [if_neg (by rw [k]; exact hh), if_pos k, if_neg (by decide +kernel)]
      · refine ifz_no (c := decide (wrd z = z)) (decide_eq_false alone) ?_
        have wl : (wrd z).length ≤ z.length := by
          have := pts_le (List.mem_of_getElem? P0)
          exact this
        have rl := rst_len z
        refine ⟨by omega, by omega, rst z, ?_, by omega, fun i hi => ?_, fun l hl2 => ?_⟩
        · rw [cut_rst alone rfl]
          rfl
        · refine ⟨.inl rfl, fun a2 => ⟨.inr (.inr (.inr (.inr (.inl rfl)))), ?_⟩⟩
          refine ifz_yes (c := true) rfl ⟨_, rfl, by show 1 ≤ 1000000; decide, q1 (.int 0) ?_⟩
          unfold ansC
          rcases known with k | k
          · rw [if_pos k, hi]
          · have h1 := heavy_one (rst z)
            rw [hi] at h1
            rw [if_neg (by rw [k]; exact hh), if_pos k, if_neg (fun y => by rw [if_pos y] at h1; cases h1)]
        · refine ⟨.inl rfl, .inr (.inr (.inr (.inr (.inl rfl)))), ?_⟩
          refine ifz_no (c := false) rfl ?_
          by_cases k : wrd z = tHvy
          · have k0 : wrd z ≠ tHis := by rw [k]; exact hh
            have h1 := heavy_one (rst z)
            rw [hl2] at h1
            have h1 : (if l.length = 1 then l[0]? else none) = _ := h1
            refine ifz_yes (c := decide (wrd z = tHvy)) (decide_eq_true k) ?_
            have lt := nD_len l
            by_cases one : l.length = 1
            · refine ifz_no (c := !decide _) (by rw [Bool.not_eq_false', decide_eq_true_iff]; omega) ?_
              rw [if_pos one] at h1
              by_cases y : vtB (rst z) = true
              · rw [if_pos y] at h1
                refine ifz_no (c := decide (wrd z = tHis)) (decide_eq_false k0) ?_
                refine ⟨.int (val (rst z) : Nat), atI_nat (j := 0) (by show (l.map fun x => PyData.int ((x : Nat) : Int))[0]? = _; rw [List.getElem?_map, h1]; rfl), _, rfl, by show 2 ≤ 1000000; decide, q2 [.str (wrd z), .int (val (rst z) : Nat)] ?_⟩
                unfold ansC
                rw [if_neg k0, if_pos k, if_pos y, k]
              · rw [if_neg y, List.getElem?_eq_none_iff] at h1
                omega
            · refine ifz_yes (c := !decide _) (by rw [Bool.not_eq_true', decide_eq_false_iff_not]; omega) ?_
              rw [if_neg one] at h1
              refine ⟨_, rfl, by show 1 ≤ 1000000; decide, q1 (.int 0) ?_⟩
              unfold ansC
              rw [if_neg k0, if_pos k, if_neg (fun y => by rw [if_pos y] at h1; cases h1)]
          · have kh : wrd z = tHis := known.resolve_right k
            refine ifz_no (c := decide (wrd z = tHvy)) (decide_eq_false k) ?_
            refine ifz_no (c := false) rfl ?_
            refine ifz_yes (c := decide (wrd z = tHis)) (decide_eq_true kh) ?_
            refine ⟨_, rfl, by show 2 ≤ 1000000; decide, q2 [.str (wrd z), tupN l] ?_⟩
            unfold ansC
            rw [if_pos kh, hl2, kh]
            rfl
    · have kb : (decide (wrd z = tHis) || decide (wrd z = tHvy)) = false := by rw [Bool.or_eq_false_iff, decide_eq_false_iff_not, decide_eq_false_iff_not]; exact not_or.mp known
      refine ifz_yes (c := true != _) (by rw [any2, kb]; rfl) ?_
      refine ⟨_, rfl, by show 1 ≤ 1000000; decide, q1 .none ?_⟩
      unfold ansC
      rw [if_neg (not_or.mp known).1, if_neg (not_or.mp known).2]
end
end Lf
namespace Lf
open PySem PySem.Spec PyProof.Rows L2
abbrev sWell : Stmt := topS (21)
abbrev sPull : Stmt := topS (22)
abbrev sItem : Stmt := topS (23)
abbrev sMixed : Stmt := topS (24)
abbrev sTops : Stmt := topS (25)
abbrev sHeft : Stmt := topS (26)
abbrev sGrown : Stmt := topS (27)
abbrev sWild : Stmt := topS (28)
abbrev sLine : Stmt := topS (29)
abbrev sForest : Stmt := topS (30)
section
variable {P : Program} {w : World} {K : PySem.W.Frag} {mg : Str → Option Value} {base : Heap}
theorem scWell : FnScope ["_law_script", "_law_state", "_law_cell"] ["_law_script"] (defScope sWell) := ⟨rfl, rfl, rfl, by decide +kernel, rfl, by decide +kernel, by decide +kernel⟩
theorem ok_well {f : Addr} {fd : FuncData} (F : Fun K "_law_well" "_law_well" sWell f fd) (ml : mg "len" = none) (ma : mg "abs" = none) (mi : mg "int" = none) : FnOk P w K mg base CX0 1 f fd ["_law_script"] (spWell K) := by
  refine F.ok scWell (fun vs H Q E h => ?_) (fun cdv A outer s H vs Q E hr h => ?_)
  · obtain ⟨a, ns, rfl, _⟩ := h
    rfl
  · obtain ⟨a, ns, rfl, hS, hlen, q⟩ := h
    refine ⟨_, pss_cons (ps_set (i := 1) scWell.nd rfl (.inl rfl) (pe_op op_add pe_int (pe_op op_mul pe_int (pe_callB call_len_seq (by rfl) ml PySem.boot_len (pa_cons (pv 0) pa_nil)))))
      (pss_cons (ps_for PassesOwn.never rfl (pi_list (pv 0)) (pg_name (i := 2) scWell.nd rfl (.inl rfl)) (pss_one (ps_set (i := 1) scWell.nd rfl (.inl rfl)
        (pe_op op_mod (pe_op op_add (pe_op op_add (pe_op op_add (pe_op op_mul (pv 1) pe_int) (pe_op op_mul pe_int (pe_callB call_abs (by rfl) ma (by decide +kernel) (pa_cons (pv 2) pa_nil))))
          (pe_callTy call_int1 (by rfl) mi (by decide +kernel) (pa_cons (pe_cmpR op_lt (pv 2) pe_int (nomark _)) pa_nil))) pe_int) (pe_op op_pow pe_int pe_int)))))
      (pss_one (ps_ret (pe_lst (pa_cons (pe_revL (pe_lc (own := [("_law_cell", 2)]) (g := gName 2) (by rfl) scWell.nd (pi_list (pv 0)) (blkOk_by (own := [("_law_cell", 2)]) (N := ["_law_script", "_law_state", "_law_cell"]) (sc := defScope sWell) (by decide +kernel))
        (fun _ _ _ _ _ => pg_name (i := 2) scWell.nd rfl (Or.inl rfl)) (fun _ _ _ _ _ => pts_one (pt_cmpR op_ge (pe_callB call_abs (by rfl) ma (by decide +kernel) (pa_cons (pv 2) pa_nil)) (pe_op op_pow pe_int pe_int) (nomark _)))
        (fun _ _ _ _ _ => pe_callB call_abs (by rfl) ma (by decide +kernel) (pa_cons (pv 2) pa_nil)))) (pa_cons (pv 1) pa_nil)))))), ?_⟩
    refine ⟨.ref a, rfl, a, _, rfl, .inl hS, 977, _, rfl, rfl, .inl ⟨by decide, by decide⟩, _, _, rfl, rfl, ?_⟩
    refine ⟨.ref a, rfl, a, rfl, ⟨_, hS⟩, for_list (K := K) (a := a) (xs := ns.map V.int) (fun i σ H' => H' = H ∧ ∃ (st : Int) (c : Option V), σ = [some (.ref a), some (.int st), c] ∧ 0 ≤ st ∧ st < 18446744073709551616)
      ⟨rfl, _, none, rfl, by omega, by rw [List.length_map]; omega⟩ (fun i σ H' _ p => p.1 ▸ hS) ?_ ?_⟩
    · rintro i y σ H' hi ⟨rfl, st, c, rfl, h0, h1⟩
      obtain ⟨z, hz, rfl⟩ : ∃ z, ns[i]? = some z ∧ y = V.int z := by
        rw [List.getElem?_map] at hi
        cases e : ns[i]? with
        | none =>
          rw [e] at hi
          cases hi
        | some z =>
          rw [e] at hi
          exact ⟨z, rfl, (Option.some.inj hi).symm⟩
      refine ⟨.int st, rfl, st, _, rfl, rfl, .inl ⟨by omega, by omega⟩, .int z, rfl, z, rfl, 2, _, rfl, rfl, .inl ⟨by decide, by decide⟩, _, _, rfl, rfl, .int z, rfl, z, 0, rfl, rfl, .inr ⟨_, rfl, _, _, rfl, rfl, _, _, rfl, rfl, 2, 64, rfl, rfl, ⟨by decide, by decide, by decide⟩, _, _, rfl, rfl, (by show (0 : Int) < 2 ^ 64; decide), ?_⟩⟩
      refine ⟨rfl, _, _, rfl, Int.emod_nonneg _ (by decide), Int.emod_lt_of_pos _ (by decide)⟩
    · rintro σ H' ⟨rfl, st, c, rfl, h0, h1⟩
      refine ⟨.ref a, rfl, a, rfl, ⟨_, hS⟩, fun D nD => lc_list (K := K) (a := a) (xs := ns.map V.int) (fun i H2 => Same H' H2 ∧ ∃ ms : List Int, H2 D = some (.lst (ms.map V.int)) ∧ ms.length ≤ i) ⟨same_new nD, [], upd_same, Nat.le_refl _⟩ (fun i H2 _ p => p.1.seq hS) ?_ ?_⟩
      · rintro i y H2 hi ⟨sm, ms, hD, hm⟩
        have hin : i < (ns.map V.int).length := by
          rcases Nat.lt_or_ge i (ns.map V.int).length with z | z
          · exact z
          · rw [List.getElem?_eq_none z] at hi
            cases hi
        rw [List.length_map] at hin
        obtain ⟨z, hz, rfl⟩ : ∃ z, ns[i]? = some z ∧ y = V.int z := by
          rw [List.getElem?_map] at hi
          cases e : ns[i]? with
          | none =>
            rw [e] at hi
            cases hi
          | some z =>
            rw [e] at hi
            exact ⟨z, rfl, (Option.some.inj hi).symm⟩
        refine ⟨rfl, .int z, rfl, z, rfl, 10, 18, rfl, rfl, ⟨by decide, by decide, by decide⟩, _, _, rfl, rfl, _, rfl, ite2 (fun _ => ?_) (fun _ => ?_)⟩
        · refine ⟨.int z, rfl, z, rfl, _, hD, ?_, fun b o e => ?_, ms ++ [if z < 0 then -z else z], ?_, ?_⟩
          · rw [List.length_map]
            exact small1000 (by omega)
          · rw [upd_ne (ne_of_none e nD)]
            exact sm _ _ e
          · rw [upd_same, List.map_append]
            rfl
          · rw [List.length_append]
            show ms.length + 1 ≤ i + 1
            omega
        · exact ⟨sm, ms, hD, by omega⟩
      · rintro H2 ⟨sm, ms, hD, hm⟩
        rw [List.length_map] at hm
        refine ⟨D, _, rfl, SqL.of hD, fun l nl => ⟨.int st, rfl, by show 2 ≤ sizeLine; decide, fun w nw => ?_⟩⟩
        have nlw : w ≠ l := fun z => by
          rw [z, upd_same] at nw
          cases nw
        have nw2 : H2 w = none := by
          rw [upd_ne nlw] at nw
          exact nw
        refine q _ w l (sm.trans ((same_new nl).trans (same_new nw))) ⟨nlw, ms.reverse, st, upd_same, ?_, ?_, h0, h1⟩ (sm.free nw2) (sm.free nl)
        · rw [upd_ne (Ne.symm nlw), upd_same, List.map_reverse]
        · rw [List.length_reverse]
          omega
theorem scPull : FnScope ["_law_well_here", "_law_many", "_law_rest"] ["_law_well_here", "_law_many"] (defScope sPull) := ⟨rfl, rfl, rfl, by decide +kernel, rfl, by decide +kernel, by decide +kernel⟩
theorem ok_pull {f : Addr} {fd : FuncData} (F : Fun K "_law_pull" "_law_pull" sPull f fd) : FnOk P w K mg base CX0 1 f fd ["_law_well_here", "_law_many"] spPull := by
  refine F.ok scPull (fun vs H Q E h => ?_) (fun cdv A outer s H vs Q E hr h => ?_)
  · obtain ⟨a, l, m, rfl, _⟩ := h
    rfl
  · obtain ⟨w, l, many, rfl, hW, m0, m1, q⟩ := h
    refine ⟨_, pss_cons (ps_while PassesOwn.never (pt_cmpR (op_neD hr.units) (pe_ix ix_list (pv 0) pe_int (fun _ _ => rfl)) (pe_lst pa_nil) (nomark _))
        (pss_cons (ps_set (i := 2) scPull.nd rfl (.inl rfl) (pe_bm0 PySem.F.plainAttrs_list PySem.F.slot_list_pop PySem.F.type_list_pop mt_pop (pe_ix ix_list (pv 0) pe_int (fun _ _ => rfl))))
        (pss_one (ps_if (pt_cmpR op_gt (pv 2) pe_int (nomark _))
          (pss_cons (ps_expr (pe_bm PySem.F.plainAttrs_list PySem.F.slot_list_append PySem.F.type_list_append mt_append (pe_ix ix_list (pv 0) pe_int (fun _ _ => rfl)) (pa_cons (pe_op op_fdiv (pv 2) (pv 1)) pa_nil)))
          (pss_one (ps_ret (pe_op op_mod (pv 2) (pv 1))))) pss_nil))))
      (pss_cons (ps_asg (pe_op op_mod (pe_op op_add (pe_op op_mul (pe_ix ix_list (pv 0) pe_int (fun _ _ => rfl)) pe_int) pe_int) (pe_op op_pow pe_int pe_int)) (pg_sub (pv 0) pe_int set_list))
      (pss_one (ps_ret (pe_op op_mod (pe_op op_fdivW (pe_ix ix_list (pv 0) pe_int (fun _ _ => rfl)) (pe_op op_pow pe_int pe_int)) (pv 1))))), ?_⟩
    obtain ⟨nwl, xs0, st0, hw0, hl0, hx0, s00, s01⟩ := hW
    refine ⟨fun m σ H1 => ∃ (xs : List Int) (st : Int) (c : Option V), m = xs.length ∧ σ = [some (.ref w), some (.int many), c] ∧ H1 w = some (.lst [.ref l, .int st]) ∧ H1 l = some (.lst (xs.map V.int)) ∧ xs.length ≤ 63 ∧ 0 ≤ st ∧ st < 18446744073709551616 ∧ Keep w l H H1,
      ⟨_, xs0, st0, none, rfl, rfl, hw0, hl0, hx0, s00, s01, Keep.refl⟩, ?_⟩
    rintro m σ H1 ⟨xs, st, c, rfl, rfl, hw, hl, hx, s0, s1, kp⟩
    refine ⟨.ref w, rfl, w, _, 0, .ref l, rfl, rfl, SqL.of hw, atI_nat (j := 0) rfl, by show 0 ≤ sizeLine; omega, fun p np => ?_⟩
    have sm := same_new (o := .lst []) np
    have hw2 := sm _ _ hw
    have hl2 := sm _ _ hl
    refine ⟨.list (xs.map .int), .list [], .lst (SqL.of hl2) (dpInts xs), .lst (SqL.of upd_same) .nil, shInts xs, rfl, _, rfl, ?_⟩
    rcases nil_or_snoc xs with rfl | ⟨ys, y, rfl⟩
    · -- the state's own draw
      refine iteF ?_
      refine ⟨.ref w, rfl, w, _, 1, .int st, rfl, rfl, SqL.of hw2, atI_nat (j := 1) rfl, st, _, rfl, rfl, .inl ⟨by omega, by omega⟩, _, _, rfl, rfl, 2, 64, rfl, rfl, ⟨by decide, by decide, by decide⟩, _, _, rfl, rfl, (by show (0 : Int) < 2 ^ 64; decide), ?_⟩
      refine ⟨.ref w, rfl, w, _, 1, 1, rfl, rfl, hw2, rfl, ?_⟩
      have b0 : 0 ≤ (st * 6364136223846793005 + 1442695040888963407) % 18446744073709551616 := Int.emod_nonneg _ (by decide)
      have b1 : (st * 6364136223846793005 + 1442695040888963407) % 18446744073709551616 < 18446744073709551616 := Int.emod_lt_of_pos _ (by decide)
      refine ⟨.ref w, rfl, w, _, 1, _, rfl, rfl, SqL.of upd_same, atI_nat (j := 1) rfl, 2, 33, rfl, rfl, ⟨by decide, by decide, by decide⟩, _, _, rfl, rfl, ?_, .int many, rfl, _, many, rfl, rfl, m0, ?_⟩
      · exact wide_div (by show (0 : Int) < 2 ^ 33; decide) (b := 34) (by decide) (by decide) (by decide)
      · refine q _ _ (Int.emod_nonneg _ (by omega)) (Int.emod_lt_of_pos _ m0) ⟨nwl, [], _, upd_same, ?_, hx, b0, b1⟩ (kp.trans ((Keep.of sm).trans fun b o h1 h2 h => ?_))
        · rw [upd_ne (Ne.symm nwl)]
          exact hl2
        · rw [upd_ne h1]
          exact h
    · have hv : PyData.eqv (.list ((ys ++ [y]).map .int)) (.list []) = false := by
        cases ys <;> rfl
      rw [hv]
      refine iteT ⟨fun σ' H' => ∃ (st : Int) (c : Option V), σ' = [some (.ref w), some (.int many), c] ∧ H' w = some (.lst [.ref l, .int st]) ∧ H' l = some (.lst (ys.map V.int)) ∧ 0 ≤ st ∧ st < 18446744073709551616 ∧ Keep w l H H', ?_, ?_⟩
      · rintro σ' H' ⟨st', c', rfl, z1, z2, z3, z4, z5⟩
        rw [List.length_append] at hx ⊢
        exact ⟨ys.length, by simp, ys, st', c', rfl, rfl, z1, z2, by omega, z3, z4, z5⟩
      · have lst2 : (upd (upd H1 p (.lst [])) l (.lst ((ys ++ [y]).map V.int).dropLast)) l = some (.lst (ys.map V.int)) := by
          rw [upd_same, List.map_append]
          simp
        refine ⟨.ref w, rfl, w, _, 0, .ref l, rfl, rfl, SqL.of hw2, atI_nat (j := 0) rfl, .inl ⟨rfl, _, SqL.of hl2⟩, l, _, .int y, rfl, rfl, hl2, ?_, .int y, rfl, y, 0, rfl, rfl, _, rfl, ite2 (fun hy => ?_) (fun hy => ?_)⟩
        · rw [List.map_append]
          exact get_last (ys.map V.int) (.int y)
        · have hw3 : (upd (upd H1 p (.lst [])) l (.lst ((ys ++ [y]).map V.int).dropLast)) w = some (.lst [.ref l, .int st]) := by
            rw [upd_ne nwl]
            exact hw2
          refine ⟨.ref w, rfl, w, _, 0, .ref l, rfl, rfl, SqL.of hw3, atI_nat (j := 0) rfl, .inl ⟨rfl, _, SqL.of lst2⟩, .int y, rfl, .int many, rfl, y, many, rfl, rfl, ⟨m0, m1⟩, l, _, _, rfl, rfl, lst2, ?_, ?_⟩
          · rw [List.length_map]
            rw [List.length_append] at hx
            exact small1000 (by omega)
          · refine ⟨.int y, rfl, .int many, rfl, y, many, rfl, rfl, m0, ?_⟩
            refine q _ _ (Int.emod_nonneg _ (by omega)) (Int.emod_lt_of_pos _ m0) ⟨nwl, ys ++ [y / many], st, ?_, ?_, ?_, s0, s1⟩ (kp.trans ((Keep.of sm).trans fun b o h1 h2 h => ?_))
            · rw [upd_ne nwl]
              exact hw3
            · rw [upd_same, List.map_append]
              rfl
            · rw [List.length_append] at hx ⊢
              exact hx
            · rw [upd_ne h2, upd_ne h2]
              exact h
        · refine ⟨st, some (.int y), rfl, ?_, lst2, s0, s1, kp.trans ((Keep.of sm).trans fun b o h1 h2 h => ?_)⟩
          · rw [upd_ne nwl]
            exact hw2
          · rw [upd_ne h2]
            exact h
theorem scItem : FnScope ["_law_well_here", "_law_items"] ["_law_well_here", "_law_items"] (defScope sItem) := ⟨rfl, rfl, rfl, by decide +kernel, rfl, by decide +kernel, by decide +kernel⟩
theorem ok_item {f fP : Addr} {fd fdP : FuncData} (F : Fun K "_law_item" "_law_item" sItem f fd) (FP : Fun K "_law_pull" "_law_pull" sPull fP fdP) (bP : Binds K fdP ["_law_well_here", "_law_many"] []) (gP : mg "_law_pull" = some (.ref fP)) (ml : mg "len" = none) :
    FnOk P w K mg base CX0 2 f fd ["_law_well_here", "_law_items"] spItem := by
  have GP : FnOk P w K mg base CX0 1 fP fdP ["_law_well_here", "_law_many"] spPull := ok_pull FP
  refine F.ok scItem (fun vs H Q E h => ?_) (fun cdv A outer s H vs Q E hr h => ?_)
  · obtain ⟨w, l, p, xs, rfl, _⟩ := h
    rfl
  · obtain ⟨w, l, p, xs, rfl, hW, hp, npw, npl, hne, hlen, q⟩ := h
    refine ⟨_, pss_one (ps_ret (pe_ix ix_list (pv 1) (pe_call GP hr (by rfl) gP FP.kp bP .nil pass0 (pa_cons (pv 0) (pa_cons (pe_callB call_len_seq (by rfl) ml PySem.boot_len (pa_cons (pv 1) pa_nil)) pa_nil))) (fun _ _ => rfl))), ?_⟩
    have pos : 0 < xs.length := List.length_pos_iff.mpr hne
    refine ⟨.ref p, rfl, .ref w, rfl, .ref p, rfl, p, xs, rfl, .inl (SqL.of hp), w, l, _, rfl, hW, by omega, by omega, fun r H' r0 r1 hW' kp => ?_⟩
    have hi : r.toNat < xs.length := by omega
    have er : ((r.toNat : Nat) : Int) = r := Int.toNat_of_nonneg r0
    refine ⟨p, xs, r, xs[r.toNat], rfl, rfl, SqL.of (kp _ _ npw npl hp), ?_, q _ _ (List.getElem_mem hi) hW' kp⟩
    have z := atI_nat (List.getElem?_eq_getElem hi)
    rw [er] at z
    exact z
end
end Lf
namespace Lf
open PySem PySem.Spec PyProof.Rows L2
/-! ### _law_mixed, _law_tops, _law_heft -/
def spMixed : Sp := fun vs H Q _ => ∃ (w l p : Addr) (ns : List Nat), vs = [.ref w, .ref p] ∧ Well w l H ∧ H p = some (.lst (nv ns)) ∧ ns.length ≤ 1000 ∧
  ∀ (ms : List Nat) (q : Addr) (H' : Hp), ms.Perm ns → Well w l H' → Keep w l H H' → H q = none → H' q = some (.lst (nv ms)) → Q (.ref q) H'
def spTops (K : PySem.W.Frag) : Sp := fun vs H Q _ => ∃ (p : Addr) (fs : List Nat), vs = [.ref p] ∧ SqQ K H p (nv fs) ∧ fs.length ≤ 1000 ∧
  ∀ (q : Addr) (H' : Hp), Same H H' → H q = none → H' q = some (.lst (nv (tops fs))) → Q (.ref q) H'
def spHeft (K : PySem.W.Frag) : Sp := fun vs H Q _ => ∃ (p : Addr) (fs : List Nat) (v : Nat), vs = [.ref p, .int (v : Nat)] ∧ SqQ K H p (nv fs) ∧ Forest fs ∧ v < fs.length ∧
  ∀ (ins : List Nat) (H' : Hp), Same H H' → ins.Nodup → (∀ u, u ∈ ins ↔ u < fs.length ∧ Bel fs v u) → Q (.int (ins.length : Nat)) H'
theorem erase_map {α β : Type} (f : α → β) : ∀ (l : List α) (i : Nat), (l.map f).eraseIdx i = (l.eraseIdx i).map f
  | [], _ => rfl
  | _ :: _, 0 => rfl
  | x :: l, i + 1 => by
    show f x :: (l.map f).eraseIdx i = f x :: (l.eraseIdx i).map f
    rw [erase_map f l i]
theorem erase_permT {α : Type} : ∀ (l : List α) (i : Nat) (h : i < l.length), (l[i] :: l.eraseIdx i).Perm l
  | [], i, h => absurd h (Nat.not_lt_zero i)
  | x :: l, 0, _ => .refl _
  | x :: l, i + 1, h => by
    have ih := erase_permT l i (Nat.lt_of_succ_lt_succ h)
    show (l[i]'(Nat.lt_of_succ_lt_succ h) :: x :: l.eraseIdx i).Perm (x :: l)
    exact (List.Perm.swap _ _ _).trans (.cons x ih)
theorem seqAt {i : Int} {n : Nat} (h0 : 0 ≤ i) (h1 : i < n) : seqIndex? i n = some i.toNat := by
  unfold seqIndex?
  have e : (if i < 0 then i + n else i) = i := if_neg (by omega)
  show (if (decide (0 ≤ (if i < 0 then i + n else i)) && decide ((if i < 0 then i + n else i) < n)) = true then some (if i < 0 then i + (n : Int) else i).toNat else none) = _
  rw [e, decide_eq_true h0, decide_eq_true h1]
  rfl
theorem range_filter_succ {k : Nat} (p : Nat → Bool) : (List.range (k + 1)).filter p = if p k = true then (List.range k).filter p ++ [k] else (List.range k).filter p := by
  rw [List.range_succ, List.filter_append]
  by_cases h : p k = true
  · rw [if_pos h, List.filter_cons_of_pos h]
    rfl
  · rw [if_neg h, List.filter_cons_of_neg h]
    simp
theorem range_filter_le (k : Nat) (p : Nat → Bool) : ((List.range k).filter p).length ≤ k := by
  have := List.length_filter_le p (List.range k)
  rwa [List.length_range] at this
theorem natV_inj {a b : Nat} : (V.int (a : Int) = V.int (b : Int)) ↔ a = b := by
  refine ⟨fun h => ?_, fun h => by rw [h]⟩
  have := V.int.inj h
  omega
section
variable {P : Program} {w : World} {K : PySem.W.Frag} {mg : Str → Option Value} {base : Heap}
theorem scMixed : FnScope ["_law_well_here", "_law_items", "_law_rest", "_law_found_here"] ["_law_well_here", "_law_items"] (defScope sMixed) := ⟨rfl, rfl, rfl, by decide +kernel, rfl, by decide +kernel, by decide +kernel⟩
theorem ok_mixed {f fP : Addr} {fd fdP : FuncData} (F : Fun K "_law_mixed" "_law_mixed" sMixed f fd) (FP : Fun K "_law_pull" "_law_pull" sPull fP fdP) (bP : Binds K fdP ["_law_well_here", "_law_many"] []) (gP : mg "_law_pull" = some (.ref fP)) (ml : mg "len" = none) (mL : mg "list" = none) :
    FnOk P w K mg base CX0 2 f fd ["_law_well_here", "_law_items"] spMixed := by
  have GP : FnOk P w K mg base CX0 1 fP fdP ["_law_well_here", "_law_many"] spPull := ok_pull FP
  refine F.ok scMixed (fun vs H Q E h => ?_) (fun cdv A outer s H vs Q E hr h => ?_)
  · obtain ⟨w, l, p, xs, rfl, _⟩ := h
    rfl
  · obtain ⟨w, l, p, ns, rfl, hW, hp, hlen, q⟩ := h
    refine ⟨_, pss_cons (ps_par (i := 2) (j := 3) (by rfl) scMixed.nd rfl rfl (by decide) rfl rfl (pa_cons (pe_callTy call_list_of (by rfl) mL (by decide +kernel) (pa_cons (pv 1) pa_nil)) (pa_cons (pe_lst pa_nil) pa_nil)) (by rfl))
      (pss_cons (ps_while PassesOwn.never (pt_cmpR (op_neD hr.units) (pv 2) (pe_lst pa_nil) (nomark _)) (pss_one (ps_expr (pe_bm PySem.F.plainAttrs_list PySem.F.slot_list_append PySem.F.type_list_append mt_append (pv 3)
          (pa_cons (pe_bm PySem.F.plainAttrs_list PySem.F.slot_list_pop PySem.F.type_list_pop mt_popAt (pv 2) (pa_cons (pe_call GP hr (by rfl) gP FP.kp bP .nil pass0 (pa_cons (pv 0) (pa_cons (pe_callB call_len_seq (by rfl) ml PySem.boot_len (pa_cons (pv 2) pa_nil)) pa_nil))) pa_nil)) pa_nil)))))
      (pss_one (ps_ret (pv 3)))), ?_⟩
    refine ⟨.ref p, rfl, p, _, rfl, .inl (SqL.of hp), fun r nr => ⟨by show 0 ≤ sizeLine; decide, fun d nd => ⟨.ref r, .ref d, rfl, ?_⟩⟩⟩
    have Sr := same_new (o := .lst (nv ns)) nr
    have Sd := same_new (o := .lst []) nd
    have rd : r ≠ d := fun z => by
      rw [← z, upd_same] at nd
      cases nd
    obtain ⟨nwl, x0, st0, hw0, hl0, hx0⟩ := id hW
    have rw' : r ≠ w := (ne_of_none hw0 nr).symm
    have rl : r ≠ l := (ne_of_none hl0 nr).symm
    have dw : d ≠ w := (ne_of_none (Sr _ _ hw0) nd).symm
    have dl : d ≠ l := (ne_of_none (Sr _ _ hl0) nd).symm
    have hd0 : H d = none := Sr.free nd
    refine ⟨fun m σ H1 => ∃ rs fs : List Nat, m = rs.length ∧ σ = [some (.ref w), some (.ref p), some (.ref r), some (.ref d)] ∧ H1 r = some (.lst (nv rs)) ∧ H1 d = some (.lst (nv fs)) ∧ (fs ++ rs).Perm ns ∧ Well w l H1 ∧ Keep w l H H1,
      ⟨_, ns, [], rfl, rfl, Sd _ _ upd_same, upd_same, .refl _, hW.same (Sr.trans Sd), Keep.of (Sr.trans Sd)⟩, ?_⟩
    rintro m σ H1 ⟨rs, fs, rfl, rfl, hr1, hd1, pm, hW1, kp⟩
    have lens : fs.length + rs.length = ns.length := by
      have := pm.length_eq
      rwa [List.length_append] at this
    refine ⟨.ref r, rfl, by show 0 ≤ sizeLine; decide, fun e ne => ?_⟩
    have Se := same_new (o := .lst []) ne
    refine ⟨_, .list [], .lst (SqL.of (Se _ _ hr1)) (dpNv rs), .lst (SqL.of upd_same) .nil, shInts _, rfl, _, rfl, ?_⟩
    cases rs with
    | nil =>
      refine iteF ⟨.ref d, rfl, q fs d _ (by simpa using pm) (hW1.same Se) (kp.trans (Keep.of Se)) hd0 (Se _ _ hd1)⟩
    | cons x0 rt =>
      generalize hrs : x0 :: rt = rs at *
      have pos : 0 < rs.length := by rw [← hrs]; exact Nat.succ_pos _
      have hv : PyData.eqv (.list ((rs.map fun x => ((x : Nat) : Int)).map .int)) (.list []) = false := by
        rw [← hrs]
        rfl
      rw [hv]
      refine iteT ⟨fun σ' H' => ∃ rs' fs' : List Nat, rs'.length < rs.length ∧ σ' = [some (.ref w), some (.ref p), some (.ref r), some (.ref d)] ∧ H' r = some (.lst (nv rs')) ∧ H' d = some (.lst (nv fs')) ∧ (fs' ++ rs').Perm ns ∧ Well w l H' ∧ Keep w l H H', ?_, ?_⟩
      · rintro σ' H' ⟨rs', fs', z0, z1, z2, z3, z4, z5, z6⟩
        exact ⟨_, z0, rs', fs', rfl, z1, z2, z3, z4, z5, z6⟩
      · refine ⟨.ref d, rfl, .inl ⟨rfl, _, SqL.of (Se _ _ hd1)⟩, .ref r, rfl, .inl ⟨rfl, _, SqL.of (Se _ _ hr1)⟩, .ref w, rfl, .ref r, rfl, r, _, rfl, .inl (SqL.of (Se _ _ hr1)), w, l, _, rfl, hW1.same Se, ?_, ?_, fun i H2 i0 i1 hW2 kp2 => ?_⟩
        · rw [nv_length]
          omega
        · rw [nv_length]
          omega
        · rw [nv_length] at i1
          have hi : i.toNat < rs.length := by omega
          have hr2 : H2 r = some (.lst (nv rs)) := kp2 _ _ rw' rl (Se _ _ hr1)
          have hd2 : H2 d = some (.lst (nv fs)) := kp2 _ _ dw dl (Se _ _ hd1)
          refine ⟨r, _, i, i.toNat, _, rfl, rfl, hr2, by omega, by omega, ?_, nv_get hi, d, nv fs, _, rfl, rfl, ?_, ?_, ?_⟩
          · rw [nv_length]
            exact seqAt i0 i1
          · rw [upd_ne rd.symm]
            exact hd2
          · rw [nv_length]
            exact small1000 (by omega)
          · refine ⟨rs.eraseIdx i.toNat, fs ++ [rs.getD i.toNat 0], ?_, rfl, ?_, ?_, ?_, ?_, ?_⟩
            · rw [List.length_eraseIdx_of_lt hi]
              omega
            · rw [upd_ne rd, upd_same]
              unfold nv
              rw [erase_map]
            · rw [upd_same, nv_append]
              rfl
            · refine List.Perm.trans ?_ pm
              rw [List.append_assoc]
              refine List.Perm.append_left _ ?_
              have e1 : rs.getD i.toNat 0 = rs[i.toNat] := by rw [List.getD_eq_getElem?_getD, List.getElem?_eq_getElem hi]; rfl
              rw [e1]
              exact erase_permT rs _ hi
            · obtain ⟨n3, x3, st3, hw3, hl3, r3⟩ := hW2
              exact ⟨n3, x3, st3, by rw [upd_ne dw.symm, upd_ne rw'.symm]; exact hw3, by rw [upd_ne dl.symm, upd_ne rl.symm]; exact hl3, r3⟩
            · intro b o h1 h2 h
              rw [upd_ne (ne_of_none h hd0), upd_ne (ne_of_none h nr)]
              exact kp2 b o h1 h2 (Se _ _ (kp b o h1 h2 h))
theorem scTops : FnScope ["_law_parents", "_law_vertex"] ["_law_parents"] (defScope sTops) := ⟨rfl, rfl, rfl, by decide +kernel, rfl, by decide +kernel, by decide +kernel⟩
theorem ok_tops {f : Addr} {fd : FuncData} (F : Fun K "_law_tops" "_law_tops" sTops f fd) (ml : mg "len" = none) (mr : mg "range" = none) : FnOk P w K mg base CX0 1 f fd ["_law_parents"] (spTops K) := by
  refine F.ok scTops (fun vs H Q E h => ?_) (fun cdv A outer s H vs Q E hr h => ?_)
  · obtain ⟨p, fs, rfl, _⟩ := h
    rfl
  · obtain ⟨p, fs, rfl, hp, hlen, q⟩ := h
    refine ⟨_, pss_one (ps_ret (pe_lc (own := [("_law_vertex", 1)]) (g := gName 1) (tt := tTest (tOp rEq (tOp (rIxQ K) (tVar 0) (tVar 1)) (tVar 1))) (te := tVar 1) (by rfl) scTops.nd (pi_range1 (by rfl) mr (pa_cons (pe_callB call_len_seq (by rfl) ml PySem.boot_len (pa_cons (pv 0) pa_nil)) pa_nil))
      (blkOk_by (own := [("_law_vertex", 1)]) (N := ["_law_parents", "_law_vertex"]) (sc := defScope sTops) (by decide +kernel)) (fun _ _ _ _ _ => pg_name (i := 1) scTops.nd rfl (Or.inl rfl))
      (fun _ _ _ _ _ => pts_one (pt_cmpR op_eq (pe_ix ix_q (pv 0) (pv 1) (fun _ _ => rfl)) (pv 1) (nomark _))) (fun _ _ _ _ _ => pv 1))), ?_⟩
    refine ⟨.ref p, rfl, p, _, rfl, hp, _, rfl, ?_, ?_, fun D nD => lc_range (lo := 0) (n := ((nv fs).length : Int).toNat) (fun k H2 => Same H H2 ∧ H2 D = some (.lst (nv ((List.range k).filter fun v => decide (par fs v = v))))) ⟨same_new nD, upd_same⟩ ?_ ?_⟩
    · rw [nv_length]
      omega
    · rw [nv_length]
      omega
    · rintro k H2 hk ⟨sm, hD⟩
      rw [nv_length] at hk
      have hk' : k < fs.length := by omega
      refine ⟨rfl, .ref p, rfl, .int (0 + (k : Int)), rfl, p, _, (k : Int), .int ((par fs k : Nat) : Int), rfl, by rw [Int.zero_add], hp.same sm, atI_nat (nv_get hk'), .int (0 + (k : Int)), rfl, rfl, _, rfl, ite2 (fun hc => ?_) (fun hc => ?_)⟩
      · rw [Int.zero_add] at hc
        have hc : par fs k = k := natV_inj.mp (of_decide_eq_true hc)
        refine ⟨.int (0 + (k : Int)), rfl, _, hD, ?_, fun b o z => ?_, ?_⟩
        · rw [nv_length]
          exact small1000 (Nat.le_trans (range_filter_le _ _) (by omega))
        · rw [upd_ne (ne_of_none z nD)]
          exact sm _ _ z
        · rw [upd_same, range_filter_succ, if_pos (decide_eq_true hc), nv_append, Int.zero_add]
          rfl
      · rw [Int.zero_add] at hc
        refine ⟨sm, ?_⟩
        rw [hD, range_filter_succ, if_neg]
        intro z
        exact hc (decide_eq_true (natV_inj.mpr (of_decide_eq_true z)))
    · rintro H2 ⟨sm, hD⟩
      rw [nv_length, Int.toNat_natCast] at hD
      exact q D H2 sm nD hD
theorem scHeft : FnScope ["_law_parents", "_law_vertex", "_law_inside", "_law_count", "_law_v"] ["_law_parents", "_law_vertex"] (defScope sHeft) := ⟨rfl, rfl, rfl, by decide +kernel, rfl, by decide +kernel, by decide +kernel⟩
theorem ok_heft {f : Addr} {fd : FuncData} (F : Fun K "_law_heft" "_law_heft" sHeft f fd) (ml : mg "len" = none) (mr : mg "range" = none) : FnOk P w K mg base CX0 1 f fd ["_law_parents", "_law_vertex"] (spHeft K) := by
  refine F.ok scHeft (fun vs H Q E h => ?_) (fun cdv A outer s H vs Q E hr h => ?_)
  · obtain ⟨p, fs, v, rfl, _⟩ := h
    rfl
  · obtain ⟨p, fs, v, rfl, hp, hF, hv, q⟩ := h
    refine ⟨_, pss_cons (ps_asg (pe_tup (pa_cons (pe_lst (pa_cons (pv 1) pa_nil)) (pa_cons pe_int pa_nil))) (pg_tup rfl (pgs_cons (pg_name (i := 2) scHeft.nd rfl (.inr rfl)) (pgs_cons (pg_name (i := 3) scHeft.nd rfl (.inr rfl)) pgs_nil))))
      (pss_cons (ps_while PassesOwn.never (pt_cmpR op_lt (pv 3) (pe_callB call_len_seq (by rfl) ml PySem.boot_len (pa_cons (pv 2) pa_nil)) (nomark _))
        (pss_cons (ps_set (i := 2) scHeft.nd rfl (.inr rfl) (pe_op op_cat (pv 2) (pe_lc (own := [("_law_v", 4)]) (g := gName 4)
            (tt := tAnd (tTest (tOp rEq (tOp (rIxQ K) (tVar 0) (tVar 4)) (tOp (rIxL K) (tVar 2) (tVar 3)))) (tTest (tOp rNe (tVar 4) (tOp (rIxQ K) (tVar 0) (tVar 4))))) (te := tVar 4) (by rfl) scHeft.nd (pi_range1 (by rfl) mr (pa_cons (pe_callB call_len_seq (by rfl) ml PySem.boot_len (pa_cons (pv 0) pa_nil)) pa_nil))
          (blkOk_by (own := [("_law_v", 4)]) (N := ["_law_parents", "_law_vertex", "_law_inside", "_law_count", "_law_v"]) (sc := defScope sHeft) (by decide +kernel)) (fun _ _ _ _ _ => pg_name (i := 4) scHeft.nd rfl (Or.inl rfl))
          (fun _ _ _ _ _ => pts_one (PW.pt (pw_and (pt_cmpR op_eq (pe_ix ix_q (pv 0) (pv 4) (fun _ _ => rfl)) (pe_ix ix_list (pv 2) (pv 3) (fun _ _ => rfl)) (nomark _)) (pw_and1 (pt_cmpR op_ne (pv 4) (pe_ix ix_q (pv 0) (pv 4) (fun _ _ => rfl)) (nomark _)))))) (fun _ _ _ _ _ => pv 4))))
        (pss_one (ps_set (i := 3) scHeft.nd rfl (.inr rfl) (pe_op op_add (pv 3) pe_int)))))
      (pss_one (ps_ret (pv 3)))), ?_⟩
    refine ⟨.int (v : Nat), rfl, (by show 1 ≤ sizeLine; decide), fun q1 n1 => ⟨(by show 2 ≤ sizeLine; decide), fun t nt => ⟨t, _, rfl, SqT.of upd_same, rfl, _, _, rfl, _, _, rfl, rfl, ?_⟩⟩⟩
    have S1 := same_new (o := .lst [V.int (v : Nat)]) n1
    have S2 := same_new (o := .tup [V.ref q1, V.int 0]) nt
    refine ⟨fun m σ H1 => ∃ (ins : List Nat) (c : Nat) (qa : Addr), m = fs.length - c ∧ σ = [some (.ref p), some (.int (v : Nat)), some (.ref qa), some (.int (c : Nat)), none] ∧ Same H H1 ∧ H1 qa = some (.lst (nv ins)) ∧ Bfs fs v ins c,
      ⟨_, [v], 0, q1, rfl, rfl, S1.trans S2, S2 _ _ upd_same, Bfs.start hv⟩, ?_⟩
    rintro m σ H1 ⟨ins, c, qa, rfl, rfl, sm, hqa, B⟩
    have few := hF.few
    have le := B.le
    refine ⟨.int (c : Nat), rfl, .ref qa, rfl, qa, _, rfl, .inl (SqL.of hqa), _, _, rfl, rfl, _, rfl, ite2 (fun hc => ?_) (fun hc => ?_)⟩
    · have hc : (c : Int) < ((nv ins).length : Int) := of_decide_eq_true hc
      rw [nv_length] at hc
      have hcl : c < ins.length := by omega
      have ec : ins[c]? = some (ins.getD c 0) := by rw [List.getD_eq_getElem?_getD, List.getElem?_eq_getElem hcl]; rfl
      refine ⟨fun σ' H' => ∃ (ins : List Nat) (qa : Addr), σ' = [some (.ref p), some (.int (v : Nat)), some (.ref qa), some (.int ((c + 1 : Nat) : Int)), none] ∧ Same H H' ∧ H' qa = some (.lst (nv ins)) ∧ Bfs fs v ins (c + 1), ?_, ?_⟩
      · rintro σ' H' ⟨ins', qa', z1, z2, z3, z4⟩
        exact ⟨fs.length - (c + 1), by omega, ins', c + 1, qa', rfl, z1, z2, z3, z4⟩
      · have hpp := hp.same sm
        refine ⟨.ref qa, rfl, .ref p, rfl, p, _, rfl, hpp, _, rfl, ?_, ?_, fun D nD => lc_range (lo := 0) (n := ((nv fs).length : Int).toNat)
          (fun k H2 => Same H1 H2 ∧ H2 D = some (.lst (nv ((List.range k).filter fun u => decide (par fs u = ins.getD c 0) && decide (u ≠ par fs u))))) ⟨same_new nD, upd_same⟩ ?_ ?_⟩
        · rw [nv_length]
          omega
        · rw [nv_length]
          omega
        · rintro k H2 hk ⟨s2, hD⟩
          rw [nv_length] at hk
          have hk' : k < fs.length := by omega
          refine ⟨rfl, .ref p, rfl, .int (0 + (k : Int)), rfl, p, _, (k : Int), .int ((par fs k : Nat) : Int), rfl, by rw [Int.zero_add], hpp.same s2, atI_nat (nv_get hk'), .ref qa, rfl, .int (c : Nat), rfl, qa, _, (c : Int), _, rfl, rfl, SqL.of (s2 _ _ hqa), atI_nat (nv_get hcl), rfl, _, rfl, ite2 (fun h1 => ?_) (fun h1 => ?_)⟩
          · have h1 : par fs k = ins.getD c 0 := natV_inj.mp (of_decide_eq_true h1)
            refine ⟨.int (0 + (k : Int)), rfl, .ref p, rfl, .int (0 + (k : Int)), rfl, p, _, (k : Int), .int ((par fs k : Nat) : Int), rfl, by rw [Int.zero_add], hpp.same s2, atI_nat (nv_get hk'), rfl, _, rfl, ite2 (fun h2 => ?_) (fun h2 => ?_)⟩
            · rw [Int.zero_add] at h2
              have h2 : k ≠ par fs k := fun z => by
                rw [decide_eq_true (natV_inj.mpr z)] at h2
                cases h2
              refine ⟨.int (0 + (k : Int)), rfl, _, hD, ?_, fun b o z => ?_, ?_⟩
              · rw [nv_length]
                exact small1000 (Nat.le_trans (range_filter_le _ _) (by omega))
              · rw [upd_ne (ne_of_none z nD)]
                exact s2 _ _ z
              · rw [upd_same, range_filter_succ, if_pos (by rw [decide_eq_true h1, decide_eq_true h2]; rfl), nv_append, Int.zero_add]
                rfl
            · rw [Int.zero_add] at h2
              have h2 : k = par fs k := Classical.byContradiction fun z => h2 (by rw [decide_eq_false (fun y => z (natV_inj.mp y))]; rfl)
              refine ⟨s2, ?_⟩
              rw [hD, range_filter_succ, if_neg]
              rw [decide_eq_false (p := k ≠ par fs k) (fun z => z h2), Bool.and_false]
              exact Bool.false_ne_true
          · have h1 : ¬ par fs k = ins.getD c 0 := fun z => h1 (decide_eq_true (natV_inj.mpr z))
            refine iteF ⟨s2, ?_⟩
            rw [hD, range_filter_succ, if_neg]
            rw [decide_eq_false h1]
            exact Bool.false_ne_true
        · rintro H2 ⟨s2, hD⟩
          rw [nv_length, Int.toNat_natCast] at hD
          have B2 := B.next hF.rch ec
          have le2 := B2.le
          rw [List.length_append] at le2
          refine ⟨qa, D, _, _, rfl, rfl, s2 _ _ hqa, hD, ?_, fun p2 n2 => ?_⟩
          · rw [nv_length, nv_length]
            have e2 : (kids fs (ins.getD c 0)).length = ((List.range fs.length).filter fun u => decide (par fs u = ins.getD c 0) && decide (u ≠ par fs u)).length := rfl
            exact Nat.le_of_lt (small1000 (by omega))
          · refine ⟨.int (c : Nat), rfl, _, _, rfl, rfl, ins ++ kids fs (ins.getD c 0), p2, ?_, sm.trans (s2.trans (same_new n2)), ?_, B2⟩
            · rfl
            · rw [upd_same, nv_append]
              rfl
    · have hc : ¬ (c : Int) < ((nv ins).length : Int) := fun z => hc (decide_eq_true z)
      rw [nv_length] at hc
      have e : c = ins.length := by
        have := B.cnt
        omega
      subst e
      exact ⟨.int (ins.length : Nat), rfl, q ins H1 sm B.nd (B.done hF.rng)⟩
end
end Lf
namespace Lf.Zk
open PySem PySem.Spec PyProof.Rows L2
/-! ### _law_grown -/
def spGrown : Sp := fun vs H Q _ => ∃ (w l : Addr) (most : Int), vs = [.ref w, .int most] ∧ Well w l H ∧ 0 < most ∧ most ≤ 24 ∧
  ∀ (fs : List Nat) (q : Addr) (H' : Hp), Forest fs → (fs.length : Int) ≤ most → Well w l H' → Keep w l H H' → H q = none → (∃ o, Tk o ∧ H' q = some (.frz o (.tup (nv fs)))) → Q (.ref q) H'
/-- .. without heavy children -/
def spGrownB : Sp := fun vs H Q _ => ∃ (w l : Addr) (most : Int), vs = [.ref w, .int most] ∧ Well w l H ∧ 0 < most ∧ most ≤ 24 ∧
  ∀ (fs : List Nat) (q : Addr) (H' : Hp), Forest fs → (∀ c, ¬ Heavy fs c) → (fs.length : Int) ≤ most → Well w l H' → Keep w l H H' → H q = none → (∃ o, Tk o ∧ H' q = some (.frz o (.tup (nv fs)))) → Q (.ref q) H'
theorem rgV_nv (n : Nat) : rgV 0 (n : Int) = nv (List.range n) := by
  unfold rgV nv
  simp
theorem keep_free {w l p : Addr} {H H' : Hp} (k : Keep w l H H') (W : Well w l H') (h : H' p = none) : H p = none := by
  obtain ⟨_, _, _, h1, h2, _⟩ := W
  cases z : H p with
  | none => rfl
  | some o =>
    rw [k _ _ (ne_of_none h1 h).symm (ne_of_none h2 h).symm z] at h
    cases h
theorem tops_range (n : Nat) : tops (List.range n) = List.range n := by
  unfold tops
  rw [List.length_range, List.filter_eq_self]
  intro v hv
  exact decide_eq_true (par_range (List.mem_range.mp hv))
/-- a number's value -/
def unV : V → Nat
  | .int i => i.toNat
  | _ => 0
theorem un_nv (l : List Nat) : (nv l).map unV = l := by
  unfold nv
  rw [List.map_map]
  have : (unV ∘ fun x : Nat => V.int (x : Nat)) = id := funext fun x => Int.toNat_natCast x
  rw [this, List.map_id]
theorem perm_nv {zs : List V} {l : List Nat} (p : zs.Perm (nv l)) : ∃ ms, zs = nv ms ∧ ms.Perm l := by
  refine ⟨zs.map unV, ?_, ?_⟩
  · have all : ∀ z ∈ zs, V.int ((unV z : Nat) : Int) = z := fun z hz => by
      obtain ⟨x, _, rfl⟩ := List.mem_map.mp (p.mem_iff.mp hz)
      rfl
    unfold nv
    rw [List.map_map]
    conv => lhs; rw [← List.map_id zs]
    exact List.map_congr_left fun z hz => (all z hz).symm
  · have := p.map unV
    rwa [un_nv] at this
/-- what the pair at a reference points to -/
def pairAt (H : Hp) (xs : List V) : V → V
  | .ref t => match H t with
    | some (.tup [_, .int j]) => xs.getD j.toNat .non
    | _ => .non
  | _ => .non
section
variable {P : Program} {w : World} {K : PySem.W.Frag} {mg : Str → Option Value} {base : Heap}
abbrev NG : List Str := ["_law_well_here", "_law_most", "_law_n", "_law_parents", "_law_way", "_law_turn", "_law_tops_here", "_law_ranked", "_law_one", "_law_other", "_law_k", "_law_weight"]
theorem scGrown : FnScope NG ["_law_well_here", "_law_most"] (defScope sGrown) := ⟨rfl, rfl, rfl, by decide +kernel, rfl, by decide +kernel, by decide +kernel⟩
theorem ok_grownB {f fP fI fM fT fH : Addr} {fd fdP fdI fdM fdT fdH : FuncData} (F : Fun K "_law_grown" "_law_grown" sGrown f fd)
    (FP : Fun K "_law_pull" "_law_pull" sPull fP fdP) (bP : Binds K fdP ["_law_well_here", "_law_many"] []) (gP : mg "_law_pull" = some (.ref fP))
    (FI : Fun K "_law_item" "_law_item" sItem fI fdI) (bI : Binds K fdI ["_law_well_here", "_law_items"] []) (gI : mg "_law_item" = some (.ref fI))
    (FM : Fun K "_law_mixed" "_law_mixed" sMixed fM fdM) (bM : Binds K fdM ["_law_well_here", "_law_items"] []) (gM : mg "_law_mixed" = some (.ref fM))
    (FT : Fun K "_law_tops" "_law_tops" sTops fT fdT) (bT : Binds K fdT ["_law_parents"] []) (gT : mg "_law_tops" = some (.ref fT))
    (FH : Fun K "_law_heft" "_law_heft" sHeft fH fdH) (bH : Binds K fdH ["_law_parents", "_law_vertex"] []) (gH : mg "_law_heft" = some (.ref fH))
    (ml : mg "len" = none) (mr : mg "range" = none) (mL : mg "list" = none) (mT : mg "tuple" = none) (mS : mg "sorted" = none) :
    FnOk P w K mg base CX0 3 f fd ["_law_well_here", "_law_most"] spGrownB := by
  have GP : FnOk P w K mg base CX0 1 fP fdP ["_law_well_here", "_law_many"] spPull := ok_pull FP
  have GI : FnOk P w K mg base CX0 2 fI fdI ["_law_well_here", "_law_items"] spItem := ok_item FI FP bP gP ml
  have GM : FnOk P w K mg base CX0 2 fM fdM ["_law_well_here", "_law_items"] spMixed := ok_mixed FM FP bP gP ml mL
  have GT : FnOk P w K mg base CX0 1 fT fdT ["_law_parents"] (spTops K) := ok_tops FT ml mr
  have GH : FnOk P w K mg base CX0 1 fH fdH ["_law_parents", "_law_vertex"] (spHeft K) := ok_heft FH ml mr
  refine F.ok scGrown (fun vs H Q E h => ?_) (fun cdv A outer s H vs Q E hr h => ?_)
  · obtain ⟨w, l, m, rfl, _⟩ := h
    rfl
  · obtain ⟨w, l, most, rfl, hW, m0, m1, q⟩ := h
    have hr1 : Room 1 _ := hr.mono (by decide)
    refine ⟨_, pss_cons (ps_set (i := 2) scGrown.nd rfl (.inl rfl) (pe_op op_add pe_int (pe_call GP hr1 (by rfl) gP FP.kp bP .nil pass0 (pa_cons (pv 0) (pa_cons (pv 1) pa_nil)))))
      (pss_cons (ps_asg (pe_tup (pa_cons (pe_listRg rfl (by rfl) mL (prg_1 (by rfl) mr (pv 2))) (pa_cons (pe_call GP hr1 (by rfl) gP FP.kp bP .nil pass0 (pa_cons (pv 0) (pa_cons pe_int pa_nil))) pa_nil)))
          (pg_tup rfl (pgs_cons (pg_name (i := 3) scGrown.nd rfl (.inr rfl)) (pgs_cons (pg_name (i := 4) scGrown.nd rfl (.inl rfl)) pgs_nil))))
      (pss_cons (ps_for PassesOwn.never rfl (pi_range1 (by rfl) mr (pa_cons (pe_call GI hr (by rfl) gI FI.kp bI .nil pass0 (pa_cons (pv 0) (pa_cons (pe_lst (pa_cons (pe_op op_sub (pv 2) pe_int) (pa_cons (pe_op op_sub (pv 2) pe_int)
            (pa_cons (pe_call GP hr1 (by rfl) gP FP.kp bP .nil pass0 (pa_cons (pv 0) (pa_cons (pv 2) pa_nil))) pa_nil)))) pa_nil))) pa_nil)) (pg_name (i := 5) scGrown.nd rfl (.inl rfl))
          (pss_cons (ps_set (i := 6) scGrown.nd rfl (.inr rfl) (pe_call GM hr (by rfl) gM FM.kp bM .nil pass0 (pa_cons (pv 0) (pa_cons (pe_call GT hr1 (by rfl) gT FT.kp bT .nil pass0 (pa_cons (pv 3) pa_nil)) pa_nil))))
          (C8.pss_cut (ps_if (pt_cmpR op_lt (pv 4) pe_int (nomark _))
              (pss_cons (ps_set (i := 7) scGrown.nd rfl (.inl rfl) (pe_callB cr_sortedP (by rfl) mS (by decide +kernel) (pa_cons (pe_lc (own := [("_law_k", 10)]) (g := gName 10) (tt := tYes)
                  (te := tTup (tCons (tCall (spHeft K) [] E0 (tCons (tVar 3) (tCons (tOp (rIxL K) (tVar 6) (tVar 10)) tNil))) (tCons (tVar 10) tNil))) (by rfl) scGrown.nd
                  (pi_range1 (by rfl) mr (pa_cons (pe_callB call_len_seq (by rfl) ml PySem.boot_len (pa_cons (pv 6) pa_nil)) pa_nil)) (blkOk_by (own := [("_law_k", 10)]) (N := NG) (sc := defScope sGrown) (by decide +kernel))
                  (fun _ _ _ _ _ => pg_name (i := 10) scGrown.nd rfl (Or.inl rfl)) (fun _ _ _ _ _ => pts_nil)
                  (fun _ _ _ _ _ => pe_tup (pa_cons (pe_call GH hr1 (by rfl) gH FH.kp bH .nil pass0 (pa_cons (pv 3) (pa_cons (pe_ix ix_list (pv 6) (pv 10) (fun _ _ => rfl)) pa_nil))) (pa_cons (pv 10) pa_nil)))) pa_nil)))
              (pss_one (ps_set (i := 6) scGrown.nd rfl (.inr rfl) (pe_stepL (pe_lc (own := [("_law_weight", 11), ("_law_k", 10)]) (g := gTup K 2 (gCons (gName 11) (gCons (gName 10) gNil))) (tt := tYes) (te := tOp (rIxL K) (tVar 6) (tVar 10)) (by rfl) scGrown.nd (pi_list (pv 7))
                  (blkOk_by (own := [("_law_weight", 11), ("_law_k", 10)]) (N := NG) (sc := defScope sGrown) (by decide +kernel)) (fun _ _ _ _ _ => pg_tup rfl (pgs_cons (pg_name (i := 11) scGrown.nd rfl (Or.inl rfl)) (pgs_cons (pg_name (i := 10) scGrown.nd rfl (Or.inl rfl)) pgs_nil))) (fun _ _ _ _ _ => pts_nil)
                  (fun _ _ _ _ _ => pe_ix ix_list (pv 6) (pv 10) (fun _ _ => rfl))) (pe_ix ix_list (pe_lst (pa_cons pe_int (pa_cons (pe_un un_neg pe_int) pa_nil))) (pv 4) (fun _ _ => rfl)))))) pss_nil)
          (pss_cons (ps_par (i := 8) (j := 9) (by rfl) scGrown.nd rfl rfl (by decide) rfl rfl (pa_cons (pe_ix ix_list (pv 6) pe_int (fun _ _ => rfl)) (pa_cons (pe_ix ix_list (pv 6) pe_int (fun _ _ => rfl)) pa_nil)) (by rfl))
          (C8.pss_cut (ps_if (pt_cmpR op_lt (pe_call GH hr1 (by rfl) gH FH.kp bH .nil pass0 (pa_cons (pv 3) (pa_cons (pv 8) pa_nil))) (pe_call GH hr1 (by rfl) gH FH.kp bH .nil pass0 (pa_cons (pv 3) (pa_cons (pv 9) pa_nil))) (nomark _))
              (pss_one (ps_par (i := 8) (j := 9) (by rfl) scGrown.nd rfl rfl (by decide) rfl rfl (pa_cons (pv 9) (pa_cons (pv 8) pa_nil)) (by rfl))) pss_nil)
          (pss_one (ps_asg (pv 8) (pg_sub (pv 3) (pv 9) set_list))))))))
      (pss_one (ps_ret (pe_callTy call_tupleK (by rfl) mT (by decide +kernel) (pa_cons (pv 3) pa_nil)))))), ?_⟩
    refine ⟨.ref w, rfl, .int most, rfl, w, l, most, rfl, hW, m0, by omega, fun r H1 r0 r1 hW1 kp1 => ⟨1, r, rfl, rfl, ?_⟩⟩
    obtain ⟨n, en⟩ : ∃ n : Nat, 1 + r = (n : Int) := ⟨(1 + r).toNat, by omega⟩
    show gName 2 (V.int (1 + r)) _ _ _
    rw [en]
    have n0 : 0 < n := by omega
    have n24 : n ≤ 24 := by omega
    refine ⟨.int (n : Int), rfl, n, rfl, RgOk.of_le (by omega) (by omega) (by omega) (by omega), fun pr npr => ?_⟩
    rw [rgV_nv]
    have Sp := same_new (o := .lst (nv (List.range n))) npr
    refine ⟨.ref w, rfl, w, l, 4, rfl, hW1.same Sp, by decide, by decide, fun wy H2 y0 y1 hW2 kp2 => ?_⟩
    obtain ⟨nwl, x1, st1, hw1, hl1, _⟩ := id hW1
    have prw : pr ≠ w := (ne_of_none hw1 npr).symm
    have prl : pr ≠ l := (ne_of_none hl1 npr).symm
    have prn : H pr = none := by
      cases z : H pr with
      | none => rfl
      | some o =>
        rw [kp1 _ _ prw prl z] at npr
        cases npr
    have hpr2 : H2 pr = some (.lst (nv (List.range n))) := kp2 _ _ prw prl upd_same
    have K2 : Keep w l H H2 := kp1.trans ((Keep.of Sp).trans kp2)
    refine ⟨(by show 2 ≤ sizeLine; decide), fun t nt => ⟨t, _, rfl, SqT.of upd_same, rfl, _, _, rfl, _, _, rfl, rfl, ?_⟩⟩
    have St := same_new (o := .tup [V.ref pr, V.int wy]) nt
    refine ⟨.ref w, rfl, .int (n : Int), rfl, _, _, rfl, rfl, .int (n : Int), rfl, _, _, rfl, rfl, .ref w, rfl, .int (n : Int), rfl, w, l, (n : Int), rfl, hW2.same St, by omega, by omega, fun r2 H3 q0 q1 hW3 kp3 => ?_⟩
    refine ⟨(by show 3 ≤ sizeLine; decide), fun p3 n3 => ?_⟩
    have S3 := same_new (o := .lst [V.int ((n : Int) - 1), V.int ((n : Int) - 1), V.int r2]) n3
    obtain ⟨_, x3, st3, hw3, hl3, _⟩ := id hW3
    refine ⟨w, l, p3, _, rfl, hW3.same S3, upd_same, (ne_of_none hw3 n3).symm, (ne_of_none hl3 n3).symm, (fun z => nomatch z), (by show 3 < 1073741824; decide), fun v H4 hv hW4 kp4 => ?_⟩
    obtain ⟨tn, rfl, t0, t1⟩ : ∃ tn : Int, v = .int tn ∧ 0 ≤ tn ∧ tn < n := by
      simp only [List.mem_cons, List.not_mem_nil, or_false] at hv
      rcases hv with rfl | rfl | rfl
      · exact ⟨_, rfl, by omega, by omega⟩
      · exact ⟨_, rfl, by omega, by omega⟩
      · exact ⟨_, rfl, q0, q1⟩
    have K4 : Keep w l H H4 := K2.trans ((Keep.of St).trans (kp3.trans ((Keep.of S3).trans kp4)))
    have hpr4 : H4 pr = some (.lst (nv (List.range n))) := kp4 _ _ prw prl (S3 _ _ (kp3 _ _ prw prl (St _ _ hpr2)))
    refine ⟨tn, rfl, by omega, by omega, for_range (lo := 0) (n := tn.toNat) (fun i σ H5 => ∃ (fs : List Nat) (c5 c6 c7 c8 c9 : Option V), σ = [some (.ref w), some (.int most), some (.int (n : Int)), some (.ref pr), some (.int wy), c5, c6, c7, c8, c9, none, none] ∧ Forest fs ∧ (∀ c, ¬ Heavy fs c) ∧ fs.length = n ∧ (tops fs).length + i = n ∧ H5 pr = some (.lst (nv fs)) ∧ Well w l H5 ∧ Keep w l H H5)
      ⟨List.range n, none, none, none, none, none, rfl, Forest.range n0 n24, range_light n, List.length_range, by rw [tops_range, List.length_range]; rfl, hpr4, hW4, K4⟩ ?_ ?_⟩
    · rintro i σ H5 hi ⟨fs, c5, c6, c7, c8, c9, rfl, hF, nh, ef, et, hpr, hW5, kp5⟩
      have two : 2 ≤ (tops fs).length := by omega
      refine ⟨.ref w, rfl, .ref pr, rfl, pr, fs, rfl, .inl (SqL.of hpr), by omega, fun tq H6 S6 nq hq => ?_⟩
      have tle : (tops fs).length ≤ 1000 := by omega
      refine ⟨w, l, tq, tops fs, rfl, hW5.same S6, hq, tle, fun ms th H7 pm hW7 kp7 nth hth => ?_⟩
      have hpr7 : H7 pr = some (.lst (nv fs)) := kp7 _ _ prw prl (S6 _ _ hpr)
      have K7 : Keep w l H H7 := kp5.trans ((Keep.of S6).trans kp7)
      have lms : ms.length = (tops fs).length := pm.length_eq
      have inT : ∀ {x : Nat}, x ∈ ms → x < fs.length := fun hx => (mem_tops.mp (pm.mem_iff.mp hx)).1
      -- the roots in some order, whichever way
      refine ⟨fun σ' H8 => ∃ (ks : List Nat) (tb : Addr) (d7 : Option V), σ' = [some (.ref w), some (.int most), some (.int (n : Int)), some (.ref pr), some (.int wy), some (.int (0 + (i : Int))), some (.ref tb), d7, c8, c9, none, none] ∧ ks.Perm (tops fs) ∧ H8 tb = some (.lst (nv ks)) ∧ H8 pr = some (.lst (nv fs)) ∧ Well w l H8 ∧ Keep w l H H8, ?_, ?_⟩
      · refine ⟨.int wy, rfl, _, _, rfl, rfl, _, rfl, ite2 (fun hy => ?_) (fun hy => ?_)⟩
        · have hy : wy < 2 := of_decide_eq_true hy
          refine ⟨.ref th, rfl, th, _, rfl, .inl (SqL.of hth), _, rfl, ?_, ?_, fun D nD => lc_range (lo := 0) (n := ((nv ms).length : Int).toNat)
            (fun k H8 => Same H7 H8 ∧ ∃ ts : List Addr, H8 D = some (.lst (ts.map V.ref)) ∧ ts.length = k ∧ ∀ (j : Nat) (t : Addr), ts[j]? = some t → H7 t = none ∧ t ≠ D ∧ ∃ c : Int, H8 t = some (.tup [.int c, .int (j : Int)])) ⟨same_new nD, [], upd_same, rfl, fun j t z => nomatch z⟩ ?_ ?_⟩
          · rw [nv_length]
            omega
          · rw [nv_length]
            omega
          · rintro k H8 hk ⟨s8, ts, hD, lt, hts⟩
            rw [nv_length] at hk
            have hk' : k < ms.length := by omega
            refine ⟨rfl, ?_⟩
            dsimp only [tYes]
            rw [if_pos rfl]
            refine ⟨.ref pr, rfl, .ref th, rfl, .int (0 + (k : Int)), rfl, th, _, (k : Int), _, rfl, by rw [Int.zero_add], SqL.of (s8 _ _ hth), atI_nat (nv_get hk'), pr, fs, _, rfl, .inl (SqL.of (s8 _ _ hpr7)), hF, ?_, fun ins H9 s9 _ _ => ?_⟩
            · refine inT ?_
              rw [List.getD_eq_getElem?_getD, List.getElem?_eq_getElem hk']
              exact List.getElem_mem hk'
            · refine ⟨.int (0 + (k : Int)), rfl, (by show 2 ≤ sizeLine; decide), fun t5 n5 => ?_⟩
              have S5 := same_new (o := .tup [V.int (ins.length : Nat), V.int (0 + (k : Int))]) n5
              have hD9 := S5 _ _ (s9 _ _ hD)
              have t5D : t5 ≠ D := (ne_of_none (s9 _ _ hD) n5).symm
              refine ⟨_, hD9, ?_, fun b o z => ?_, ts ++ [t5], ?_, ?_, ?_⟩
              · rw [List.length_map]
                exact small1000 (by omega)
              · rw [upd_ne (ne_of_none z nD)]
                exact S5 _ _ (s9 _ _ (s8 _ _ z))
              · rw [upd_same, List.map_append]
                rfl
              · rw [List.length_append, lt]
                rfl
              · intro j t hj
                by_cases z : j < ts.length
                · rw [List.getElem?_append_left z] at hj
                  obtain ⟨g1, g2, c, g3⟩ := hts j t hj
                  refine ⟨g1, g2, c, ?_⟩
                  rw [upd_ne g2]
                  exact S5 _ _ (s9 _ _ g3)
                · rw [List.getElem?_append_right (Nat.le_of_not_lt z)] at hj
                  have z2 : j - ts.length = 0 := by
                    rcases Nat.eq_zero_or_pos (j - ts.length) with y | y
                    · exact y
                    · rw [List.getElem?_eq_none (by rw [List.length_singleton]; omega)] at hj
                      cases hj
                  rw [z2] at hj
                  have e5 : t5 = t := Option.some.inj hj
                  subst e5
                  have ej : j = k := by omega
                  subst ej
                  refine ⟨(s8.trans s9).free n5, t5D, ((ins.length : Nat) : Int), ?_⟩
                  rw [upd_ne t5D, upd_same, Int.zero_add]
          · rintro H8 ⟨s8, ts, hD, lt, hts⟩
            rw [nv_length, Int.toNat_natCast] at lt
            have memts : ∀ x ∈ ts.map V.ref, ∃ (t : Addr) (a b : Int), x = V.ref t ∧ H8 t = some (.tup [.int a, .int b]) := fun x hx => by
              obtain ⟨t, ht, rfl⟩ := List.mem_map.mp hx
              obtain ⟨j, hj, ej⟩ := List.getElem_of_mem ht
              obtain ⟨_, _, c, g⟩ := hts j t (by rw [List.getElem?_eq_getElem hj, ej])
              exact ⟨t, c, j, rfl, g⟩
            refine ⟨D, _, rfl, SqL.of hD, memts, fun ys p6 py n6 => ?_⟩
            have S8 := same_new (o := .lst ys) n6
            have ey : (upd H8 p6 (.lst ys)) p6 = some (.lst ys) := upd_same
            generalize hG : upd H8 p6 (.lst ys) = G at *
            clear hG
            have lys : ys.length = ms.length := by
              rw [py.length_eq, List.length_map, lt]
            have val : ∀ y ∈ ys, ∃ (t : Addr) (c : Int) (j : Nat), y = V.ref t ∧ G t = some (.tup [.int c, .int (j : Int)]) ∧ j < ms.length := fun y hy => by
              obtain ⟨t, ht, rfl⟩ := List.mem_map.mp (py.mem_iff.mp hy)
              obtain ⟨j, hj, ej⟩ := List.getElem_of_mem ht
              obtain ⟨_, _, c, g⟩ := hts j t (by rw [List.getElem?_eq_getElem hj, ej])
              exact ⟨t, c, j, rfl, S8 _ _ g, by omega⟩
            have eqTs : (ts.map V.ref).map (pairAt G (nv ms)) = nv ms := by
              apply List.ext_getElem?
              intro j
              rw [List.getElem?_map, List.getElem?_map]
              by_cases z : j < ts.length
              · obtain ⟨_, _, c, g⟩ := hts j ts[j] (by rw [List.getElem?_eq_getElem z])
                rw [List.getElem?_eq_getElem z]
                have g2 := S8 _ _ g
                have e3 : pairAt G (nv ms) (V.ref ts[j]) = (nv ms).getD j .non := by
                  show (match G ts[j] with | some (.tup [_, .int j]) => (nv ms).getD j.toNat .non | _ => .non) = _
                  rw [g2]
                  rfl
                show some (pairAt G (nv ms) (V.ref ts[j])) = _
                rw [e3, List.getD_eq_getElem?_getD, nv_get (by omega)]
                rfl
              · rw [List.getElem?_eq_none (Nat.le_of_not_lt z), List.getElem?_eq_none (by rw [nv_length]; omega)]
                rfl
            have hth8 : G th = some (.lst (nv ms)) := S8 _ _ (s8 _ _ hth)
            refine ⟨.ref p6, rfl, p6, rfl, ⟨_, SqL.of ey⟩, fun E nE => lc_list (K := K) (a := p6) (xs := ys) (fun k H9 => Same G H9 ∧ H9 E = some (.lst ((ys.take k).map (pairAt G (nv ms))))) ⟨same_new nE, upd_same⟩ (fun k H9 _ z => SqL.of (z.1 _ _ ey)) ?_ ?_⟩
            · rintro k y H9 hk ⟨s9, hE⟩
              have hkl : k < ys.length := by
                rcases Nat.lt_or_ge k ys.length with z | z
                · exact z
                · rw [List.getElem?_eq_none z] at hk
                  cases hk
              obtain ⟨t, c, j, rfl, g, jl⟩ := val y (List.mem_of_getElem? hk)
              refine ⟨t, _, rfl, SqT.of (s9 _ _ g), rfl, _, _, rfl, _, _, rfl, rfl, rfl, ?_⟩
              dsimp only [tYes]
              rw [if_pos rfl]
              refine ⟨.ref th, rfl, .int (j : Int), rfl, th, _, (j : Int), _, rfl, rfl, SqL.of (s9 _ _ hth8), atI_nat (nv_get jl), _, hE, ?_, fun b o z => ?_, ?_⟩
              · rw [List.length_map, List.length_take]
                exact small1000 (Nat.le_trans (Nat.min_le_right _ _) (by omega))
              · rw [upd_ne (ne_of_none z nE)]
                exact s9 _ _ z
              · have e3 : pairAt G (nv ms) (V.ref t) = .int ((ms.getD j 0 : Nat) : Int) := by
                  show (match G t with | some (.tup [_, .int j]) => (nv ms).getD j.toNat .non | _ => .non) = _
                  rw [g]
                  show (nv ms).getD (Int.toNat (j : Int)) .non = _
                  rw [Int.toNat_natCast, List.getD_eq_getElem?_getD, nv_get jl]
                  rfl
                rw [upd_same, List.take_add_one, hk, List.map_append]
                show some (HO.lst (_ ++ [_])) = some (HO.lst (_ ++ [pairAt G (nv ms) (V.ref t)]))
                rw [e3]
            · rintro H9 ⟨s9, hE⟩
              rw [List.take_length] at hE
              refine ⟨1, rfl, (by show 2 ≤ sizeLine; decide), fun p7 n7 => ?_⟩
              have S9 := same_new (o := .lst [V.int 1, V.int (-1)]) n7
              have pz : (ys.map (pairAt G (nv ms))).Perm (nv ms) := by
                have := py.map (pairAt G (nv ms))
                rwa [eqTs] at this
              obtain ⟨ks, ek, pk⟩ := perm_nv pz
              rw [ek] at hE
              have fin : ∀ (zs : List Nat), zs.Perm ms → ∀ p8, (upd H9 p7 (.lst [V.int 1, V.int (-1)])) p8 = none → _ := fun zs pzs p8 n8 =>
                show ∃ (ks : List Nat) (tb : Addr) (d7 : Option V), [some (.ref w), some (.int most), some (.int (n : Int)), some (.ref pr), some (.int wy), some (.int (0 + (i : Int))), some (.ref p8), some (.ref p6), c8, c9, none, none] = [some (.ref w), some (.int most), some (.int (n : Int)), some (.ref pr), some (.int wy), some (.int (0 + (i : Int))), some (.ref tb), d7, c8, c9, none, none] ∧ ks.Perm (tops fs) ∧ (upd (upd H9 p7 (.lst [V.int 1, V.int (-1)])) p8 (.lst (nv zs))) tb = some (.lst (nv ks)) ∧ (upd (upd H9 p7 (.lst [V.int 1, V.int (-1)])) p8 (.lst (nv zs))) pr = some (.lst (nv fs)) ∧ Well w l (upd (upd H9 p7 (.lst [V.int 1, V.int (-1)])) p8 (.lst (nv zs))) ∧ Keep w l H (upd (upd H9 p7 (.lst [V.int 1, V.int (-1)])) p8 (.lst (nv zs))) from by
                  have Sz := (s8.trans (S8.trans (s9.trans S9))).trans (same_new (o := .lst (nv zs)) n8)
                  exact ⟨zs, p8, _, rfl, pzs.trans pm, upd_same, Sz _ _ hpr7, hW7.same Sz, K7.trans (Keep.of Sz)⟩
              have w01 : wy = 0 ∨ wy = 1 := by omega
              rcases w01 with rfl | rfl
              · refine ⟨.int 0, rfl, p7, _, 0, .int 1, rfl, rfl, SqL.of upd_same, atI_nat (j := 0) rfl, E, _, 1, rfl, rfl, SqL.of (S9 _ _ hE), .inl rfl, fun p8 n8 zs hz => ?_⟩
                rcases hz with rfl | rfl
                · exact fin ks pk p8 n8
                · rw [show (nv ks).reverse = nv ks.reverse from (List.map_reverse ..).symm]
                  exact fin ks.reverse ((List.reverse_perm ks).trans pk) p8 n8
              · refine ⟨.int 1, rfl, p7, _, 1, .int (-1), rfl, rfl, SqL.of upd_same, atI_nat (j := 1) rfl, E, _, -1, rfl, rfl, SqL.of (S9 _ _ hE), .inr rfl, fun p8 n8 zs hz => ?_⟩
                rcases hz with rfl | rfl
                · exact fin ks pk p8 n8
                · rw [show (nv ks).reverse = nv ks.reverse from (List.map_reverse ..).symm]
                  exact fin ks.reverse ((List.reverse_perm ks).trans pk) p8 n8
        · exact ⟨ms, th, c7, rfl, pm, hth, hpr7, hW7, K7⟩
      · rintro σ' H8 ⟨ks, tb, d7, rfl, pk, htb, hpr8, hW8, K8⟩
        have k2 : 2 ≤ ks.length := by rw [pk.length_eq]; exact two
        have knd : ks.Nodup := pk.symm.nodup (tops_nodup fs)
        generalize hx : ks.getD 0 0 = x
        generalize hy : ks.getD 1 0 = y
        have ex : ks[0]? = some x := by rw [← hx, List.getD_eq_getElem?_getD, List.getElem?_eq_getElem (by omega)]; rfl
        have ey : ks[1]? = some y := by rw [← hy, List.getD_eq_getElem?_getD, List.getElem?_eq_getElem (by omega)]; rfl
        have xm : x ∈ tops fs := pk.mem_iff.mp (List.mem_of_getElem? ex)
        have ym : y ∈ tops fs := pk.mem_iff.mp (List.mem_of_getElem? ey)
        have xy : x ≠ y := fun z => by
          subst z
          have := (List.getElem?_inj (by omega) knd).mp (ex.trans ey.symm)
          omega
        refine ⟨.ref tb, rfl, tb, _, 0, .int (x : Nat), rfl, rfl, SqL.of htb, ?_, .ref tb, rfl, tb, _, 1, .int (y : Nat), rfl, rfl, SqL.of htb, ?_, _, _, rfl, ?_⟩
        · rw [← hx]
          exact atI_nat (j := 0) (nv_get (by omega))
        · rw [← hy]
          exact atI_nat (j := 1) (nv_get (by omega))
        refine ⟨fun σ' H9 => ∃ x y : Nat, σ' = [some (.ref w), some (.int most), some (.int (n : Int)), some (.ref pr), some (.int wy), some (.int (0 + (i : Int))), some (.ref tb), d7, some (.int (x : Nat)), some (.int (y : Nat)), none, none] ∧ x ∈ tops fs ∧ y ∈ tops fs ∧ x ≠ y ∧ wt fs y ≤ wt fs x ∧ Same H8 H9, ?_, ?_⟩
        · refine ⟨.ref pr, rfl, .int (x : Nat), rfl, pr, fs, x, rfl, .inl (SqL.of hpr8), hF, (mem_tops.mp xm).1, fun i1 H9 s9 nd1 m1 => ?_⟩
          refine ⟨.ref pr, rfl, .int (y : Nat), rfl, pr, fs, y, rfl, .inl (SqL.of (s9 _ _ hpr8)), hF, (mem_tops.mp ym).1, fun i2 H10 s10 nd2 m2 => ?_⟩
          have w1 : wt fs x = i1.length := cnt_of nd1 m1
          have w2 : wt fs y = i2.length := cnt_of nd2 m2
          refine ⟨_, _, rfl, rfl, _, rfl, ite2 (fun hlt => ?_) (fun hlt => ?_)⟩
          · exact ⟨.int (y : Nat), rfl, .int (x : Nat), rfl, _, _, rfl, y, x, rfl, ym, xm, Ne.symm xy, by rw [w1, w2]; exact Nat.le_of_lt (Int.ofNat_lt.mp (of_decide_eq_true hlt)), s9.trans s10⟩
          · exact ⟨x, y, rfl, xm, ym, xy, by rw [w1, w2]; exact Nat.le_of_not_lt fun z => hlt (decide_eq_true (Int.ofNat_lt.mpr z)), s9.trans s10⟩
        · rintro σ2 H9 ⟨x, y, rfl, xm, ym, xy, wxy, s9⟩
          have hx1 := mem_tops.mp xm
          have hy1 := mem_tops.mp ym
          refine ⟨.int (x : Nat), rfl, .ref pr, rfl, .int (y : Nat), rfl, pr, _, (y : Int), y, rfl, rfl, s9 _ _ hpr8, ?_, ?_⟩
          · unfold ixN
            rw [nv_length, if_pos (by omega), if_pos (by omega), Int.toNat_natCast]
          · refine ⟨fs.set y x, _, _, _, _, _, rfl, hF.moved hy1.1 hx1.1 ?_, join_light hF hy1.1 hy1.2 hx1.1 hx1.2 (Ne.symm xy) wxy nh, by rw [List.length_set]; exact ef, ?_, ?_, ?_, ?_⟩
            · intro b
              cases b with
              | refl => exact xy rfl
              | step h _ => exact h hx1.2
            · have := tops_moved ym xm (Ne.symm xy)
              omega
            · rw [upd_same]
              unfold nv
              rw [List.map_set]
            · obtain ⟨w1, w2, w3, w4, w5, w6⟩ := hW8.same s9
              exact ⟨w1, w2, w3, by rw [upd_ne prw.symm]; exact w4, by rw [upd_ne prl.symm]; exact w5, w6⟩
            · intro b o h1 h2 h
              rw [upd_ne (ne_of_none h prn)]
              exact s9 _ _ (K8 b o h1 h2 h)
    · rintro σ H5 ⟨fs, c5, c6, c7, c8, c9, rfl, hF, nh, ef, et, hpr, hW5, kp5⟩
      refine ⟨.ref pr, rfl, pr, _, rfl, .inl ⟨SqL.of hpr, fun p9 o9 n9 t9 => ?_⟩⟩
      have S9 := same_new (o := .frz o9 (.tup (nv fs))) n9
      exact q fs p9 _ hF nh (by omega) (hW5.same S9) (kp5.trans (Keep.of S9)) (keep_free kp5 hW5 n9) ⟨o9, t9, upd_same⟩
theorem ok_grown {f fP fI fM fT fH : Addr} {fd fdP fdI fdM fdT fdH : FuncData} (F : Fun K "_law_grown" "_law_grown" sGrown f fd)
    (FP : Fun K "_law_pull" "_law_pull" sPull fP fdP) (bP : Binds K fdP ["_law_well_here", "_law_many"] []) (gP : mg "_law_pull" = some (.ref fP))
    (FI : Fun K "_law_item" "_law_item" sItem fI fdI) (bI : Binds K fdI ["_law_well_here", "_law_items"] []) (gI : mg "_law_item" = some (.ref fI))
    (FM : Fun K "_law_mixed" "_law_mixed" sMixed fM fdM) (bM : Binds K fdM ["_law_well_here", "_law_items"] []) (gM : mg "_law_mixed" = some (.ref fM))
    (FT : Fun K "_law_tops" "_law_tops" sTops fT fdT) (bT : Binds K fdT ["_law_parents"] []) (gT : mg "_law_tops" = some (.ref fT))
    (FH : Fun K "_law_heft" "_law_heft" sHeft fH fdH) (bH : Binds K fdH ["_law_parents", "_law_vertex"] []) (gH : mg "_law_heft" = some (.ref fH))
    (ml : mg "len" = none) (mr : mg "range" = none) (mL : mg "list" = none) (mT : mg "tuple" = none) (mS : mg "sorted" = none) :
    FnOk P w K mg base CX0 3 f fd ["_law_well_here", "_law_most"] spGrown := FnOk.imp (ok_grownB F FP bP gP FI bI gI FM bM gM FT bT gT FH bH gH ml mr mL mT mS) fun vs H Q E h => by
  obtain ⟨w, l, m, h1, h2, h3, h4, h5⟩ := h
  exact ⟨w, l, m, h1, h2, h3, h4, fun fs q H' a _ => h5 fs q H' a⟩
end
end Lf.Zk
namespace Lf.Zk
open PySem PySem.Spec PyProof.Rows L2
/-! ### _law_wild -/
/-- each one's parent is itself or stands before it -/
structure Ord (os ps : List Nat) (i : Nat) : Prop where
  len : ps.length = os.length
  bef : ∀ j, j < i → ∃ v, os[j]? = some v ∧ (par ps v = v ∨ ∃ m u, m < j ∧ os[m]? = some u ∧ par ps v = u)
theorem Ord.forest {os ps : List Nat} {n : Nat} (pm : os.Perm (List.range n)) (O : Ord os ps n) (n0 : 0 < n) (n24 : n ≤ 24) : Forest ps := by
  have lo : os.length = n := by rw [pm.length_eq, List.length_range]
  have lp : ps.length = n := by rw [O.len, lo]
  have mem : ∀ {v : Nat}, v ∈ os → v < n := fun h => List.mem_range.mp (pm.mem_iff.mp h)
  have at_ : ∀ v, v < n → ∃ j, j < n ∧ os[j]? = some v := fun v hv => by
    obtain ⟨j, hj, ej⟩ := List.getElem_of_mem (pm.mem_iff.mpr (List.mem_range.mpr hv))
    exact ⟨j, by omega, by rw [List.getElem?_eq_getElem hj, ej]⟩
  refine ⟨by omega, by omega, fun v hv => ?_, fun v hv => ?_⟩
  · obtain ⟨j, hj, ej⟩ := at_ v (by omega)
    obtain ⟨v', ev, hb⟩ := O.bef j hj
    rw [ej] at ev
    cases ev
    rcases hb with z | ⟨m, u, _, eu, z⟩
    · rw [z]
      exact hv
    · rw [z, lp]
      exact mem (List.mem_of_getElem? eu)
  · obtain ⟨j, hj, ej⟩ := at_ v (by omega)
    clear hv
    show Up ps v
    induction j using Nat.strongRecOn generalizing v with
    | _ j ih =>
      obtain ⟨v', ev, hb⟩ := O.bef j hj
      rw [ej] at ev
      cases ev
      rcases hb with z | ⟨m, u, hm, eu, z⟩
      · exact .root z
      · refine .step ?_
        rw [z]
        exact ih m hm u (by omega) eu
theorem Ord.next {os ps : List Nat} {i v x : Nat} (nd : os.Nodup) (vl : v < ps.length) (ev : os[i]? = some v) (hx : x = v ∨ ∃ m u, m < i ∧ os[m]? = some u ∧ x = u) (O : Ord os ps i) : Ord os (ps.set v x) (i + 1) := by
  refine ⟨by rw [List.length_set]; exact O.len, fun j hj => ?_⟩
  by_cases z : j < i
  · obtain ⟨v', e', hb⟩ := O.bef j z
    have ne : ¬ v' = v := fun y => by
      subst y
      have hj2 : j < os.length := by
        rcases Nat.lt_or_ge j os.length with y | y
        · exact y
        · rw [List.getElem?_eq_none y] at e'
          cases e'
      have := (List.getElem?_inj hj2 nd).mp (e'.trans ev.symm)
      omega
    refine ⟨v', e', ?_⟩
    rw [par_set vl, if_neg ne]
    exact hb
  · have : j = i := by omega
    subst this
    refine ⟨v, ev, ?_⟩
    rw [par_set vl, if_pos rfl]
    exact hx
theorem rep_nv : ∀ n : Nat, (List.replicate n [V.int 0]).flatten = nv (List.replicate n 0)
  | 0 => rfl
  | n + 1 => by
    rw [List.replicate_succ, List.replicate_succ, List.flatten_cons, rep_nv n]
    rfl
theorem cut_upto {os : List Nat} {i : Nat} (h : i ≤ os.length) : cutV (nv os) none (some (i : Int)) = nv (os.take i) := by
  unfold cutV
  rw [HT.sIx_none, HT.sIx_nat, nv_length, Nat.min_eq_left h, List.drop_zero, Nat.sub_zero]
  unfold nv
  rw [List.map_take]
section
variable {P : Program} {w : World} {K : PySem.W.Frag} {mg : Str → Option Value} {base : Heap}
abbrev NW : List Str := ["_law_well_here", "_law_most", "_law_n", "_law_order", "_law_parents", "_law_often", "_law_k", "_law_vertex"]
theorem scWild : FnScope NW ["_law_well_here", "_law_most"] (defScope sWild) := ⟨rfl, rfl, rfl, by decide +kernel, rfl, by decide +kernel, by decide +kernel⟩
theorem ok_wild {f fP fI fM : Addr} {fd fdP fdI fdM : FuncData} (F : Fun K "_law_wild" "_law_wild" sWild f fd)
    (FP : Fun K "_law_pull" "_law_pull" sPull fP fdP) (bP : Binds K fdP ["_law_well_here", "_law_many"] []) (gP : mg "_law_pull" = some (.ref fP))
    (FI : Fun K "_law_item" "_law_item" sItem fI fdI) (bI : Binds K fdI ["_law_well_here", "_law_items"] []) (gI : mg "_law_item" = some (.ref fI))
    (FM : Fun K "_law_mixed" "_law_mixed" sMixed fM fdM) (bM : Binds K fdM ["_law_well_here", "_law_items"] []) (gM : mg "_law_mixed" = some (.ref fM))
    (ml : mg "len" = none) (mr : mg "range" = none) (mL : mg "list" = none) (mT : mg "tuple" = none) (me : mg "enumerate" = none) :
    FnOk P w K mg base CX0 3 f fd ["_law_well_here", "_law_most"] spGrown := by
  have GP : FnOk P w K mg base CX0 1 fP fdP ["_law_well_here", "_law_many"] spPull := ok_pull FP
  have GI : FnOk P w K mg base CX0 2 fI fdI ["_law_well_here", "_law_items"] spItem := ok_item FI FP bP gP ml
  have GM : FnOk P w K mg base CX0 2 fM fdM ["_law_well_here", "_law_items"] spMixed := ok_mixed FM FP bP gP ml mL
  refine F.ok scWild (fun vs H Q E h => ?_) (fun cdv A outer s H vs Q E hr h => ?_)
  · obtain ⟨w, l, m, rfl, _⟩ := h
    rfl
  · obtain ⟨w, l, most, rfl, hW, m0, m1, q⟩ := h
    have hr1 : Room 1 _ := hr.mono (by decide)
    refine ⟨_, pss_cons (ps_set (i := 2) scWild.nd rfl (.inl rfl) (pe_op op_add pe_int (pe_call GP hr1 (by rfl) gP FP.kp bP .nil pass0 (pa_cons (pv 0) (pa_cons (pv 1) pa_nil)))))
      (pss_cons (ps_par (i := 3) (j := 4) (by rfl) scWild.nd rfl rfl (by decide) rfl rfl (pa_cons (pe_call GM hr (by rfl) gM FM.kp bM .nil pass0 (pa_cons (pv 0) (pa_cons (pe_listRg rfl (by rfl) mL (prg_1 (by rfl) mr (pv 2))) pa_nil))) (pa_cons (pe_op op_rep (pe_lst (pa_cons pe_int pa_nil)) (pv 2)) pa_nil)) (by rfl))
      (pss_cons (ps_set (i := 5) scWild.nd rfl (.inl rfl) (pe_op op_add pe_int (pe_call GP hr1 (by rfl) gP FP.kp bP .nil pass0 (pa_cons (pv 0) (pa_cons pe_int pa_nil)))))
      (pss_cons (ps_for PassesOwn.never rfl (pi_enum (by rfl) me (pa_cons (pv 3) pa_nil)) (pg_tup rfl (pgs_cons (pg_name (i := 6) scWild.nd rfl (.inl rfl)) (pgs_cons (pg_name (i := 7) scWild.nd rfl (.inl rfl)) pgs_nil)))
          (pss_one (ps_asg (pe_ifExp (PW.pt (pw_or (pt_cmpR op_eq (pv 6) pe_int (nomark _)) (pw_or1 (PW.pt (pw_and (pt_cmpR op_eq (pe_call GP hr1 (by rfl) gP FP.kp bP .nil pass0 (pa_cons (pv 0) (pa_cons (pv 5) pa_nil))) pe_int (nomark _)) (pw_and1 (pt_cmpR op_gt (pv 5) pe_int (nomark _)))))))) (pv 7)
              (pe_call GI hr (by rfl) gI FI.kp bI .nil pass0 (pa_cons (pv 0) (pa_cons (pe_slice sl_list (pv 3) po_none (po_some (pv 6))) pa_nil)))) (pg_sub (pv 4) (pv 7) set_list))))
      (pss_one (ps_ret (pe_callTy call_tupleK (by rfl) mT (by decide +kernel) (pa_cons (pv 4) pa_nil))))))), ?_⟩
    refine ⟨.ref w, rfl, .int most, rfl, w, l, most, rfl, hW, m0, by omega, fun r H1 r0 r1 hW1 kp1 => ⟨1, r, rfl, rfl, ?_⟩⟩
    obtain ⟨n, en⟩ : ∃ n : Nat, 1 + r = (n : Int) := ⟨(1 + r).toNat, by omega⟩
    show gName 2 (V.int (1 + r)) _ _ _
    rw [en]
    have n0 : 0 < n := by omega
    have n24 : n ≤ 24 := by omega
    refine ⟨.ref w, rfl, .int (n : Int), rfl, n, rfl, RgOk.of_le (by omega) (by omega) (by omega) (by omega), fun pr npr => ?_⟩
    rw [rgV_nv]
    have Sp := same_new (o := .lst (nv (List.range n))) npr
    refine ⟨w, l, pr, List.range n, rfl, hW1.same Sp, upd_same, by rw [List.length_range]; omega, fun os qo H2 pm hW2 kp2 nqo hqo => ?_⟩
    refine ⟨(by show 1 ≤ sizeLine; decide), fun z1 nz1 => ⟨.int (n : Int), rfl, z1, _, _, rfl, rfl, upd_same, by omega, by omega, ?_, fun pp npp => ⟨_, _, rfl, ?_⟩⟩⟩
    · show 1 * Int.toNat (n : Int) ≤ sizeLine
      rw [sizeLine_eq]
      omega
    have Z1 := same_new (o := .lst [V.int 0]) nz1
    have lo : os.length = n := by rw [pm.length_eq, List.length_range]
    have nd : os.Nodup := pm.symm.nodup List.nodup_range
    have hrep : (List.replicate (Int.toNat (n : Int)) [V.int 0]).flatten = nv (List.replicate n 0) := by
      rw [Int.toNat_natCast]
      exact rep_nv n
    rw [hrep]
    have Z2 := same_new (o := .lst (nv (List.replicate n 0))) npp
    have ZZ := Z1.trans Z2
    have K2 : Keep w l H H2 := kp1.trans ((Keep.of Sp).trans kp2)
    have ppn : H pp = none := keep_free (K2.trans (Keep.of Z1)) (hW2.same Z1) npp
    refine ⟨.ref w, rfl, w, l, 6, rfl, hW2.same ZZ, by decide, by decide, fun of H3 o0 o1 hW3 kp3 => ⟨1, of, rfl, rfl, ?_⟩⟩
    obtain ⟨_, x3, st3, hw3, hl3, _⟩ := id (hW2.same ZZ)
    have qow : qo ≠ w ∧ qo ≠ l := by
      obtain ⟨_, _, _, hw1, hl1, _⟩ := hW1.same Sp
      exact ⟨(ne_of_none hw1 nqo).symm, (ne_of_none hl1 nqo).symm⟩
    have ppw : pp ≠ w ∧ pp ≠ l := by
      obtain ⟨_, _, _, hw1, hl1, _⟩ := hW2.same Z1
      exact ⟨(ne_of_none hw1 npp).symm, (ne_of_none hl1 npp).symm⟩
    have qopp : qo ≠ pp := (ne_of_none (Z1 _ _ hqo) npp)
    have hqo3 : H3 qo = some (.lst (nv os)) := kp3 _ _ qow.1 qow.2 (ZZ _ _ hqo)
    have hpp3 : H3 pp = some (.lst (nv (List.replicate n 0))) := kp3 _ _ ppw.1 ppw.2 upd_same
    have K3 : Keep w l H H3 := K2.trans ((Keep.of ZZ).trans kp3)
    refine ⟨.ref qo, rfl, qo, _, rfl, SqL.of hqo3, for_it (walk_enum (K := K) (a := qo) (xs := nv os)) (fun i σ H4 => ∃ (ps : List Nat) (c6 c7 : Option V), σ = [some (.ref w), some (.int most), some (.int (n : Int)), some (.ref qo), some (.ref pp), some (.int (1 + of)), c6, c7] ∧ Ord os ps i ∧ H4 qo = some (.lst (nv os)) ∧ H4 pp = some (.lst (nv ps)) ∧ Well w l H4 ∧ Keep w l H H4)
      ⟨List.replicate n 0, none, none, rfl, ⟨by rw [List.length_replicate, lo], fun j hj => absurd hj (Nat.not_lt_zero j)⟩, hqo3, hpp3, hW3, K3⟩ (fun i σ H4 _ ⟨_, _, _, _, _, z, _⟩ => SqL.of z) ?_ ?_⟩
    · rintro i v σ H4 H4' hi ⟨ps, c6, c7, rfl, O, hq4, hp4, hW4, K4⟩ ⟨t, v1, v2, rfl, nt, rfl, z1, z2⟩
      obtain ⟨io, rfl⟩ := nv_some z2
      cases z1
      have St := same_new (o := .tup [V.int (i : Nat), V.int ((os.getD i 0 : Nat) : Int)]) nt
      generalize hv : os.getD i 0 = v at *
      have ev : os[i]? = some v := by rw [← hv, List.getD_eq_getElem?_getD, List.getElem?_eq_getElem io]; rfl
      have vn : v < n := List.mem_range.mp (pm.mem_iff.mp (List.mem_of_getElem? ev))
      have vp : v < ps.length := by rw [O.len, lo]; exact vn
      -- whatever is chosen
      have put : ∀ (x : Nat) (H5 : Hp), (x = v ∨ ∃ m u, m < i ∧ os[m]? = some u ∧ x = u) → H5 qo = some (.lst (nv os)) → H5 pp = some (.lst (nv ps)) → Well w l H5 → Keep w l H H5 →
          ∃ (ps' : List Nat) (c6 c7 : Option V), [some (.ref w), some (.int most), some (.int (n : Int)), some (.ref qo), some (.ref pp), some (.int (1 + of)), some (V.int (i : Nat)), some (V.int (v : Nat))] = [some (.ref w), some (.int most), some (.int (n : Int)), some (.ref qo), some (.ref pp), some (.int (1 + of)), c6, c7] ∧ Ord os ps' (i + 1) ∧
            (upd H5 pp (.lst ((nv ps).set v (.int (x : Nat))))) qo = some (.lst (nv os)) ∧ (upd H5 pp (.lst ((nv ps).set v (.int (x : Nat))))) pp = some (.lst (nv ps')) ∧ Well w l (upd H5 pp (.lst ((nv ps).set v (.int (x : Nat))))) ∧ Keep w l H (upd H5 pp (.lst ((nv ps).set v (.int (x : Nat))))) := by
        intro x H5 hx hq5 hp5 hW5 K5
        refine ⟨ps.set v x, _, _, rfl, O.next nd vp ev hx, ?_, ?_, ?_, ?_⟩
        · rw [upd_ne qopp]
          exact hq5
        · rw [upd_same]
          unfold nv
          rw [List.map_set]
        · obtain ⟨w1, w2, w3, w4, w5, w6⟩ := hW5
          exact ⟨w1, w2, w3, by rw [upd_ne ppw.1.symm]; exact w4, by rw [upd_ne ppw.2.symm]; exact w5, w6⟩
        · intro b o h1 h2 h
          rw [upd_ne (ne_of_none h ppn)]
          exact K5 b o h1 h2 h
      have ix : ixN (nv ps).length (v : Int) = some v := by
        unfold ixN
        rw [nv_length, if_pos (by omega), if_pos (by omega), Int.toNat_natCast]
      refine ⟨t, _, rfl, SqT.of upd_same, rfl, _, _, rfl, _, _, rfl, rfl, ?_⟩
      refine ⟨.int (i : Nat), rfl, rfl, _, rfl, ite2 (fun hz => ?_) (fun hz => ?_)⟩
      · refine iteT ⟨.int (v : Nat), rfl, .ref pp, rfl, .int (v : Nat), rfl, pp, _, (v : Int), v, rfl, rfl, St _ _ hp4, ix, ?_⟩
        exact put v _ (.inl rfl) (St _ _ hq4) (St _ _ hp4) (hW4.same St) (K4.trans (Keep.of St))
      · have hz : ¬ i = 0 := fun z => hz (decide_eq_true (by rw [z]; rfl))
        refine ⟨.ref w, rfl, .int (1 + of), rfl, w, l, 1 + of, rfl, hW4.same St, by omega, by omega, fun g H5 g0 g1 hW5 kp5 => ?_⟩
        have hq5 := kp5 _ _ qow.1 qow.2 (St _ _ hq4)
        have hp5 := kp5 _ _ ppw.1 ppw.2 (St _ _ hp4)
        have K5 := K4.trans ((Keep.of St).trans kp5)
        have other : ∀ {Z : Prop}, Z → Z := fun z => z
        refine ⟨rfl, _, rfl, ite2 (fun h1 => ?_) (fun h1 => ?_)⟩
        · refine ⟨.int (1 + of), rfl, _, _, rfl, rfl, _, rfl, ite2 (fun h2 => ?_) (fun h2 => ?_)⟩
          · refine ⟨.int (v : Nat), rfl, .ref pp, rfl, .int (v : Nat), rfl, pp, _, (v : Int), v, rfl, rfl, hp5, ix, ?_⟩
            exact put v _ (.inl rfl) hq5 hp5 hW5 K5
          · refine ⟨.ref w, rfl, .ref qo, rfl, .int (i : Nat), rfl, _, rfl, qo, _, rfl, SqL.of hq5, fun ps5 n5 => ?_⟩
            have S5 := same_new (o := .lst (nv (os.take i))) n5
            rw [cut_upto (Nat.le_of_lt io)]
            obtain ⟨_, _, _, hw5, hl5, _⟩ := id hW5
            refine ⟨w, l, ps5, _, rfl, hW5.same S5, upd_same, (ne_of_none hw5 n5).symm, (ne_of_none hl5 n5).symm, ?_, ?_, fun x H6 hx hW6 kp6 => ?_⟩
            · intro z
              have := congrArg List.length z
              rw [nv_length, List.length_take] at this
              have : min i os.length = 0 := this
              omega
            · rw [nv_length, List.length_take]
              omega
            · obtain ⟨u, hu, rfl⟩ := List.mem_map.mp hx
              obtain ⟨m, hm, em⟩ := List.getElem_of_mem hu
              rw [List.length_take] at hm
              have em2 : os[m]? = some u := by
                rw [← em, List.getElem_take, List.getElem?_eq_getElem (by omega)]
              have hq6 := kp6 _ _ qow.1 qow.2 (S5 _ _ hq5)
              have hp6 := kp6 _ _ ppw.1 ppw.2 (S5 _ _ hp5)
              refine ⟨.ref pp, rfl, .int (v : Nat), rfl, pp, _, (v : Int), v, rfl, rfl, hp6, ix, ?_⟩
              exact put u _ (.inr ⟨m, u, by omega, em2, rfl⟩) hq6 hp6 hW6 (K5.trans ((Keep.of S5).trans kp6))
        · refine iteF ⟨.ref w, rfl, .ref qo, rfl, .int (i : Nat), rfl, _, rfl, qo, _, rfl, SqL.of hq5, fun ps5 n5 => ?_⟩
          have S5 := same_new (o := .lst (nv (os.take i))) n5
          rw [cut_upto (Nat.le_of_lt io)]
          obtain ⟨_, _, _, hw5, hl5, _⟩ := id hW5
          refine ⟨w, l, ps5, _, rfl, hW5.same S5, upd_same, (ne_of_none hw5 n5).symm, (ne_of_none hl5 n5).symm, ?_, ?_, fun x H6 hx hW6 kp6 => ?_⟩
          · intro z
            have := congrArg List.length z
            rw [nv_length, List.length_take] at this
            have : min i os.length = 0 := this
            omega
          · rw [nv_length, List.length_take]
            omega
          · obtain ⟨u, hu, rfl⟩ := List.mem_map.mp hx
            obtain ⟨m, hm, em⟩ := List.getElem_of_mem hu
            rw [List.length_take] at hm
            have em2 : os[m]? = some u := by
              rw [← em, List.getElem_take, List.getElem?_eq_getElem (by omega)]
            have hq6 := kp6 _ _ qow.1 qow.2 (S5 _ _ hq5)
            have hp6 := kp6 _ _ ppw.1 ppw.2 (S5 _ _ hp5)
            refine ⟨.ref pp, rfl, .int (v : Nat), rfl, pp, _, (v : Int), v, rfl, rfl, hp6, ix, ?_⟩
            exact put u _ (.inr ⟨m, u, by omega, em2, rfl⟩) hq6 hp6 hW6 (K5.trans ((Keep.of S5).trans kp6))
    · rintro σ H4 ⟨ps, c6, c7, rfl, O, hq4, hp4, hW4, K4⟩
      refine ⟨.ref pp, rfl, pp, _, rfl, .inl ⟨SqL.of hp4, fun p9 o9 n9 t9 => ?_⟩⟩
      have S9 := same_new (o := .frz o9 (.tup (nv ps))) n9
      rw [nv_length, lo] at O
      exact q ps p9 _ (O.forest pm n0 n24) (by have := O.len; omega) (hW4.same S9) (K4.trans (Keep.of S9)) (keep_free K4 hW4 n9) ⟨o9, t9, upd_same⟩
end
end Lf.Zk
namespace Lf.Zk
open PySem PySem.Spec PyProof.Rows L2
/-! ### _law_line, _law_forest -/
def spLine (K : PySem.W.Frag) : Sp := fun vs H Q _ => ∃ (p : Addr) (fs : List Nat) (v : Nat), vs = [.ref p, .int (v : Nat)] ∧ SqQ K H p (nv fs) ∧ Forest fs ∧ v < fs.length ∧
  ∀ (ln : List Nat) (q : Addr) (H' : Hp), Same H H' → Pth fs v ln → ln.length ≤ fs.length → H q = none → H' q = some (.lst (nv ln)) → Q (.ref q) H'
theorem nv_last (l : List Nat) (v : Nat) : atI (nv (l ++ [v])) (-1) = some (.int (v : Nat)) := by
  rw [nv_append]
  exact atI_last (nv l) (.int (v : Nat))
section
variable {P : Program} {w : World} {K : PySem.W.Frag} {mg : Str → Option Value} {base : Heap}
theorem scLine : FnScope ["_law_parents", "_law_vertex", "_law_found_here"] ["_law_parents", "_law_vertex"] (defScope sLine) := ⟨rfl, rfl, rfl, by decide +kernel, rfl, by decide +kernel, by decide +kernel⟩
theorem ok_line {f : Addr} {fd : FuncData} (F : Fun K "_law_line" "_law_line" sLine f fd) : FnOk P w K mg base CX0 1 f fd ["_law_parents", "_law_vertex"] (spLine K) := by
  refine F.ok scLine (fun vs H Q E h => ?_) (fun cdv A outer s H vs Q E hr h => ?_)
  · obtain ⟨p, fs, v, rfl, _⟩ := h
    rfl
  · obtain ⟨p, fs, v, rfl, hp, hF, hv, q⟩ := h
    refine ⟨_, pss_cons (ps_set (i := 2) scLine.nd rfl (.inl rfl) (pe_lst (pa_cons (pv 1) pa_nil)))
      (pss_cons (ps_while PassesOwn.never (pt_cmpR op_ne (pe_ix ix_q (pv 0) (pe_ix ix_list (pv 2) (pe_un un_neg pe_int) (fun _ _ => rfl)) (fun _ _ => rfl)) (pe_ix ix_list (pv 2) (pe_un un_neg pe_int) (fun _ _ => rfl)) (nomark _))
        (pss_one (ps_expr (pe_bm PySem.F.plainAttrs_list PySem.F.slot_list_append PySem.F.type_list_append mt_append (pv 2) (pa_cons (pe_ix ix_q (pv 0) (pe_ix ix_list (pv 2) (pe_un un_neg pe_int) (fun _ _ => rfl)) (fun _ _ => rfl)) pa_nil)))))
      (pss_one (ps_ret (pv 2)))), ?_⟩
    refine ⟨.int (v : Nat), rfl, (by show 1 ≤ sizeLine; decide), fun qa nq => ?_⟩
    obtain ⟨k, rk⟩ := hF.rch v hv
    obtain ⟨full, pf, nd, lf, _, _, _⟩ := hF.path hv
    refine ⟨fun m σ H1 => ∃ (pre : List Nat) (cur : Nat), σ = [some (.ref p), some (.int (v : Nat)), some (.ref qa)] ∧ Same H H1 ∧ H1 qa = some (.lst (nv (pre ++ [cur]))) ∧ cur < fs.length ∧ Rch fs m cur ∧ ∀ l, Pth fs cur l → Pth fs v (pre ++ l),
      ⟨k, [], v, rfl, same_new nq, upd_same, hv, rk, fun l h => h⟩, ?_⟩
    rintro m σ H1 ⟨pre, cur, rfl, sm, hqa, hc, rc, ext⟩
    have hpp := hp.same sm
    have short : pre.length + 1 + m ≤ 24 := by
      obtain ⟨l, pl, el⟩ := Pth.of rc
      have e := (ext l pl).inj pf
      have := congrArg List.length e
      rw [List.length_append, el] at this
      have := hF.few
      omega
    refine ⟨.ref p, rfl, .ref qa, rfl, 1, rfl, qa, _, -1, _, rfl, rfl, SqL.of hqa, nv_last pre cur, p, _, (cur : Int), .int ((par fs cur : Nat) : Int), rfl, rfl, hpp, atI_nat (nv_get hc), .ref qa, rfl, 1, rfl, qa, _, -1, _, rfl, rfl, SqL.of hqa, nv_last pre cur, rfl, _, rfl, ite2 (fun hn => ?_) (fun hn => ?_)⟩
    · have hn : par fs cur ≠ cur := fun z => by
        rw [decide_eq_true (natV_inj.mpr z)] at hn
        cases hn
      cases rc with
      | root z => exact absurd z hn
      | @step m' _ _ r =>
        refine ⟨fun σ' H' => σ' = [some (.ref p), some (.int (v : Nat)), some (.ref qa)] ∧ Same H H' ∧ H' qa = some (.lst (nv ((pre ++ [cur]) ++ [par fs cur]))), ?_, ?_⟩
        · rintro σ' H' ⟨z1, z2, z3⟩
          refine ⟨m', Nat.lt_succ_self _, pre ++ [cur], par fs cur, z1, z2, z3, hF.rng cur hc, r, fun l hl => ?_⟩
          rw [List.append_assoc]
          exact ext _ (.step hn hl)
        · refine ⟨.ref qa, rfl, .inl ⟨rfl, _, SqL.of hqa⟩, .ref p, rfl, .ref qa, rfl, 1, rfl, qa, _, -1, _, rfl, rfl, SqL.of hqa, nv_last pre cur, p, _, (cur : Int), .int ((par fs cur : Nat) : Int), rfl, rfl, hpp, atI_nat (nv_get hc), qa, _, _, rfl, rfl, hqa, ?_, rfl, fun b o z => ?_, ?_⟩
          · rw [nv_length, List.length_append]
            exact small1000 (by show pre.length + 1 ≤ 1000; omega)
          · rw [upd_ne (ne_of_none z nq)]
            exact sm _ _ z
          · rw [upd_same, nv_append (pre ++ [cur])]
            rfl
    · have hn : par fs cur = cur := Classical.byContradiction fun z => hn (by rw [decide_eq_false (fun y => z (natV_inj.mp y))]; rfl)
      have pt := ext _ (.root hn)
      exact ⟨.ref qa, rfl, q _ qa H1 sm pt (by rw [pt.inj pf]; exact lf) nq hqa⟩
theorem in_nv {x : Nat} : ∀ l : List Nat, inV (.int (x : Nat)) (nv l) = decide (x ∈ l)
  | [] => rfl
  | y :: l => by
    show (eqV (.int (y : Nat)) (.int (x : Nat)) || inV (.int (x : Nat)) (nv l)) = _
    rw [in_nv l]
    have e : eqV (.int (y : Nat)) (.int (x : Nat)) = decide (x = y) := by
      show (((y : Nat) : Int) == ((x : Nat) : Int)) = _
      by_cases h : x = y
      · rw [h, decide_eq_true rfl, beq_self_eq_true]
      · rw [decide_eq_false h]
        exact beq_eq_false_iff_ne.mpr (by omega)
    rw [e]
    by_cases h : x = y <;> simp [h]
theorem flat_nv : ∀ l : List Nat, (nv l).all flatV = true
  | [] => rfl
  | _ :: l => flat_nv l
theorem cut_from {os : List Nat} {i : Nat} (h : i ≤ os.length) : cutV (nv os) (some (i : Int)) none = nv (os.drop i) := by
  unfold cutV
  rw [HT.sIx_none, HT.sIx_nat, nv_length, Nat.min_eq_left h]
  unfold nv
  rw [← List.map_drop, List.take_of_length_le]
  rw [List.length_map, List.length_drop]
  exact Nat.le_refl _
theorem set_cut {fs : List Nat} {v x : Nat} (h : v < fs.length) : fs.set v x = fs.take v ++ [x] ++ fs.drop (v + 1) := by
  rw [List.set_eq_take_append_cons_drop, if_pos h, List.append_assoc]
  rfl
theorem sqK {K : PySem.W.Frag} {H : Hp} {a : Addr} {o : Obj} {xs : List V} (h : H a = some (.frz o (.tup xs))) : SqT K H a xs := .inl (.inr ⟨o, h⟩)
abbrev NF : List Str := ["_law_well_here", "_law_most", "_law_way", "_law_parents", "_law_vertex", "_law_other"]
theorem scForest : FnScope NF ["_law_well_here", "_law_most"] (defScope sForest) := ⟨rfl, rfl, rfl, by decide +kernel, rfl, by decide +kernel, by decide +kernel⟩
theorem ok_forest {f fP fG fW fL : Addr} {fd fdP fdG fdW fdL : FuncData} (F : Fun K "_law_forest" "_law_forest" sForest f fd)
    (FP : Fun K "_law_pull" "_law_pull" sPull fP fdP) (bP : Binds K fdP ["_law_well_here", "_law_many"] []) (gP : mg "_law_pull" = some (.ref fP))
    (FG : Fun K "_law_grown" "_law_grown" sGrown fG fdG) (bG : Binds K fdG ["_law_well_here", "_law_most"] []) (gG : mg "_law_grown" = some (.ref fG)) (GG : FnOk P w K mg base CX0 3 fG fdG ["_law_well_here", "_law_most"] spGrown)
    (FW : Fun K "_law_wild" "_law_wild" sWild fW fdW) (bW : Binds K fdW ["_law_well_here", "_law_most"] []) (gW : mg "_law_wild" = some (.ref fW)) (GW : FnOk P w K mg base CX0 3 fW fdW ["_law_well_here", "_law_most"] spGrown)
    (FL : Fun K "_law_line" "_law_line" sLine fL fdL) (bL : Binds K fdL ["_law_parents", "_law_vertex"] []) (gL : mg "_law_line" = some (.ref fL))
    (ml : mg "len" = none) : FnOk P w K mg base CX0 4 f fd ["_law_well_here", "_law_most"] spGrown := by
  have GP : FnOk P w K mg base CX0 1 fP fdP ["_law_well_here", "_law_many"] spPull := ok_pull FP
  have GL : FnOk P w K mg base CX0 1 fL fdL ["_law_parents", "_law_vertex"] (spLine K) := ok_line FL
  refine F.ok scForest (fun vs H Q E h => ?_) (fun cdv A outer s H vs Q E hr h => ?_)
  · obtain ⟨w, l, m, rfl, _⟩ := h
    rfl
  · obtain ⟨w, l, most, rfl, hW, m0, m1, q⟩ := h
    have hr1 : Room 1 _ := hr.mono (by decide)
    refine ⟨_, pss_cons (ps_set (i := 2) scForest.nd rfl (.inl rfl) (pe_call GP hr1 (by rfl) gP FP.kp bP .nil pass0 (pa_cons (pv 0) (pa_cons pe_int pa_nil))))
      (pss_cons (ps_if (pt_cmpR op_eq (pv 2) pe_int (nomark _)) (pss_one (ps_ret (pe_call GW hr (by rfl) gW FW.kp bW .nil pass0 (pa_cons (pv 0) (pa_cons (pv 1) pa_nil))))) pss_nil)
      (pss_cons (ps_set (i := 3) scForest.nd rfl (.inl rfl) (pe_call GG hr (by rfl) gG FG.kp bG .nil pass0 (pa_cons (pv 0) (pa_cons (pv 1) pa_nil))))
      (pss_cons (ps_if (pt_cmpR op_eq (pv 2) pe_int (nomark _))
          (pss_cons (ps_par (i := 4) (j := 5) (by rfl) scForest.nd rfl rfl (by decide) rfl rfl (pa_cons (pe_call GP hr1 (by rfl) gP FP.kp bP .nil pass0 (pa_cons (pv 0) (pa_cons (pe_callB call_len_seq (by rfl) ml PySem.boot_len (pa_cons (pv 3) pa_nil)) pa_nil)))
              (pa_cons (pe_call GP hr1 (by rfl) gP FP.kp bP .nil pass0 (pa_cons (pv 0) (pa_cons (pe_callB call_len_seq (by rfl) ml PySem.boot_len (pa_cons (pv 3) pa_nil)) pa_nil))) pa_nil)) (by rfl))
          (pss_one (ps_if (pt_cmpR op_notIn_seq (pv 4) (pe_call GL hr1 (by rfl) gL FL.kp bL .nil pass0 (pa_cons (pv 3) (pa_cons (pv 5) pa_nil))) (by rfl))
            (pss_one (ps_set (i := 3) scForest.nd rfl (.inl rfl) (pe_op op_catK (pe_op op_catK (pe_slice sl_tupK (pv 3) po_none (po_some (pv 4))) (pe_tupK (pa_cons (pv 5) pa_nil))) (pe_slice sl_tupK (pv 3) (po_some (pe_op op_add (pv 4) pe_int)) po_none)))) pss_nil))) pss_nil)
      (pss_one (ps_ret (pv 3)))))), ?_⟩
    refine ⟨.ref w, rfl, w, l, 4, rfl, hW, by decide, by decide, fun wy H1 y0 y1 hW1 kp1 => ?_⟩
    refine ⟨.int wy, rfl, rfl, _, rfl, ite2 (fun h0 => ?_) (fun h0 => ?_)⟩
    · refine ⟨.ref w, rfl, .int most, rfl, w, l, most, rfl, hW1, m0, m1, fun fs qa H2 hF hle hW2 kp2 nq hq => ?_⟩
      exact q fs qa H2 hF hle hW2 (kp1.trans kp2) (keep_free kp1 hW1 nq) hq
    · refine ⟨.ref w, rfl, .int most, rfl, w, l, most, rfl, hW1, m0, m1, fun fs qa H2 hF hle hW2 kp2 nq ⟨oq, tq, hq⟩ => ?_⟩
      have K2 := kp1.trans kp2
      have nqH : H qa = none := keep_free kp1 hW1 nq
      obtain ⟨_, _, _, hw1, hl1, _⟩ := id hW1
      have qw : qa ≠ w := (ne_of_none hw1 nq).symm
      have ql : qa ≠ l := (ne_of_none hl1 nq).symm
      have pos := hF.pos
      have few := hF.few
      refine ⟨.int wy, rfl, rfl, _, rfl, ite2 (fun h1 => ?_) (fun h1 => ?_)⟩
      · refine ⟨.ref w, rfl, .ref qa, rfl, qa, _, rfl, .inr (sqK hq), w, l, _, rfl, hW2, ?_, ?_, fun v H3 v0 v1 hW3 kp3 => ?_⟩
        · rw [nv_length]
          omega
        · rw [nv_length]
          omega
        have hq3 := kp3 _ _ qw ql hq
        refine ⟨.ref w, rfl, .ref qa, rfl, qa, _, rfl, .inr (sqK hq3), w, l, _, rfl, hW3, ?_, ?_, fun u H4 u0 u1 hW4 kp4 => ⟨_, _, rfl, ?_⟩⟩
        · rw [nv_length]
          omega
        · rw [nv_length]
          omega
        have hq4 := kp4 _ _ qw ql hq3
        rw [nv_length] at v1 u1
        obtain ⟨vn, ev⟩ : ∃ n : Nat, v = (n : Int) := ⟨v.toNat, by omega⟩
        obtain ⟨un, eu⟩ : ∃ n : Nat, u = (n : Int) := ⟨u.toNat, by omega⟩
        subst ev eu
        have vl : vn < fs.length := by omega
        have ul : un < fs.length := by omega
        have K4 := K2.trans (kp3.trans kp4)
        refine ⟨.int (vn : Nat), rfl, .ref qa, rfl, .int (un : Nat), rfl, qa, fs, un, rfl, .inr (sqK hq4), hF, ul, fun ln ql' H5 s5 pl _ nl hl => ?_⟩
        refine ⟨ql', _, rfl, .inl (SqL.of hl), rfl, flat_nv ln, _, rfl, ?_⟩
        have hq5 := s5 _ _ hq4
        have K5 := K4.trans (Keep.of s5)
        have hW5 := hW4.same s5
        show if (!inV (.int (vn : Nat)) (nv ln)) = true then _ else _
        rw [in_nv]
        refine ite2 (fun hi => ?_) (fun hi => ?_)
        · have nb : ¬ Bel fs vn un := fun b => by
            rw [decide_eq_true ((pl.bel vn).mpr b)] at hi
            cases hi
          have hF2 := hF.moved vl ul nb
          have lt : (nv fs).length = fs.length := nv_length fs
          -- the parts
          refine ⟨.ref qa, rfl, .int (vn : Nat), rfl, _, rfl, qa, _, rfl, sqK hq5, ?_, fun _ p1 o1 n1 t1 => ?_⟩
          · rintro ⟨_, z⟩
            rw [HT.sIx_nat, nv_length] at z
            omega
          rw [cut_upto (Nat.le_of_lt vl)]
          have S1 := same_new (o := .frz o1 (.tup (nv (fs.take vn)))) n1
          refine ⟨.int (un : Nat), rfl, (by show 1 ≤ sizeLine; decide), fun p2 o2 n2 t2 => ?_⟩
          have S2 := same_new (o := .frz o2 (.tup [V.int (un : Nat)])) n2
          have len1 : (nv (fs.take vn)).length + [V.int (un : Nat)].length ≤ sizeLine := by
            rw [nv_length, List.length_take]
            exact Nat.le_of_lt (small1000 (by show min vn fs.length + 1 ≤ 1000; omega))
          refine ⟨p1, p2, _, _, rfl, rfl, sqK (S2 _ _ upd_same), sqK upd_same, len1, (fun z => nomatch z), fun z => ?_, fun p3 o3 n3 t3 => ?_⟩
          · have e0 : fs.take vn = [] := List.map_eq_nil_iff.mp z
            have nm : H p2 = none := keep_free (K5.trans (Keep.of S1)) (hW5.same S1) n2
            have SG := S1.trans S2
            have hm : (upd (upd (H5) p1 (.frz o1 (.tup (nv (fs.take vn))))) p2 (.frz o2 (.tup [V.int (un : Nat)]))) p2 = some (.frz o2 (.tup (nv (fs.take vn ++ [un])))) := by
              rw [upd_same, e0]
              rfl
            generalize hG : upd (upd H5 p1 (.frz o1 (.tup (nv (fs.take vn))))) p2 (.frz o2 (.tup [V.int (un : Nat)])) = G at *
            generalize hmm : p2 = m at *
            have hqG := SG _ _ hq5
            refine ⟨.ref qa, rfl, .int (vn : Nat), rfl, _, _, rfl, rfl, _, rfl, qa, _, rfl, sqK hqG, ?_, fun _ p5 o5 n5 t5 => ?_⟩
            · rintro ⟨z, _⟩
              have z2 : HT.sIx (nv fs).length 0 (some (((vn + 1 : Nat) : Int))) = 0 := z
              rw [HT.sIx_nat, nv_length] at z2
              omega
            have ec : cutV (nv fs) (some ((vn : Int) + 1)) none = nv (fs.drop (vn + 1)) := cut_from (i := vn + 1) vl
            have S5 := same_new (o := .frz o5 (.tup (nv (fs.drop (vn + 1))))) n5
            rw [ec]
            have len2 : (nv (fs.take vn ++ [un])).length + (nv (fs.drop (vn + 1))).length ≤ sizeLine := by
              rw [nv_length, nv_length, List.length_append, List.length_take, List.length_drop]
              exact Nat.le_of_lt (small1000 (by show min vn fs.length + 1 + (fs.length - (vn + 1)) ≤ 1000; omega))
            refine ⟨m, p5, _, _, rfl, rfl, sqK (S5 _ _ hm), sqK upd_same, len2, fun z => ?_, fun z => absurd (congrArg List.length z) (by rw [nv_length, List.length_append]; exact Nat.succ_ne_zero _), fun p6 o6 n6 t6 => ?_⟩
            · have e0 : fs.drop (vn + 1) = [] := List.map_eq_nil_iff.mp z
              have eF : fs.set vn un = fs.take vn ++ [un] := by rw [set_cut vl, e0, List.append_nil]
              refine ⟨.ref m, rfl, q (fs.set vn un) m _ hF2 (by rw [List.length_set]; exact hle) ((hW5.same SG).same S5) (K5.trans ((Keep.of SG).trans (Keep.of S5))) nm ⟨o2, t2, ?_⟩⟩
              rw [eF]
              exact S5 _ _ hm
            · have S6 := same_new (o := .frz o6 (.tup (nv (fs.take vn ++ [un]) ++ nv (fs.drop (vn + 1))))) n6
              refine ⟨.ref p6, rfl, q (fs.set vn un) p6 _ hF2 (by rw [List.length_set]; exact hle) (((hW5.same SG).same S5).same S6) (K5.trans ((Keep.of SG).trans ((Keep.of S5).trans (Keep.of S6)))) (keep_free (K5.trans ((Keep.of SG).trans (Keep.of S5))) ((hW5.same SG).same S5) n6) ⟨o6, t6, ?_⟩⟩
              rw [upd_same, set_cut vl, nv_append (fs.take vn ++ [un])]
          · have S3 := same_new (o := .frz o3 (.tup (nv (fs.take vn) ++ [V.int (un : Nat)]))) n3
            have nm : H p3 = none := keep_free (K5.trans (Keep.of (S1.trans S2))) (hW5.same (S1.trans S2)) n3
            have SG := (S1.trans S2).trans S3
            have hm : (upd (upd (upd H5 p1 (.frz o1 (.tup (nv (fs.take vn))))) p2 (.frz o2 (.tup [V.int (un : Nat)]))) p3 (.frz o3 (.tup (nv (fs.take vn) ++ [V.int (un : Nat)])))) p3 = some (.frz o3 (.tup (nv (fs.take vn ++ [un])))) := by
              rw [upd_same, nv_append]
              rfl
            generalize hG : upd (upd (upd H5 p1 (.frz o1 (.tup (nv (fs.take vn))))) p2 (.frz o2 (.tup [V.int (un : Nat)]))) p3 (.frz o3 (.tup (nv (fs.take vn) ++ [V.int (un : Nat)]))) = G at *
            generalize hmm : p3 = m at *
            have hqG := SG _ _ hq5
            refine ⟨.ref qa, rfl, .int (vn : Nat), rfl, _, _, rfl, rfl, _, rfl, qa, _, rfl, sqK hqG, ?_, fun _ p5 o5 n5 t5 => ?_⟩
            · rintro ⟨z, _⟩
              have z2 : HT.sIx (nv fs).length 0 (some (((vn + 1 : Nat) : Int))) = 0 := z
              rw [HT.sIx_nat, nv_length] at z2
              omega
            have ec : cutV (nv fs) (some ((vn : Int) + 1)) none = nv (fs.drop (vn + 1)) := cut_from (i := vn + 1) vl
            have S5 := same_new (o := .frz o5 (.tup (nv (fs.drop (vn + 1))))) n5
            rw [ec]
            have len2 : (nv (fs.take vn ++ [un])).length + (nv (fs.drop (vn + 1))).length ≤ sizeLine := by
              rw [nv_length, nv_length, List.length_append, List.length_take, List.length_drop]
              exact Nat.le_of_lt (small1000 (by show min vn fs.length + 1 + (fs.length - (vn + 1)) ≤ 1000; omega))
            refine ⟨m, p5, _, _, rfl, rfl, sqK (S5 _ _ hm), sqK upd_same, len2, fun z => ?_, fun z => absurd (congrArg List.length z) (by rw [nv_length, List.length_append]; exact Nat.succ_ne_zero _), fun p6 o6 n6 t6 => ?_⟩
            · have e0 : fs.drop (vn + 1) = [] := List.map_eq_nil_iff.mp z
              have eF : fs.set vn un = fs.take vn ++ [un] := by rw [set_cut vl, e0, List.append_nil]
              refine ⟨.ref m, rfl, q (fs.set vn un) m _ hF2 (by rw [List.length_set]; exact hle) ((hW5.same SG).same S5) (K5.trans ((Keep.of SG).trans (Keep.of S5))) nm ⟨o3, t3, ?_⟩⟩
              rw [eF]
              exact S5 _ _ hm
            · have S6 := same_new (o := .frz o6 (.tup (nv (fs.take vn ++ [un]) ++ nv (fs.drop (vn + 1))))) n6
              refine ⟨.ref p6, rfl, q (fs.set vn un) p6 _ hF2 (by rw [List.length_set]; exact hle) (((hW5.same SG).same S5).same S6) (K5.trans ((Keep.of SG).trans ((Keep.of S5).trans (Keep.of S6)))) (keep_free (K5.trans ((Keep.of SG).trans (Keep.of S5))) ((hW5.same SG).same S5) n6) ⟨o6, t6, ?_⟩⟩
              rw [upd_same, set_cut vl, nv_append (fs.take vn ++ [un])]
        · exact ⟨.ref qa, rfl, q fs qa _ hF hle hW5 K5 nqH ⟨oq, tq, hq5⟩⟩
      · exact ⟨.ref qa, rfl, q fs qa _ hF hle hW2 K2 nqH ⟨oq, tq, hq⟩⟩
end
end Lf.Zk
namespace Lf
open PySem PySem.Spec PyProof.Rows L2
theorem im_nv {B : Addr → Prop} {H : Hp} : ∀ l : List Nat, ImAll B H (nv l) (nD l)
  | [] => .nil
  | x :: l => .cons (.int _) (im_nv l)
theorem nv_im {B : Addr → Prop} {H : Hp} : ∀ {xs : List V} {l : List Nat}, ImAll B H xs (nD l) → xs = nv l
  | [], [], _ => rfl
  | [], _ :: _, h => by cases h
  | _ :: _, [], h => by cases h
  | x :: xs, z :: l, h => by
    have h : ImAll B H (x :: xs) (.int (z : Nat) :: nD l) := h
    cases h with
    | cons h1 h2 =>
      cases h1
      rw [nv_im h2]
      rfl
/-! ### a drawing state [numbers, state]: the zone of two lists -/
def wOk (w l : Addr) (H : Hp) : Prop := w ≠ l ∧ ∃ (xs : List Int) (st : Int), H w = some (.lst [.ref l, .int st]) ∧ H l = some (.lst (xs.map V.int)) ∧ xs.length ≤ 63 ∧ 0 ≤ st ∧ st < 18446744073709551616
def wz (w l : Addr) : Zn where
  S := Unit
  at_ := fun a => a = w ∨ a = l
  ok := fun _ H => wOk w l H
  trk := fun {_ H a} ⟨_, xs, st, h1, h2, _⟩ h => by
    rcases h with rfl | rfl
    · rw [h1]; exact fun z => nomatch z
    · rw [h2]; exact fun z => nomatch z
  nt := fun {_ H a zs} ⟨_, xs, st, h1, h2, _⟩ h => by
    rcases h with rfl | rfl
    · rw [h1]; exact fun z => nomatch z
    · rw [h2]; exact fun z => nomatch z
  nf := fun {_ H a o u} ⟨_, xs, st, h1, h2, _⟩ h => by
    rcases h with rfl | rfl
    · rw [h1]; exact fun z => nomatch z
    · rw [h2]; exact fun z => nomatch z
  st := fun {_ H H'} ⟨n, xs, st, h1, h2, h3⟩ k _ _ _ => ⟨n, xs, st, k _ _ (.inl rfl) h1, k _ _ (.inr rfl) h2, h3⟩
def spSrc (K : PySem.W.Frag) : Sp := fun vs H Q _ => ∃ (a : Addr) (ns : List Int), vs = [.ref a] ∧ SqL K H a (ns.map V.int) ∧ ns.length ≤ 63 ∧
  ∀ H' w l, Same H H' → wOk w l H' → H w = none → H l = none → Q (.ref w) H'
/-- a number below many is drawn -/
def fDraw (w l : Addr) : DF (wz w l) := fun s as Q => ∃ many : Nat, as = [.raw (.ref w), .im (.int (many : Nat))] ∧ 1 ≤ many ∧ many < 1073741824 ∧ ∀ r : Nat, r < many → Q (.im (.int (r : Nat))) s
def spLaw (K : PySem.W.Frag) : Sp := fun vs H Q _ => ∃ (a : Addr) (ns : List Int), vs = [.ref a] ∧ SqL K H a (ns.map V.int) ∧ ns.length ≤ 63 ∧ ∀ H', Q (.bl true) H'
theorem PSs.ex {X : Cx} {sts : List Stmt} {t : Addr → Addr → TS} (h : ∀ w l, PSs X sts (t w l)) : PSs X sts (fun D σ H => ∃ w l, t w l D σ H) := ⟨fun pins s σ H D I ⟨w, l, q⟩ => (h w l).run pins s σ H D I q⟩
theorem zone_in {H : Hp} {Q : VK} {b wa la : Addr} {m : Nat} {t : (w l : Addr) → DSt (wz w l)} (ok : wOk wa la H) (q : ∀ G, Q (.bl true) G) (hd : t wa la (ends fun r _ => r = .im (.bool true)) () ([.raw (.ref b), .raw (.ref wa)] ++ List.replicate m .no)) :
    ∃ w l, liftS (wz w l) (t w l) { nx := fun _ H' => Q .non H', rt := Q } ([some (.ref b), some (.ref wa)] ++ List.replicate m none) H := by
  refine ⟨wa, la, fun _ => False, H, [.raw (.ref b), .raw (.ref wa)] ++ List.replicate m .no, (), ends fun r _ => r = .im (.bool true), ?_, hd, (fun s' ρ' σ' H' z _ _ => by cases (show (Rv.im .none) = .im (.bool true) from z)), (fun _ _ _ _ z _ _ => (show False from z).elim), (fun _ _ _ _ z _ _ => (show False from z).elim), fun r s' v H' z _ _ rr => ?_⟩
  · have eo : own ([.raw (.ref b), .raw (.ref wa)] ++ List.replicate m .no) = [] := ArgRs.own (B := fun _ => False) (H := H) (.cons (v := .ref b) (x := .raw (.ref b)) rfl (.cons (v := .ref wa) (x := .raw (.ref wa)) rfl .nil))
    refine ⟨ok, by simp, fun i x e => ?_, by rw [eo]; exact List.nodup_nil, (fun a ha => by rw [eo] at ha; exact absurd ha List.not_mem_nil), fun a z => z.elim, fun b o e _ => e⟩
    match i with
    | 0 => cases e; exact ⟨_, rfl, rfl⟩
    | 1 => cases e; exact ⟨_, rfl, rfl⟩
    | i + 2 =>
      have e2 : (List.replicate m Sl.no)[i]? = some x := e
      have hi : i < m := by
        have := (List.getElem?_eq_some_iff.mp e2).1
        rw [List.length_replicate] at this
        exact this
      have hx : x = .no := by
        rw [List.getElem?_replicate, if_pos hi] at e2
        exact (Option.some.inj e2).symm
      subst hx
      refine ⟨none, ?_, trivial⟩
      show (List.replicate m (none : Option V))[i]? = some none
      rw [List.getElem?_replicate, if_pos hi]
  · cases (show r = .im (.bool true) from z)
    cases (show Im _ H' v _ from rr)
    exact q H'
end Lf
namespace Lf
open PySem PySem.Spec PyProof.Rows L2
/-! ### the well's laws over the data layer -/
def fForW (w l : Addr) : DF (wz w l) := fun s as Q => ∃ most : Nat, as = [.raw (.ref w), .im (.int (most : Nat))] ∧ 1 ≤ most ∧ most ≤ 24 ∧ ∀ fs : List Nat, Forest fs → fs.length ≤ most → Q (.im (tupN fs)) s
def fMixW (w l : Addr) : DF (wz w l) := fun s as Q => ∃ ns : List Nat, as = [.raw (.ref w), .im (.list (nD ns))] ∧ ns.length ≤ 1000 ∧ ∀ ms : List Nat, ms.Perm ns → Q (.fr (nD ms)) s
section
variable {P : Program} {w : World} {K : PySem.W.Frag} {mg : Str → Option Value} {base : Heap} {k : Nat} {x : Str} {ps : List Str}
theorem Df.pullW (D : Df P w K mg base CX0 k x ps spPull) (wa l : Addr) : Df P w K mg base CX0 k x ps (spD (wz wa l) (fDraw wa l)) := D.imp fun vs H Q E h => by
  obtain ⟨B0, s0, as, Qd, ok, hB, ha, ⟨many, rfl, m0, m1, qd⟩, hq⟩ := h
  cases ha with
  | cons h1 h2 =>
    cases h2 with
    | cons h3 h4 =>
      cases h4
      cases (show _ = V.ref wa from h1)
      cases (show Im _ H _ _ from h3)
      refine ⟨wa, l, _, rfl, ok, by omega, by omega, fun r H' r0 r1 ok' kp => ?_⟩
      have := qd r.toNat (by omega)
      rw [Int.toNat_of_nonneg r0] at this
      exact hq _ s0 (.int r) H' this ok' (fun b o e n => kp b o (fun z => n (.inl z)) (fun z => n (.inr z)) e) (Im.int r)
theorem Df.forW (D : Df P w K mg base CX0 k x ps Zk.spGrown) (wa l : Addr) : Df P w K mg base CX0 k x ps (spD (wz wa l) (fForW wa l)) := D.imp fun vs H Q E h => by
  obtain ⟨B0, s0, as, Qd, ok, hB, ha, ⟨most, rfl, m0, m1, qd⟩, hq⟩ := h
  cases ha with
  | cons h1 h2 =>
    cases h2 with
    | cons h3 h4 =>
      cases h4
      cases (show _ = V.ref wa from h1)
      cases (show Im _ H _ _ from h3)
      refine ⟨wa, l, _, rfl, ok, by omega, by omega, fun fs q H' hF hl ok' kp nq ⟨oq, tq, hq'⟩ => ?_⟩
      exact hq _ s0 (.ref q) H' (qd fs hF (by omega)) ok' (fun b o e n => kp b o (fun z => n (.inl z)) (fun z => n (.inr z)) e) (Im.ftp hq' tq (im_nv fs))
theorem Df.mixW (D : Df P w K mg base CX0 k x ps spMixed) (wa l : Addr) : Df P w K mg base CX0 k x ps (spD (wz wa l) (fMixW wa l)) := D.imp fun vs H Q E h => by
  obtain ⟨B0, s0, as, Qd, ok, hB, ha, ⟨ns, rfl, m0, qd⟩, hq⟩ := h
  cases ha with
  | cons h1 h2 =>
    cases h2 with
    | cons h3 h4 =>
      cases h4
      cases (show _ = V.ref wa from h1)
      cases (show Im _ H _ _ from h3) with
      | lst e n q =>
        cases nv_im q
        refine ⟨wa, l, _, ns, rfl, ok, e, m0, fun ms q H' pm ok' kp nq hq' => ?_⟩
        exact hq _ s0 (.ref q) H' (qd ms pm) ok' (fun b o e n => kp b o (fun z => n (.inl z)) (fun z => n (.inr z)) e) ⟨q, _, rfl, nq, fun z => (wz wa l).trk (s := s0) ok z nq, hq', im_nv ms⟩
end
end Lf
namespace Lf
open PySem PySem.Spec PyProof.Rows L2
/-! ### k72: texts, twisted -/
--@call _law_pull Z pass0
--@call _law_item Z pass0
--@sub (de_slS (dv 1) => (de_slS (dv 1)
--@sub de_mulSK de_str => de_mulSK de_str
--@sub de_revL (dv 3) => de_revL (dv 3)
def fItemW (w l : Addr) : DF (wz w l) := fun s as Q => ∃ L : List PyData, as = [.raw (.ref w), .im (.list L)] ∧ 1 ≤ L.length ∧ L.length ≤ 1000 ∧ ∀ d ∈ L, Q (.im d) s
def fTwist (w l : Addr) : DF (wz w l) := fun s as Q => ∃ z : Str, as = [.raw (.ref w), .im (.str z)] ∧ Asc z ∧ z.length ≤ 200 ∧ ∀ z' : Str, Asc z' → z'.length ≤ 90000 → Q (.im (.str z')) s
def TxD (n : Nat) (d : PyData) : Prop := ∃ z : Str, d = .str z ∧ Asc z ∧ z.length ≤ n
theorem TxD.mono {n m : Nat} {d : PyData} (h : TxD n d) (le : n ≤ m) : TxD m d := by
  obtain ⟨z, rfl, a, b⟩ := h
  exact ⟨z, rfl, a, by omega⟩
theorem joinL_mem {s : List Nat} {c : Nat} : ∀ {ps : List (List Nat)}, c ∈ TL.joinL s ps → c ∈ s ∨ ∃ p ∈ ps, c ∈ p
  | [], h => by cases h
  | [p], h => .inr ⟨p, List.mem_cons_self, h⟩
  | p :: q :: r, h => by
    have h : c ∈ p ++ (s ++ TL.joinL s (q :: r)) := h
    rcases List.mem_append.mp h with h | h
    · exact .inr ⟨p, List.mem_cons_self, h⟩
    · rcases List.mem_append.mp h with h | h
      · exact .inl h
      · rcases joinL_mem h with h | ⟨x, hx, h⟩
        · exact .inl h
        · exact .inr ⟨x, List.mem_cons_of_mem _ hx, h⟩
theorem joinL_len {s : List Nat} : ∀ ps : List (List Nat), (TL.joinL s ps).length ≤ (ps.map (·.length)).sum + ps.length * s.length
  | [] => Nat.zero_le _
  | [p] => by
    show p.length ≤ _
    simp
  | p :: q :: r => by
    have ih := joinL_len (s := s) (q :: r)
    show (p ++ (s ++ TL.joinL s (q :: r))).length ≤ _
    rw [List.length_append, List.length_append, List.map_cons, List.sum_cons, List.length_cons, Nat.succ_mul]
    omega
theorem asc_join {y : Str} {ys : List Str} (h : Asc y) (h2 : ∀ p ∈ ys, Asc p) : Asc (Txt.join y ys) := fun c hc => by
  rw [TL.join_eq, TL.tl_join] at hc
  rcases joinL_mem hc with h1 | ⟨p, hp, h1⟩
  · exact h c h1
  · obtain ⟨q, hq, rfl⟩ := List.mem_map.mp hp
    exact h2 q hq c h1
theorem len_joinS (y : Str) (ys : List Str) : (Txt.join y ys).length ≤ (ys.map (·.length)).sum + ys.length * y.length := by
  have h := joinL_len (s := TL.tl y) (ys.map TL.tl)
  rw [← TL.tl_join, ← TL.join_eq, ← TL.len_tl, ← TL.len_tl, List.length_map, List.map_map] at h
  have e : (List.length ∘ TL.tl) = fun z : Str => z.length := funext fun z => (TL.len_tl z).symm
  rw [e] at h
  exact h
theorem Asc.cut {z : Str} (h : Asc z) (lo hi : Option Int) : Asc (cutS z lo hi) := fun c hc => h c (List.mem_of_mem_drop (List.mem_of_mem_take hc))
theorem asc_pts : ∀ (n : Nat) (z : Str), z.length ≤ n → Asc z → ∀ p ∈ pts z, Asc p
  | n, z, h, a, p, hp => by
    rcases str_split z with hz | ⟨x, y, rfl, hx, hy⟩
    · rw [ptz_one hz] at hp
      rw [List.mem_singleton.mp hp]
      exact a
    · cases n with
      | zero => omega
      | succ n =>
        rw [ptz_cons hx] at hp
        rcases List.mem_cons.mp hp with rfl | hp
        · exact a.left.left
        · exact asc_pts n y (by omega) a.right p hp
theorem txs {S : List Str} {n : Nat} (h : (S.all fun z => ascB z && decide (z.length ≤ n)) = true) : ∀ d ∈ S.map PyData.str, TxD n d := fun d hd => by
  obtain ⟨z, hz, rfl⟩ := List.mem_map.mp hd
  have := List.all_eq_true.mp h z hz
  rw [Bool.and_eq_true, decide_eq_true_iff] at this
  exact ⟨z, rfl, asc_of this.1, this.2⟩
theorem txd_strs {n : Nat} : ∀ {L : List PyData}, (∀ d ∈ L, TxD n d) → ∃ ys : List Str, L = ys.map .str ∧ ∀ y ∈ ys, Asc y ∧ y.length ≤ n
  | [], _ => ⟨[], rfl, fun y hy => nomatch hy⟩
  | d :: L, h => by
    obtain ⟨z, rfl, a, b⟩ := h d List.mem_cons_self
    obtain ⟨ys, rfl, hy⟩ := txd_strs fun x hx => h x (List.mem_cons_of_mem _ hx)
    exact ⟨z :: ys, rfl, fun y hy2 => (List.mem_cons.mp hy2).elim (fun e => e ▸ ⟨a, b⟩) (hy y)⟩
theorem mem_cutD {d : PyData} {L : List PyData} {lo hi : Option Int} (h : d ∈ cutD L lo hi) : d ∈ L := List.mem_of_mem_drop (List.mem_of_mem_take h)
theorem len_cutD (L : List PyData) (lo hi : Option Int) : (cutD L lo hi).length ≤ L.length := by
  unfold cutD
  rw [List.length_take, List.length_drop]
  omega
theorem sum_leS {n : Nat} : ∀ {ys : List Str}, (∀ y ∈ ys, y.length ≤ n) → (ys.map (·.length)).sum ≤ ys.length * n
  | [], _ => Nat.zero_le _
  | y :: ys, h => by
    rw [List.map_cons, List.sum_cons, List.length_cons, Nat.succ_mul]
    have h1 := h y List.mem_cons_self
    have h2 := sum_leS fun x hx => h x (List.mem_cons_of_mem _ hx)
    omega
theorem jparts {A B : List PyData} (hA : ∀ d ∈ A, TxD 200 d) (hB : ∀ d ∈ B, TxD 200 d) (la : A.length ≤ 201) (lb : B.length ≤ 201) {pt : Str} (ptA : Asc pt) (ptL : pt.length ≤ 2500) : ∃ ys : List Str, A ++ [.str pt] ++ B = ys.map .str ∧ (ys.map (·.length)).sum + ys.length * 1 ≤ 90000 ∧ ∀ y ∈ ys, Asc y := by
  obtain ⟨a, rfl, ha⟩ := txd_strs hA
  obtain ⟨b, rfl, hb⟩ := txd_strs hB
  have s1 := sum_leS (n := 200) fun y hy => (ha y hy).2
  have s2 := sum_leS (n := 200) fun y hy => (hb y hy).2
  rw [List.length_map] at la lb
  refine ⟨a ++ [pt] ++ b, by simp, ?_, fun y hy => ?_⟩
  · simp only [List.map_append, List.sum_append, List.length_append, List.map_cons, List.map_nil, List.sum_cons, List.sum_nil, List.length_cons, List.length_nil]
    omega
  · simp only [List.mem_append, List.mem_singleton] at hy
    rcases hy with (hy | rfl) | hy
    · exact (ha y hy).1
    · exact ptA
    · exact (hb y hy).1
section
variable {P : Program} {w : World} {K : PySem.W.Frag} {mg : Str → Option Value} {base : Heap}
abbrev s__law_item : Stmt := topS (23)
abbrev N__law_item : List Str := ["_law_well_here", "_law_items"]
abbrev p__law_item : List Str := ["_law_well_here", "_law_items"]
theorem sc__law_item : FnScope N__law_item p__law_item (defScope s__law_item) := ⟨rfl, rfl, rfl, by decide +kernel, rfl, by decide +kernel, by decide +kernel⟩
theorem ok_litem (M : Mk K mg "_law_item" s__law_item p__law_item) (wa l : Addr) (d__law_pull : Df P w K mg base CX0 1 "_law_pull" p__law_pull (spD (wz wa l) (fDraw wa l))) (m_len : mg "len" = none) : Df P w K mg base CX0 2 "_law_item" p__law_item (spD (wz wa l) (fItemW wa l)) := by
  have nd := sc__law_item.nd
  refine def_ok (k := 1) M sc__law_item (by decide) ?_ (fun f cdv A outer s H E hr => have hu := hu65 hr; (ds_one (ds_ret (de_ix (dv 1) (de_call d__law_pull pass0 hr (da_cons (dv 0) (da_cons (de_len (by rfl) m_len (da_cons (dv 1) da_nil)) da_nil))))))) ?_
  · rintro s as Qd ⟨L, rfl, _⟩; rfl
  · rintro s as Qd ⟨L, rfl, h1, h2, q⟩
    refine ⟨L.length, rfl, h1, by omega, fun r hr => ⟨.inl rfl, L[r], atI_nat (List.getElem?_eq_getElem hr), q _ (List.getElem_mem hr)⟩⟩
abbrev s__law_twisted : Stmt := topS (37)
abbrev N__law_twisted : List Str := ["_law_well_here", "_law_text", "_law_at", "_law_parts_here", "_law_spot", "_law_sign", "_law_some", "_law_part", "_law_texts"]
abbrev p__law_twisted : List Str := ["_law_well_here", "_law_text"]
theorem sc__law_twisted : FnScope N__law_twisted p__law_twisted (defScope s__law_twisted) := ⟨rfl, rfl, rfl, by decide +kernel, rfl, by decide +kernel, by decide +kernel⟩
theorem ok_ltwist (M : Mk K mg "_law_twisted" s__law_twisted p__law_twisted) (wa l : Addr) (d__law_pull : Df P w K mg base CX0 1 "_law_pull" p__law_pull (spD (wz wa l) (fDraw wa l))) (d__law_item : Df P w K mg base CX0 2 "_law_item" p__law_item (spD (wz wa l) (fItemW wa l))) (m_len : mg "len" = none) : Df P w K mg base CX0 3 "_law_twisted" p__law_twisted (spD (wz wa l) (fTwist wa l)) := by
  have nd := sc__law_twisted.nd
  refine def_ok (k := 2) M sc__law_twisted (by decide) ?_ (fun f cdv A outer s H E hr => have hu := hu65 hr; (ds_cons (ds_par (i := 2) (j := 3) rfl nd rfl rfl (by decide) rfl rfl (de_call d__law_pull pass0 hr (da_cons (dv 0) (da_cons (de_add (de_len (by rfl) m_len (da_cons (dv 1) da_nil)) de_int) da_nil))) (de_split (dv 1) de_str))
      (ds_cons (ds_par (i := 4) (j := 5) rfl nd rfl rfl (by decide) rfl rfl (de_call d__law_pull pass0 hr (da_cons (dv 0) (da_cons (de_add (de_len (by rfl) m_len (da_cons (dv 3) da_nil)) de_int) da_nil))) (de_call d__law_item pass0 hr (da_cons (dv 0) (da_cons (de_lst (da_cons de_str (da_cons de_str (da_cons de_str (da_cons de_str (da_cons de_str (da_cons de_str (da_cons de_str (da_cons de_str (da_cons de_str da_nil)))))))))) da_nil))))
      (ds_cons (ds_set (i := 6) nd rfl (.inl rfl) (de_add (dv 3) (de_lst (da_cons de_str (da_cons de_str (da_cons (de_mulSK de_str de_int) (da_cons (de_mulSK de_str de_int) (da_cons de_str (da_cons de_str (da_cons de_str (da_cons de_str (da_cons de_str (da_cons de_str da_nil)))))))))))))
      (ds_cons (ds_set (i := 7) nd rfl (.inl rfl) (de_call d__law_item pass0 hr (da_cons (dv 0) (da_cons (dv 6) da_nil))))
      (ds_cons (ds_set (i := 8) nd rfl (.inl rfl) (de_lst (da_cons (de_add (de_add (de_slS (dv 1) do_none (do_some (dv 2))) (dv 5)) (de_slS (dv 1) (do_some (dv 2)) do_none)) (da_cons (de_add (de_add (de_slS (dv 1) do_none (do_some (dv 2))) (dv 5)) (de_slS (dv 1) (do_some (de_add (dv 2) de_int)) do_none)) (da_cons (de_add (de_slS (dv 1) do_none (do_some (dv 2))) (de_slS (dv 1) (do_some (de_add (dv 2) de_int)) do_none)) (da_cons (de_add (dv 1) de_str) da_nil))))))
      (ds_cons (ds_set (i := 8) nd rfl (.inl rfl) (de_add (dv 8) (de_lst (da_cons (de_join de_str (de_add (de_add (de_sl (dv 3) do_none (do_some (dv 4))) (de_lst (da_cons (dv 7) da_nil))) (de_sl (dv 3) (do_some (dv 4)) do_none))) (da_cons (de_join de_str (de_add (de_add (de_sl (dv 3) do_none (do_some (dv 4))) (de_lst (da_cons (dv 7) da_nil))) (de_sl (dv 3) (do_some (de_add (dv 4) de_int)) do_none))) da_nil)))))
      (ds_one (ds_ret (de_call d__law_item pass0 hr (da_cons (dv 0) (da_cons (de_add (dv 8) (de_lst (da_cons (de_join de_str (de_revL (dv 3))) (da_cons (de_add (de_add (dv 1) de_str) (dv 1)) da_nil)))) da_nil)))))))))))) ?_
  · rintro s as Qd ⟨z, rfl, _⟩; rfl
  · rintro s as Qd ⟨z, rfl, hA, hl, q⟩
    refine ⟨by omega, z.length + 1, rfl, by omega, by omega, fun at_ hat => ⟨.inl rfl, ⟨spc_ne, by omega⟩, fun a3 => ?_⟩⟩
    have pn := pts_many z
    have pp := pts_pos z
    have eL : ((pts z).map PyData.str).length = (pts z).length := List.length_map _
    have txP : ∀ d ∈ (pts z).map PyData.str, TxD 200 d := fun d hd => by
      obtain ⟨p, hp, rfl⟩ := List.mem_map.mp hd
      exact ⟨p, rfl, asc_pts _ z (Nat.le_refl _) hA p hp, by have := pts_le hp; omega⟩
    change ∀ d ∈ ((Txt.split z (Str.ofString " ")).map PyData.str), TxD 200 d at txP
    have eP : (Txt.split z (Str.ofString " ")).map PyData.str = (pts z).map PyData.str := rfl
    refine ⟨((pts z).map PyData.str).length + 1, rfl, by omega, by omega, fun spot hspot => ⟨.inl rfl, ?_⟩⟩
    refine ⟨_, rfl, by show 9 ≤ 1000000; decide, _, rfl, by show 1 ≤ 9; decide, by show 9 ≤ 1000; decide, fun sign hsign => ⟨.inl rfl, ?_⟩⟩
    have sgt : TxD 1 sign := txs (S := ["0", " ", "-", "1", "h", "\n", "7", "+", "_"]) (n := 1) (by decide +kernel) sign hsign
    obtain ⟨sg_, rfl, sgA, sgL⟩ := sgt
    refine ⟨by decide, by decide, by decide, by decide, by decide, by decide, by decide, by decide, ?_⟩
    refine ⟨_, rfl, by show 10 ≤ 1000000; decide, by show ((pts z).map PyData.str).length + 10 ≤ 1000000; omega, fun a6 => ?_⟩
    refine ⟨_, rfl, by rw [List.length_append]; show 1 ≤ _ + 10; omega, by rw [List.length_append]; show ((pts z).map PyData.str).length + 10 ≤ 1000; omega, fun part hpart => ?_⟩
    have ptt : TxD 2500 part := by
      rcases List.mem_append.mp hpart with h | h
      · exact (txP part h).mono (by decide)
      · exact txs (S := ["", "00", repS "1" 14, repS "1" 2500, "24", "23", "none", "heavy", "history", "05"]) (n := 2500) (by decide +kernel) part h
    obtain ⟨pt, rfl, ptA, ptL⟩ := ptt
    refine ⟨.inr rfl, ?_⟩
    have c1 := cutS_length z none (some ((at_ : Nat) : Int))
    have c2 := cutS_length z (some ((at_ : Nat) : Int)) none
    have c3 := cutS_length z (some (((at_ : Nat) : Int) + 1)) none
    have z9 : z.length ≤ 1000000 := by omega
    have s1 : (Str.ofString " ").length = 1 := by decide +kernel
    refine ⟨z9, by omega, z9, by rw [app_len]; omega, z9, by omega, z9, by rw [app_len]; omega, z9, z9, by omega, by omega, _, rfl, by show 4 ≤ 1000000; decide, fun a8 => ?_⟩
    have lc := fun lo hi => len_cutD ((pts z).map PyData.str) lo hi
    have s1' : Asc (Str.ofString " ") := asc_of (by decide +kernel)
    have m1 : ∀ {lo hi : Option Int}, ∀ d ∈ cutD ((pts z).map PyData.str) lo hi, TxD 200 d := fun d hd => txP d (mem_cutD hd)
    have l1 := lc none (some ((spot : Nat) : Int))
    have l2 := lc (some ((spot : Nat) : Int)) none
    have l3 := lc (some (((spot : Nat) : Int) + 1)) none
    obtain ⟨y1, e1, b1, A1⟩ := jparts (A := cutD ((pts z).map PyData.str) none (some ((spot : Nat) : Int))) (B := cutD ((pts z).map PyData.str) (some ((spot : Nat) : Int)) none) m1 m1 (by omega) (by omega) ptA ptL
    obtain ⟨y2, e2, b2, A2⟩ := jparts (A := cutD ((pts z).map PyData.str) none (some ((spot : Nat) : Int))) (B := cutD ((pts z).map PyData.str) (some (((spot : Nat) : Int) + 1)) none) m1 m1 (by omega) (by omega) ptA ptL
    have j1 := len_joinS (Str.ofString " ") y1
    have j2 := len_joinS (Str.ofString " ") y2
    refine ⟨_, rfl, by show 1 ≤ 1000000; decide, ?_, ?_, y1, e1, by rw [s1]; omega, ?_⟩
    · show _ + 1 ≤ 1000000
      change (cutD ((pts z).map PyData.str) none (some ((spot : Nat) : Int))).length + 1 ≤ 1000000
      omega
    · rw [List.length_append]
      change (cutD ((pts z).map PyData.str) none (some ((spot : Nat) : Int))).length + 1 + (cutD ((pts z).map PyData.str) (some ((spot : Nat) : Int)) none).length ≤ 1000000
      omega
    refine ⟨_, rfl, by show 1 ≤ 1000000; decide, ?_, ?_, y2, e2, by rw [s1]; omega, ?_⟩
    · change (cutD ((pts z).map PyData.str) none (some ((spot : Nat) : Int))).length + 1 ≤ 1000000
      omega
    · rw [List.length_append]
      change (cutD ((pts z).map PyData.str) none (some ((spot : Nat) : Int))).length + 1 + (cutD ((pts z).map PyData.str) (some (((spot : Nat) : Int) + 1)) none).length ≤ 1000000
      omega
    refine ⟨_, rfl, by show 2 ≤ 1000000; decide, by show 6 ≤ 1000000; decide, fun a9 => fun zs hzs => ?_⟩
    have hz : ∀ d ∈ zs, TxD 200 d := fun d hd => by
      rcases hzs with rfl | rfl
      · exact txP d hd
      · exact txP d (List.mem_reverse.mp hd)
    have lz : zs.length = (pts z).length := by
      rcases hzs with rfl | rfl
      · exact eL
      · rw [List.length_reverse]; exact eL
    obtain ⟨y3, e3, h3⟩ := txd_strs hz
    have b3 := sum_leS (n := 200) fun y hy => (h3 y hy).2
    have j3 := len_joinS (Str.ofString " ") y3
    rw [e3, List.length_map] at lz
    refine ⟨y3, e3, by rw [s1]; omega, by omega, by rw [app_len]; omega, _, rfl, by show 2 ≤ 1000000; decide, by show 8 ≤ 1000000; decide, _, rfl, by show 1 ≤ 8; decide, by show 8 ≤ 1000; decide, fun d hd => ?_⟩
    have fin : TxD 90000 d := by
      simp only [List.mem_append, List.mem_cons, List.not_mem_nil, or_false] at hd
      rw [s1] at j1 j2 j3
      rcases hd with (((rfl | rfl | rfl | rfl) | rfl | rfl) | rfl | rfl)
      · exact ⟨_, rfl, ((hA.cut _ _).app sgA).app (hA.cut _ _), by rw [app_len, app_len]; omega⟩
      · exact ⟨_, rfl, ((hA.cut _ _).app sgA).app (hA.cut _ _), by rw [app_len, app_len]; omega⟩
      · exact ⟨_, rfl, (hA.cut _ _).app (hA.cut _ _), by rw [app_len]; omega⟩
      · exact ⟨_, rfl, hA.app s1', by rw [app_len]; omega⟩
      · exact ⟨_, rfl, asc_join s1' A1, by omega⟩
      · exact ⟨_, rfl, asc_join s1' A2, by omega⟩
      · exact ⟨_, rfl, asc_join s1' fun y hy => (h3 y hy).1, by omega⟩
      · exact ⟨_, rfl, (hA.app s1').app hA, by rw [app_len, app_len]; omega⟩
    obtain ⟨zz, rfl, zA, zL⟩ := fin
    exact ⟨.inr rfl, q zz zA zL⟩
end
end Lf
namespace Lf
open PySem PySem.Spec PyProof.Rows L2
theorem new_fr {B0 : Addr → Prop} {H H' : Hp} {r : Addr} {xs : List V} {l : List PyData} (g : Gr Z0 H H') (nr : H' r = none) (im : ImAll (Bad Z0 B0 []) H' xs l) : RvR Z0 B0 [] H (upd H' r (.lst xs)) (.ref r) (.fr l) :=
  ⟨r, xs, rfl, none_back (Z := Z0) (s1 := ()) trivial g nr, id, upd_same, im.fresh nr⟩
theorem peOr {X : Cx} {e : Expr} {t1 t2 : TE} (h1 : PE X e t1) (h2 : PE X e t2) : PE X e (fun σ H Q => t1 σ H Q ∨ t2 σ H Q) := ⟨fun pins s σ H Q I h => h.elim (h1.run pins s σ H Q I) (h2.run pins s σ H Q I)⟩
def ansW (way : Nat) : PyData → PyData
  | .str z => if way = 0 then ansN (resF z) else if way = 1 then ansN (resV z) else ansC z
  | _ => .list [.none]
theorem ansC_kind (z : Str) : (∃ x, ansC z = .list [x]) ∨ ∃ l, ansC z = .tuple l := by
  unfold ansC
  split
  · cases resV (rst z) with
    | inl i => exact .inl ⟨_, rfl⟩
    | inr l => exact .inr ⟨_, rfl⟩
  · split
    · split
      · exact .inr ⟨_, rfl⟩
      · exact .inl ⟨_, rfl⟩
    · exact .inl ⟨_, rfl⟩
def fFnd : DF Z0 := fun s as Q => ∃ (way : Nat) (d : PyData), as = [.im (.int (way : Nat)), .im d] ∧ way < 3 ∧ (∀ z, d = .str z → z.length ≤ 100000) ∧ ∀ r : Rv, r.st = some (ansW way d) → Q r s
section
variable {P : Program} {w : World} {K : PySem.W.Frag} {mg : Str → Option Value} {base : Heap}
abbrev s__law_found : Stmt := topS (36)
abbrev N__law_found : List Str := ["_law_way", "_law_value", "_law_found_here", "error", "_law_alone"]
abbrev p__law_found : List Str := ["_law_way", "_law_value"]
theorem sc__law_found : FnScope N__law_found p__law_found (defScope s__law_found) := ⟨rfl, rfl, rfl, by decide +kernel, rfl, by decide +kernel, by decide +kernel⟩
theorem ok_lfound {C L A1 A2 A3 : Addr} (M : Mk K mg "_law_found" s__law_found p__law_found) (T : CauN K mg "BadText" "index" "BadJoin" "NoIndex" "Rejected" C L A1 A2 A3) (xF : Df P w K mg base (L2.CX P w) 4 "parse_forest" p_parse_forest (spX Z0 (fPFX C))) (xV : Df P w K mg base (L2.CX P w) 4 "parse_vertices" p_parse_vertices (spX Z0 (fPVX C))) (xC : Df P w K mg base (L2.CX P w) 6 "parse_certificate" p_parse_certificate (spX Z0 (fPCX C)))
    (dF : Df P w K mg base CX0 4 "parse_forest" p_parse_forest (spD Z0 fPF)) (dV : Df P w K mg base CX0 3 "parse_vertices" p_parse_vertices (spD Z0 fPV)) (dC : Df P w K mg base CX0 5 "parse_certificate" p_parse_certificate (spD Z0 fPC)) (mi : mg "isinstance" = none) (mV : mg "ValueError" = none) :
    Df P w K mg base CX0 7 "_law_found" p__law_found (spD Z0 fFnd) := by
  obtain ⟨f, fd, F, b, g⟩ := M
  have nd := sc__law_found.nd
  refine Df.of F b g (F.ok sc__law_found (fun vs H Q E h => ?_) (fun cdv A outer s H vs Q E hr h => ?_))
  · obtain ⟨B0, s0, as, Qd, _, _, ha, ⟨n, d, rfl, _⟩, _⟩ := h
    exact ha.length
  · obtain ⟨B0, s0, as, Qd, ok, hB, ha, ⟨n, d, rfl, n3, dl, q⟩, hq⟩ := h
    obtain ⟨v, rfl, iv⟩ : ∃ v, vs = [.int (n : Nat), v] ∧ Im (Bad Z0 B0 []) H v d := by
      cases ha with
      | cons h1 t =>
        cases t with
        | cons h2 t =>
          cases t
          cases (show Im (Bad Z0 B0 []) H _ (.int (n : Nat)) from h1)
          exact ⟨_, rfl, h2⟩
    refine ⟨_, pss_cons (ps_set (i := 2) nd rfl (.inl rfl) pe_non) (pss_cons (ps_try_as (i := 3) (Wout := fun _ _ _ _ => False) rfl rfl nd rfl rfl ⟨rfl, by decide, .inl T.gL⟩ takes0
        (fun W pn xe tk _ => pss_one (ps_if (pt_cmpR op_eq (pv 0) pe_int (nomark _))
          (pss_one (ps_set (i := 2) nd rfl (.inl rfl) (peOr (pe_dS xF hr (fun σ => passAt tk σ) (pa_cons (pv 1) pa_nil)) (pe_d dF hr (pa_cons (pv 1) pa_nil)))))
          (pss_one (ps_set (i := 2) nd rfl (.inl rfl) (pe_ifExp (pt_cmpR op_eq (pv 0) pe_int (nomark _)) (peOr (pe_dS xV hr (fun σ => passAt tk σ) (pa_cons (pv 1) pa_nil)) (pe_d dV hr (pa_cons (pv 1) pa_nil))) (peOr (pe_dS xC hr (fun σ => passAt tk σ) (pa_cons (pv 1) pa_nil)) (pe_d dC hr (pa_cons (pv 1) pa_nil))))))))
        (fun a oe cls d pn hz hf => pss_cons (ps_set (i := 4) nd rfl (.inl rfl) (pe_and (pe_callB (call_isD T.ex hz hf) (by rfl) mi (by decide +kernel) (pa_cons (pv 3) (pa_cons (pe_bltn (v := .ty "ValueError") (by rfl) mV (by decide +kernel) rfl) pa_nil)))
            (pe_one (pe_not (pe_callB (call_isDT T.ex hz hf) (by rfl) mi (by decide +kernel) (pa_cons (pv 3) (pa_cons (pe_tup (pa_cons (pe_glob (v := .ref A1) rfl T.g1 rfl) (pa_cons (pe_glob (v := .ref A2) rfl T.g2 rfl) (pa_cons (pe_glob (v := .ref A3) rfl T.g3 rfl) pa_nil)))) pa_nil)))))))
          (pss_one (ps_set (i := 2) nd rfl (.inl rfl) (pe_ifExp (PW.pt (pw_and (pt_val (pv 4)) (pw_and1 (pt_val (pe_callB (call_isD T.ex hz hf) (by rfl) mi (by decide +kernel) (pa_cons (pv 3) (pa_cons (pe_glob (v := .ref C) rfl T.gC rfl) pa_nil)))))))
            (pe_lst (pa_cons (pe_xf T.ex.xf T.no hz hf (pv 3)) pa_nil)) pe_str)))))
        (pss_one (ps_ret (pv 2)))), ?_⟩
    have lkp : ∀ x : V, List.lookup (Str.ofString "index") [(Str.ofString "index", x)] = some x := fun x => by simp [List.lookup]
    have nonS : ∀ {d : PyData}, (∀ z, d ≠ .str z) → isTy "str" d = false ∧ ∀ n, ansW n d = .list [.none] := fun {d} h => by
      cases d with
      | str z => exact absurd rfl (h z)
      | _ => exact ⟨rfl, fun _ => rfl⟩
    refine ⟨.int (n : Nat), rfl, rfl, _, rfl, ite2 (fun h0 => ?_) (fun h0 => ?_)⟩
    · have h0 : n = 0 := by have := V.int.inj (of_decide_eq_true h0); omega
      have eA : ∀ z, ansW n (.str z) = ansN (resF z) := fun z => if_pos h0
      by_cases bad : (∀ z, d ≠ .str z) ∨ ∃ z x, d = .str z ∧ ansN (resF z) = .list [x]
      · refine .inl ⟨v, rfl, B0, (), [.im d], fun _ _ => False, fun C' o _ => C' = C ∧ ∃ x, o = some (Str.ofString "index", x) ∧ ansW n d = .list [x], trivial, hB, .cons iv .nil, ?_, fun r s' v' H' hr' _ _ _ => hr'.elim, fun C' o s' dx H' hx ok' g' er => ?_⟩
        · rcases bad with h | ⟨z, x, rfl, ez⟩
          · exact .inl ⟨d, rfl, (nonS h).1, rfl, _, rfl, (nonS h).2 n⟩
          · cases er : resF z with
            | inl i => exact .inr ⟨z, i, rfl, dl z rfl, er, rfl, _, rfl, by rw [eA, er]; rfl⟩
            | inr l => rw [er] at ez; cases ez
        · obtain ⟨rfl, x, rfl, ex⟩ := hx
          cases dx with
          | none => exact er.elim
          | some dd =>
            obtain ⟨v1, hdd, i1⟩ := er
            refine ⟨true, T.te, fun _ a na => ?_, fun z => nomatch z⟩
            refine ⟨.ref a, rfl, .ty "ValueError", .type "ValueError", true, dd, _, rfl, rfl, rfl, hdd, .ty _, T.kV, true, rfl, iteT ⟨.ref a, rfl, (by show 3 ≤ sizeLine; decide), fun t nt => ⟨t, _, false, dd, _, rfl, rfl, rfl, same_new nt _ _ hdd, upd_same, T.any3, false, rfl, ?_⟩⟩⟩
            refine ⟨.bl true, rfl, true, rfl, iteT ⟨.ref a, rfl, .ref C', .ref C', true, dd, _, rfl, rfl, rfl, same_new nt _ _ hdd, .own _, T.kC, true, rfl, iteT ?_⟩⟩
            refine ⟨.ref a, rfl, rfl, rfl, dd, _, v1, rfl, same_new nt _ _ hdd, lkp _, (by show 1 ≤ sizeLine; decide), fun r nr => ?_⟩
            have h2 : ImAll (Bad Z0 B0 []) (upd H' t (.tup [.ref A1, .ref A2, .ref A3])) [v1] [x] := .cons (i1.same (same_new nt)) .nil
            have g2 : Gr Z0 H (upd H' t (.tup [.ref A1, .ref A2, .ref A3])) := g'.trans (Gr.of (same_new nt))
            exact ⟨.ref r, rfl, hq (.fr [x]) s' (.ref r) _ (q _ (by rw [ex]; rfl)) trivial (g2.trans (Gr.of (same_new nr))) (new_fr g2 nr h2)⟩
      · obtain ⟨z, rfl⟩ : ∃ z, d = .str z := Classical.byContradiction fun y => bad (.inl fun z e => y ⟨z, e⟩)
        refine .inr ⟨v, rfl, B0, (), [.im (.str z)], fun r _ => r.st = some (ansW n (.str z)), trivial, hB, .cons iv .nil, ?_, fun r s' v' H' hr' ok' g' rr => ⟨v', rfl, hq r s' v' H' (q r hr') trivial g' rr⟩⟩
        cases er : resF z with
        | inl i => exact absurd (.inr ⟨z, _, rfl, by rw [er]; rfl⟩) bad
        | inr l => exact ⟨z, l, rfl, dl z rfl, er, by rw [eA, er]; rfl⟩
    have h0 : n ≠ 0 := fun e => h0 (by rw [e]; rfl)
    refine ⟨.int (n : Nat), rfl, rfl, _, rfl, ite2 (fun h1 => ?_) (fun h1 => ?_)⟩
    · have h1 : n = 1 := by have := V.int.inj (of_decide_eq_true h1); omega
      have eA : ∀ z, ansW n (.str z) = ansN (resV z) := fun z => (if_neg h0).trans (if_pos h1)
      by_cases bad : (∀ z, d ≠ .str z) ∨ ∃ z x, d = .str z ∧ ansN (resV z) = .list [x]
      · refine .inl ⟨v, rfl, B0, (), [.im d], fun _ _ => False, fun C' o _ => C' = C ∧ ∃ x, o = some (Str.ofString "index", x) ∧ ansW n d = .list [x], trivial, hB, .cons iv .nil, ?_, fun r s' v' H' hr' _ _ _ => hr'.elim, fun C' o s' dx H' hx ok' g' er => ?_⟩
        · rcases bad with h | ⟨z, x, rfl, ez⟩
          · exact .inl ⟨d, rfl, (nonS h).1, rfl, _, rfl, (nonS h).2 n⟩
          · cases er : resV z with
            | inl i => exact .inr ⟨z, i, rfl, dl z rfl, er, rfl, _, rfl, by rw [eA, er]; rfl⟩
            | inr l => rw [er] at ez; cases ez
        · obtain ⟨rfl, x, rfl, ex⟩ := hx
          cases dx with
          | none => exact er.elim
          | some dd =>
            obtain ⟨v1, hdd, i1⟩ := er
            refine ⟨true, T.te, fun _ a na => ?_, fun z => nomatch z⟩
            refine ⟨.ref a, rfl, .ty "ValueError", .type "ValueError", true, dd, _, rfl, rfl, rfl, hdd, .ty _, T.kV, true, rfl, iteT ⟨.ref a, rfl, (by show 3 ≤ sizeLine; decide), fun t nt => ⟨t, _, false, dd, _, rfl, rfl, rfl, same_new nt _ _ hdd, upd_same, T.any3, false, rfl, ?_⟩⟩⟩
            refine ⟨.bl true, rfl, true, rfl, iteT ⟨.ref a, rfl, .ref C', .ref C', true, dd, _, rfl, rfl, rfl, same_new nt _ _ hdd, .own _, T.kC, true, rfl, iteT ?_⟩⟩
            refine ⟨.ref a, rfl, rfl, rfl, dd, _, v1, rfl, same_new nt _ _ hdd, lkp _, (by show 1 ≤ sizeLine; decide), fun r nr => ?_⟩
            have h2 : ImAll (Bad Z0 B0 []) (upd H' t (.tup [.ref A1, .ref A2, .ref A3])) [v1] [x] := .cons (i1.same (same_new nt)) .nil
            have g2 : Gr Z0 H (upd H' t (.tup [.ref A1, .ref A2, .ref A3])) := g'.trans (Gr.of (same_new nt))
            exact ⟨.ref r, rfl, hq (.fr [x]) s' (.ref r) _ (q _ (by rw [ex]; rfl)) trivial (g2.trans (Gr.of (same_new nr))) (new_fr g2 nr h2)⟩
      · obtain ⟨z, rfl⟩ : ∃ z, d = .str z := Classical.byContradiction fun y => bad (.inl fun z e => y ⟨z, e⟩)
        refine .inr ⟨v, rfl, B0, (), [.im (.str z)], fun r _ => r.st = some (ansW n (.str z)), trivial, hB, .cons iv .nil, ?_, fun r s' v' H' hr' ok' g' rr => ⟨v', rfl, hq r s' v' H' (q r hr') trivial g' rr⟩⟩
        cases er : resV z with
        | inl i => exact absurd (.inr ⟨z, _, rfl, by rw [er]; rfl⟩) bad
        | inr l => exact ⟨z, l, rfl, dl z rfl, er, by rw [eA, er]; rfl⟩
    · have h1 : n ≠ 1 := fun e => h1 (by rw [e]; rfl)
      have eA : ∀ z, ansW n (.str z) = ansC z := fun z => (if_neg h0).trans (if_neg h1)
      by_cases bad : (∀ z, d ≠ .str z) ∨ ∃ z x, d = .str z ∧ ansC z = .list [x]
      · refine .inl ⟨v, rfl, B0, (), [.im d], fun _ _ => False, fun C' o _ => C' = C ∧ ∃ x, o = some (Str.ofString "index", x) ∧ ansW n d = .list [x], trivial, hB, .cons iv .nil, ?_, fun r s' v' H' hr' _ _ _ => hr'.elim, fun C' o s' dx H' hx ok' g' er => ?_⟩
        · rcases bad with h | ⟨z, x, rfl, ez⟩
          · exact .inl ⟨d, rfl, (nonS h).1, rfl, _, rfl, (nonS h).2 n⟩
          · exact .inr ⟨z, x, rfl, dl z rfl, ez, rfl, _, rfl, by rw [eA, ez]⟩
        · obtain ⟨rfl, x, rfl, ex⟩ := hx
          cases dx with
          | none => exact er.elim
          | some dd =>
            obtain ⟨v1, hdd, i1⟩ := er
            refine ⟨true, T.te, fun _ a na => ?_, fun z => nomatch z⟩
            refine ⟨.ref a, rfl, .ty "ValueError", .type "ValueError", true, dd, _, rfl, rfl, rfl, hdd, .ty _, T.kV, true, rfl, iteT ⟨.ref a, rfl, (by show 3 ≤ sizeLine; decide), fun t nt => ⟨t, _, false, dd, _, rfl, rfl, rfl, same_new nt _ _ hdd, upd_same, T.any3, false, rfl, ?_⟩⟩⟩
            refine ⟨.bl true, rfl, true, rfl, iteT ⟨.ref a, rfl, .ref C', .ref C', true, dd, _, rfl, rfl, rfl, same_new nt _ _ hdd, .own _, T.kC, true, rfl, iteT ?_⟩⟩
            refine ⟨.ref a, rfl, rfl, rfl, dd, _, v1, rfl, same_new nt _ _ hdd, lkp _, (by show 1 ≤ sizeLine; decide), fun r nr => ?_⟩
            have h2 : ImAll (Bad Z0 B0 []) (upd H' t (.tup [.ref A1, .ref A2, .ref A3])) [v1] [x] := .cons (i1.same (same_new nt)) .nil
            have g2 : Gr Z0 H (upd H' t (.tup [.ref A1, .ref A2, .ref A3])) := g'.trans (Gr.of (same_new nt))
            exact ⟨.ref r, rfl, hq (.fr [x]) s' (.ref r) _ (q _ (by rw [ex]; rfl)) trivial (g2.trans (Gr.of (same_new nr))) (new_fr g2 nr h2)⟩
      · obtain ⟨z, rfl⟩ : ∃ z, d = .str z := Classical.byContradiction fun y => bad (.inl fun z e => y ⟨z, e⟩)
        refine .inr ⟨v, rfl, B0, (), [.im (.str z)], fun r _ => r.st = some (ansW n (.str z)), trivial, hB, .cons iv .nil, ?_, fun r s' v' H' hr' ok' g' rr => ⟨v', rfl, hq r s' v' H' (q r hr') trivial g' rr⟩⟩
        rcases ansC_kind z with ⟨x, e⟩ | ⟨l, e⟩
        · exact absurd (.inr ⟨z, x, rfl, e⟩) bad
        · exact ⟨z, l, rfl, dl z rfl, e, by rw [eA, e]; rfl⟩
end
end Lf
namespace Lf
open PySem PySem.Spec PyProof.Rows L2
/-! ### texts of texts: the signs of what repr shows -/
def Sg (x : Str) : Prop := ∀ c ∈ x.cps.toList, c < 16 ^ 8
theorem sg_app {x y : Str} (hx : Sg x) (hy : Sg y) : Sg (x ++ y) := fun c hc => by
  have e : (x ++ y).cps.toList = x.cps.toList ++ y.cps.toList := by
    show (x.cps ++ y.cps).toList = _
    exact Array.toList_append
  rw [e] at hc
  exact (List.mem_append.mp hc).elim (hx c) (hy c)
theorem sg_of (s : String) : Sg (Str.ofString s) := fun c hc => by
  rw [signs_ofString] at hc
  obtain ⟨k, _, rfl⟩ := List.mem_map.mp hc
  have := k.val.toNat_lt
  show k.val.toNat < _
  exact this
theorem sg_join : ∀ ts : List Str, (∀ t ∈ ts, Sg t) → Sg (Str.join ", " ts)
  | [], _ => sg_of ""
  | [x], h => h x List.mem_cons_self
  | x :: y :: r, h => by
    show Sg (x ++ ", " ++ Str.join ", " (y :: r))
    exact sg_app (sg_app (h x List.mem_cons_self) (sg_of ", ")) (sg_join (y :: r) fun t ht => h t (List.mem_cons_of_mem _ ht))
theorem sg_nums : ∀ l : List Nat, ∀ t ∈ PyData.shownAll (nD l), Sg t
  | [], t, h => by cases h
  | x :: l, t, h => by
    rcases List.mem_cons.mp (show t ∈ (PyData.int (x : Nat)).shown :: PyData.shownAll (nD l) from h) with rfl | h
    · exact sg_of _
    · exact sg_nums l t h
theorem sg_tupN (l : List Nat) : Sg (tupN l).shown := by
  show Sg (("(" : Str) ++ Str.join ", " (PyData.shownAll (nD l)) ++ ((if (PyData.shownAll (nD l)).length == 1 then ",)" else ")" : String) : Str))
  exact sg_app (sg_app (sg_of _) (sg_join _ (sg_nums l))) (sg_of _)
theorem Sw.strOf {k m : Nat} {d : PyData} (h : Sw k m d) (g : Sg d.shown) : Sw 0 (10 * m + 2) (.str d.shown) := by
  refine ⟨rfl, Nat.le_refl _, ?_⟩
  rw [PyData.shown_str]
  have := StrLaws.reprText_len d.shown g
  have := h.short
  omega
end Lf
namespace Lf
open PySem PySem.Spec PyProof.Rows L2
section
variable {Z : Zn} {X : Cx} {B0 B : Addr → Prop} {H0 H H1 : Hp} {ρ : List Sl} {s : Z.S} {σ : L2.St} {pos : Pos}
theorem via2 {α β : Type} {M : α → β → Prop} {G : α → β → Prop} {C : Prop} (main : (∀ o p, M o p → G o p) → C) (fin : ∀ o p, M o p → G o p) : C := main fin
theorem via3 {α β γ : Type} {M : α → β → γ → Prop} {G : α → β → γ → Prop} {C : Prop} (main : (∀ o p q, M o p q → G o p q) → C) (fin : ∀ o p q, M o p q → G o p q) : C := main fin
/-! ### xs.pop(i) and xs.pop(-1) -/
def mPopAt2 : Mth := fun l rs Q => match rs with
  | [r] => match r.D with
    | some (.int i) => (0 ≤ i ∧ i < 1000000 ∧ ∃ d, l[i.toNat]? = some d ∧ Q d (l.eraseIdx i.toNat)) ∨ (i = -1 ∧ l.length < 1000000 ∧ ∃ d, l[l.length - 1]? = some d ∧ Q d (l.eraseIdx (l.length - 1)))
    | _ => False
  | _ => False
theorem m2_popAt2 : Mt2 rPopAt mPopAt2 := by
  intro Z B0 ρ s s' H0 σ Ha H q xs vs l rs Qm Q Ra R hq im rr m k
  unfold mPopAt2 at m
  split at m
  · obtain ⟨v, rfl, r1⟩ := rr.one
    split at m
    · rename_i i e1
      rcases m with ⟨h0, hb, d, h1, m⟩ | ⟨rfl, hb, d, h1, m⟩
      · obtain ⟨w, hw, iw⟩ := im.get h1
        rw [r1.vI e1]
        have hlt : i.toNat < xs.length := (List.getElem?_eq_some_iff.mp hw).1
        exact ⟨q, xs, i, i.toNat, w, rfl, rfl, hq, by omega, by omega, PySem.StrLaws.seqIndex_nonneg h0 (by omega), hw, k _ _ _ _ m iw (im.erase _)⟩
      · obtain ⟨w, hw, iw⟩ := im.get h1
        rw [r1.vI e1]
        have hl := im.length
        have hlt : l.length - 1 < xs.length := (List.getElem?_eq_some_iff.mp hw).1
        refine ⟨q, xs, -1, l.length - 1, w, rfl, rfl, hq, by omega, by omega, ?_, hw, k _ _ _ _ m iw (im.erase _)⟩
        rw [hl]
        have e : PySem.seqIndex? (-1) l.length = (if (decide ((0 : Int) ≤ -1 + (l.length : Int)) && decide (-1 + (l.length : Int) < (l.length : Int))) = true then some (-1 + (l.length : Int)).toNat else none) := rfl
        rw [e, if_pos (by rw [decide_eq_true (by omega), decide_eq_true (by omega)]; rfl)]
        congr 1
        omega
    · exact m.elim
  · exact m.elim
/-! ### x = y, where y's list goes to x -/
theorem Rel.forget (R : Rel Z B0 H0 ρ s σ H) (i : Nat) : Rel Z B0 H0 (ρ.set i .no) s σ H := by
  refine ⟨R.ok, by rw [List.length_set]; exact R.len, fun j y e => ?_, nodup_own_set R.nd (fun a z => by cases z), fun a ha => ?_, R.btr, R.frm⟩
  · rcases set_get e with ⟨rfl, rfl⟩ | ⟨ne, e⟩
    · have hi : i < ρ.length := by
        rcases Nat.lt_or_ge i ρ.length with z | z
        · exact z
        · rw [List.getElem?_eq_none (by rw [List.length_set]; exact z)] at e; cases e
      obtain ⟨o, h1, _⟩ := R.sl i _ (List.getElem?_eq_getElem hi)
      exact ⟨o, h1, trivial⟩
    · obtain ⟨o', h1, h2⟩ := R.sl j y e
      exact ⟨o', h1, h2.bad fun a z => bad_set rfl z⟩
  · rcases mem_own_set ha with z | z
    · exact R.fr a z
    · cases z
theorem own_gone : ∀ {ρ : List Sl} {i : Nat} {q : Addr} {l : List PyData}, (own ρ).Nodup → ρ[i]? = some (.ow q l) → q ∉ own (ρ.set i .no)
  | [], _, _, _, _, h => by cases h
  | y :: ρ, 0, q, l, nd, h => by
    cases h
    rw [own_cons] at nd
    rw [List.set_cons_zero, own_cons]
    intro z
    rcases List.mem_append.mp z with z | z
    · cases z
    · exact (List.nodup_append.mp nd).2.2 q (by simp [ownOf]) q z rfl
  | y :: ρ, i + 1, q, l, nd, h => by
    rw [own_cons] at nd
    obtain ⟨n1, n2, n3⟩ := List.nodup_append.mp nd
    rw [List.set_cons_succ, own_cons]
    intro z
    rcases List.mem_append.mp z with z | z
    · exact n3 q z q (own_mem (i := i) h) rfl
    · exact own_gone (i := i) n2 h z
def dMove (i j : Nat) : DSt Z := fun De s ρ => match ρ[j]? with
  | some (.ow q l) => i ≠ j ∧ De.nx s ((ρ.set j .no).set i (.ow q l))
  | _ => False
theorem Rel.move (R : Rel Z B0 H0 ρ s σ H) {i j : Nat} {q : Addr} {l : List PyData} (hj : ρ[j]? = some (.ow q l)) : Rel Z B0 H0 ((ρ.set j .no).set i (.ow q l)) s (σ.set i (some (.ref q))) H := by
  have mq := own_mem hj
  obtain ⟨o0, s0, e0, xs, hq, im⟩ := R.sl j _ hj
  have R1 := R.forget j
  have no := own_gone R.nd hj
  have hB : ∀ a, Bad Z B0 ((ρ.set j .no).set i (.ow q l)) a → Bad Z B0 ρ a := fun a z => by
    rcases z with z | z | z
    · exact .inl z
    · exact .inr (.inl z)
    · rcases mem_own_set z with z | z
      · rcases mem_own_set z with z | z
        · exact .inr (.inr z)
        · cases z
      · cases z; exact .inr (.inr mq)
  refine ⟨R.ok, by rw [List.length_set, List.length_set, List.length_set]; exact R.len, fun n y e => ?_, nodup_own_set R1.nd (fun a z => by cases z; exact no), fun a ha => ?_, R.btr, R.frm⟩
  · rcases set_get e with ⟨rfl, rfl⟩ | ⟨ne, e⟩
    · have hi : i < σ.length := by
        rw [R1.len]
        rcases Nat.lt_or_ge i (ρ.set j .no).length with z | z
        · exact z
        · rw [List.getElem?_eq_none (by rw [List.length_set]; exact z)] at e; cases e
      exact ⟨_, by rw [List.getElem?_set_self hi], rfl, xs, hq, im.bad hB⟩
    · rcases set_get e with ⟨rfl, rfl⟩ | ⟨ne2, e⟩
      · obtain ⟨o', h1, h2⟩ := R.sl j _ hj
        exact ⟨o', by rw [List.getElem?_set_ne ne]; exact h1, trivial⟩
      · obtain ⟨o', h1, h2⟩ := R.sl n y e
        exact ⟨o', by rw [List.getElem?_set_ne ne]; exact h1, h2.bad hB⟩
  · rcases mem_own_set ha with z | z
    · exact R1.fr a z
    · cases z
      exact R.fr q mq
theorem ds_move {i j : Nat} {n n2 : Str} {p1 p2 : Pos} (hNd : X.N.Nodup) (hi : X.N[i]? = some n) (hx : Loc X.env.scope n) (hj : X.N[j]? = some n2) (hv : Vis X.env.scope n2) (hd : (n2 == ("__debug__" : Str)) = false := by decide) (hcd : (n2 == ("__classdict__" : Str)) = false := by decide)
    (hsw : swapsWith (.Name n2 p2) (some (.Name n p1)) pos.line X.env = pure false := by rfl) (hf : X.fn n = true ∨ X.env.scope.names.lookup n = some .local := by first | exact .inl rfl | exact .inr rfl | assumption) :
    DS Z X (.Assign [.Name n p1] (.Name n2 p2) pos) (dMove i j) := by
  refine PS.of (ps_set hNd hi hx (pe_var hj hv hd hcd) hsw hf) fun D σ H ⟨B0, H0, ρ, s, De, R, hd, hn, _⟩ => ?_
  unfold dMove at hd
  split at hd
  · rename_i q l e1
    obtain ⟨o0, s0, e0, xs, hq, im⟩ := R.sl j _ e1
    cases (show o0 = some (V.ref q) from e0)
    refine ⟨.ref q, s0, hn s _ _ H hd.2 (R.move e1) ⟨fun _ _ h _ => h, fun _ _ h => h, fun _ _ _ h => h, fun a ha => .inl ?_⟩⟩
    rcases mem_own_set ha with z | z
    · rcases mem_own_set z with z | z
      · exact z
      · cases z
    · cases z; exact own_mem e1
  · exact hd.elim
end
end Lf
namespace Lf
open PySem PySem.Spec PyProof.Rows L2
section
variable {Z : Zn} {X : Cx} {pos p p1 p2 p3 : Pos} {e : Expr} {da : DX Z}
/-! ### isinstance(x, (list, tuple)) -/
def isLT (d : PyData) : Bool := isTy "list" d || isTy "tuple" d
def opLT : Rv → (Rv → Prop) → Prop := fun x Q => match x.D with
  | some d => Q (.im (.bool (isLT d)))
  | _ => False
theorem kLT {K : PySem.W.Frag} (d : PyData) : PySem.W.kitAny K (.type (tyD d)) [.type "list", .type "tuple"] = some (isLT d) := by
  unfold PySem.W.kitAny
  rw [kOne "list" (by decide) d]
  cases h1 : isTy "list" d with
  | true =>
    unfold isLT
    rw [h1]
    rfl
  | false =>
    show PySem.W.kitAny K (.type (tyD d)) [.type "tuple"] = _
    unfold PySem.W.kitAny
    rw [kOne "tuple" (by decide) d]
    unfold isLT
    rw [h1]
    cases h2 : isTy "tuple" d <;> rfl
theorem de_isLT {x1} (hg : Gl X "isinstance") (hm : X.mg "isinstance" = none) (gl : Gl X "list") (ml : X.mg "list" = none) (gt : Gl X "tuple") (mt : X.mg "tuple" = none) (ha : DE Z X e da) (he : starEach (e :: [.Tuple [.Name "list" p1, .Name "tuple" p2] x1 p3]) X.env = (false, eval e X.env) :: starEach [.Tuple [.Name "list" p1, .Name "tuple" p2] x1 p3] X.env := by rfl)
    (hpl : (backTo pos (starEach [.Tuple [.Name "list" p1, .Name "tuple" p2] x1 p3] X.env)).any (·.1) = false := by rfl) (h1 : starEach [.Name "list" p1, .Name "tuple" p2] X.env = (false, eval (.Name "list" p1) X.env) :: starEach [.Name "tuple" p2] X.env := by rfl) :
    DE Z X (.Call (.Name "isinstance" p) [e, .Tuple [.Name "list" p1, .Name "tuple" p2] x1 p3] [] pos) (dUn opLT da) := by
  refine PE.of (pe_callB call_isiT hg hm (by decide +kernel) (pa_cons (hs := he) ha (pa_cons (pe_tup (pa_cons (pe_bltn (v := .ty "list") gl ml (by decide +kernel) rfl) (pa_cons (pe_bltn (v := .ty "tuple") gt mt (by decide +kernel) rfl) pa_nil))) pa_nil)) (by decide) (by decide) he hpl) fun σ H Q ⟨B0, H0, ρ, s, Qd, R, hd, hq⟩ => ?_
  refine ⟨B0, H0, ρ, s, _, R, hd, fun x s1 v H1 qx R1 g1 r1 => ?_⟩
  unfold opLT at qx
  split at qx
  · rename_i d e1
    refine ⟨by show 2 ≤ sizeLine; decide, fun t nt => ?_⟩
    have st := same_new (o := .tup [V.ty "list", V.ty "tuple"]) nt
    refine ⟨v, t, _, _, [.type "list", .type "tuple"], _, rfl, upd_same, .cons (.ty _) (.cons (.ty _) .nil), ((r1.rd e1).same st).rp.ty, kLT d, ?_⟩
    exact hq _ s1 _ _ qx (R1.same st) (g1.trans (Gr.of st)) (Im.bl _)
  · exact qx.elim
/-! ### {'a': 0} -/
def dDisp (z : Str) (i : Int) : DX Z := fun s _ Q => Q (.im (.dict [(.str z, .int i)])) s
theorem de_disp {k v : Expr} {z : Str} {i : Int} (hk : PE X k (tC (.str z))) (hv : PE X v (tC (.int i))) : DE Z X (.Dict [some k] [v] pos) (dDisp z i) := by
  refine PE.of (pe_disp (pps_cons hk hv pps_nil) rfl rfl (fun z => nomatch z) (by show 1 ≤ 15; decide)) fun σ H Q ⟨B0, H0, ρ, s, Qd, R, hd, hq⟩ => ?_
  intro p np
  have st : Same H (upd (upd H p (.dK [])) p (.dK (mergeK [] [(.inr z, .int i)]))) := fun a o e => by
    have ne : a ≠ p := ne_of_none e np
    rw [upd_ne ne, upd_ne ne]
    exact e
  exact ⟨upd_same, [(.inr z, .int i)], rfl, by show 1 ≤ 15; decide, hq _ s _ _ hd (R.same st) (Gr.of st) (Im.dct upd_same (fun z => R.bad z np) (.cons (.int i) .nil))⟩
end
end Lf
namespace Lf
open PySem PySem.Spec PyProof.Rows L2
theorem up_rank {fs : List Nat} (r : Nat → Nat) (h : ∀ v, v < fs.length → par fs v < fs.length ∧ (par fs v = v ∨ r (par fs v) < r v)) : ∀ (n v : Nat), r v < n → v < fs.length → ∃ k, Rch fs k v
  | 0, _, hn, _ => absurd hn (Nat.not_lt_zero _)
  | n + 1, v, hn, hv => by
    obtain ⟨h1, h2⟩ := h v hv
    by_cases e : par fs v = v
    · exact ⟨0, .root e⟩
    · have h3 := h2.resolve_left e
      obtain ⟨k, hk⟩ := up_rank r h n (par fs v) (by omega) h1
      exact ⟨k + 1, .step e hk⟩
theorem forest_rank {fs : List Nat} (r : Nat → Nat) (h0 : 0 < fs.length) (h1 : fs.length ≤ 24) (h : ∀ v, v < fs.length → par fs v < fs.length ∧ (par fs v = v ∨ r (par fs v) < r v)) : Forest fs :=
  ⟨h0, h1, fun v hv => (h v hv).1, fun v hv => up_rank r h (r v + 1) v (Nat.lt_succ_self _) hv⟩
theorem nD_erase : ∀ (l : List Nat) (i : Nat), (nD l).eraseIdx i = nD (l.eraseIdx i)
  | [], _ => rfl
  | _ :: _, 0 => rfl
  | x :: l, i + 1 => congrArg (PyData.int (x : Nat) :: ·) (nD_erase l i)
theorem eqv_nD_nil (l : List Nat) : PyData.eqv (.list (nD l)) (.list []) = l.isEmpty := by cases l <;> rfl
theorem erase_perm : ∀ {l : List Nat} {i x : Nat}, l[i]? = some x → (x :: l.eraseIdx i).Perm l
  | [], _, _, h => by cases h
  | y :: l, 0, x, h => by cases h; exact .refl _
  | y :: l, i + 1, x, h => (List.Perm.swap y x _).trans ((erase_perm (i := i) h).cons y)
theorem idx_get {l : List Nat} (nd : l.Nodup) {i x : Nat} (h : l[i]? = some x) : l.idxOf x = i := by
  obtain ⟨h1, h2⟩ := List.getElem?_eq_some_iff.mp h
  rw [← h2]
  exact List.Nodup.idxOf_getElem nd i h1
end Lf
namespace Lf
open PySem PySem.Spec PyProof.Rows L2
/-! ### comprehensions that draw; renamed forests -/
theorem lcR_drawA {Z : Zn} {ρ : List Sl} {R : Nat → PyData → Prop} {g : DG Z} {tt : DT Z} {te : DX Z} {Q : List PyData → Z.S → Prop} {n : Nat} (hs : ∀ k, k < n → ∀ (s : Z.S) (C : PyData → Z.S → Prop) (E : Z.S → Prop), (∀ x s2, R k x → C x s2) → g (.int (k : Nat)) ρ fun ρ' => tt s ρ' fun b s1 => if b = true then te s1 ρ' fun r s2 => ∃ x, r.st = some x ∧ C x s2 else E s1) (hn : n ≤ 1000000)
    (q : ∀ l s, l.length = n → (∀ k x, l[k]? = some x → R k x) → Q l s) : ∀ (m i : Nat) (acc : List PyData) (s : Z.S), i + m = n → acc.length = i → (∀ k x, acc[k]? = some x → R k x) → lcR g tt te ρ ((List.range' i m).map fun k => .int ((k : Nat) : Int)) s acc Q
  | 0, i, acc, s, e, el, h => q acc s (by omega) h
  | m + 1, i, acc, s, e, el, h => by
    rw [List.range'_succ, List.map_cons]
    unfold lcR
    have := hs i (by omega) s (fun x s2 => acc.length < 1000000 ∧ lcR g tt te ρ ((List.range' (i + 1) m).map fun k => .int ((k : Nat) : Int)) s2 (acc ++ [x]) Q) (fun s1 => lcR g tt te ρ ((List.range' (i + 1) m).map fun k => .int ((k : Nat) : Int)) s1 acc Q) (fun x s2 hx => ⟨by omega, lcR_drawA hs hn q m (i + 1) (acc ++ [x]) s2 (by omega) (by rw [List.length_append]; show acc.length + 1 = _; omega) (fun k y hy => by
      rcases Nat.lt_or_ge k acc.length with z | z
      · rw [List.getElem?_append_left z] at hy
        exact h k y hy
      · rw [List.getElem?_append_right z] at hy
        rcases Nat.eq_zero_or_pos (k - acc.length) with y0 | y0
        · rw [y0] at hy
          cases hy
          have : k = i := by omega
          rw [this]
          exact hx
        · rw [List.getElem?_eq_none (by show 1 ≤ _; omega)] at hy
          cases hy)⟩)
    exact this
theorem lcR_draw {Z : Zn} {ρ : List Sl} {R : Nat → PyData → Prop} {g : DG Z} {tt : DT Z} {te : DX Z} {Q : List PyData → Z.S → Prop} {n : Nat} {s : Z.S} (hs : ∀ k, k < n → ∀ (s : Z.S) (C : PyData → Z.S → Prop) (E : Z.S → Prop), (∀ x s2, R k x → C x s2) → g (.int (k : Nat)) ρ fun ρ' => tt s ρ' fun b s1 => if b = true then te s1 ρ' fun r s2 => ∃ x, r.st = some x ∧ C x s2 else E s1) (hn : n ≤ 1000000)
    (q : ∀ l s, l.length = n → (∀ k x, l[k]? = some x → R k x) → Q l s) : lcR g tt te ρ (rngD 0 n) s [] Q := by
  have := lcR_drawA hs hn q n 0 [] s (Nat.zero_add _) rfl (fun k x h => by cases h)
  rw [rng_nD]
  unfold nD
  rw [List.range_eq_range']
  exact this
theorem noLs_nD : ∀ l : List Nat, noLs (nD l) = true
  | [] => rfl
  | x :: l => by
    show (true && noLs (nD l)) = true
    rw [noLs_nD l]
    rfl
theorem clean_tupN (l : List Nat) : cleanR (.im (tupN l)) = true := noLs_nD l
theorem maxI (a b : Nat) : (if ((b : Nat) : Int) > ((a : Nat) : Int) then ((b : Nat) : Int) else ((a : Nat) : Int)) = ((max a b : Nat) : Int) := by
  by_cases h : a < b
  · rw [if_pos (by omega), Nat.max_eq_right (Nat.le_of_lt h)]
  · rw [if_neg (by omega), Nat.max_eq_left (by omega)]
/-- a list of drawn numbers -/
theorem nats_of {R : Nat → Nat → Prop} : ∀ {n : Nat} {l : List PyData}, l.length = n → (∀ k x, l[k]? = some x → ∃ y : Nat, x = .int (y : Nat) ∧ R k y) → ∃ ys : List Nat, l = nD ys ∧ ys.length = n ∧ ∀ k, k < n → R k (ys.getD k 0) := by
  intro n l hl h
  subst hl
  have hk : ∀ k : Nat, ∃ y : Nat, k < l.length → l[k]? = some (.int (y : Nat)) ∧ R k y := fun k => by
    rcases Nat.lt_or_ge k l.length with z | z
    · obtain ⟨y, e, r⟩ := h k _ (List.getElem?_eq_getElem z)
      exact ⟨y, fun _ => ⟨by rw [List.getElem?_eq_getElem z, e], r⟩⟩
    · exact ⟨0, fun y => absurd y (by omega)⟩
  refine ⟨(List.range l.length).map fun k => (hk k).choose, ?_, by rw [List.length_map, List.length_range], fun k hkl => ?_⟩
  · refine List.ext_getElem? fun i => ?_
    unfold nD
    rw [List.getElem?_map, List.getElem?_map]
    rcases Nat.lt_or_ge i l.length with z | z
    · rw [((hk i).choose_spec z).1, List.getElem?_range z]
      rfl
    · rw [List.getElem?_eq_none z, List.getElem?_eq_none (by rw [List.length_range]; exact z)]
      rfl
  · rw [List.getD_eq_getElem?_getD, List.getElem?_map, List.getElem?_range hkl]
    exact ((hk k).choose_spec hkl).2
theorem way_step {fs : List Nat} (F : Forest fs) {v : Nat} (hv : v < fs.length) (hn : par fs v ≠ v) : way fs v = v :: way fs (par fs v) := (way_pth F hv).inj (.step hn (way_pth F (F.rng v hv)))
theorem way_root {fs : List Nat} (F : Forest fs) {v : Nat} (hv : v < fs.length) (hn : par fs v = v) : way fs v = [v] := (way_pth F hv).inj (.root hn)
theorem asc_forest {ps : List Nat} (h0 : 0 < ps.length) (h1 : ps.length ≤ 24) (h : ∀ k, k < ps.length → ps.getD k 0 ≤ k) : Forest ps :=
  forest_rank (fun v => v) h0 h1 fun v hv => by
    have := h v hv
    unfold par
    refine ⟨by omega, ?_⟩
    omega
theorem ren_forest {ps od fs : List Nat} (F : Forest ps) (po : od.Perm (List.range ps.length)) (hl : fs.length = ps.length) (h : ∀ k, k < ps.length → par fs (od.getD k 0) = od.getD (par ps k) 0) : Forest fs := by
  have lo : od.length = ps.length := by rw [po.length_eq, List.length_range]
  have mem : ∀ v, v < ps.length → v ∈ od := fun v hv => po.mem_iff.mpr (List.mem_range.mpr hv)
  have nd : od.Nodup := po.nodup_iff.mpr List.nodup_range
  have get : ∀ v, v < ps.length → od.getD (od.idxOf v) 0 = v := fun v hv => by
    have hi := List.idxOf_lt_length_iff.mpr (mem v hv)
    rw [List.getD_eq_getElem?_getD, List.getElem?_eq_getElem hi]
    exact List.getElem_idxOf hi
  have ix : ∀ k, k < ps.length → od.idxOf (od.getD k 0) = k := fun k hk => by
    rw [List.getD_eq_getElem?_getD, List.getElem?_eq_getElem (by omega)]
    exact nd.idxOf_getElem k (by omega)
  have low : ∀ k, k < ps.length → od.getD k 0 < ps.length := fun k hk => by
    rw [List.getD_eq_getElem?_getD, List.getElem?_eq_getElem (by omega)]
    exact List.mem_range.mp (po.mem_iff.mp (List.getElem_mem (by omega)))
  refine forest_rank (fun v => (way ps (od.idxOf v)).length) (by rw [hl]; exact F.pos) (by rw [hl]; exact F.few) fun v hv => ?_
  rw [hl] at hv ⊢
  have hk : od.idxOf v < ps.length := by
    have := List.idxOf_lt_length_iff.mpr (mem v hv)
    omega
  have e := h _ hk
  rw [get v hv] at e
  have hp := F.rng _ hk
  rw [e]
  refine ⟨low _ hp, ?_⟩
  by_cases z : par ps (od.idxOf v) = od.idxOf v
  · rw [z, get v hv]
    exact .inl rfl
  · refine .inr ?_
    rw [ix _ hp, way_step F hk z, List.length_cons]
    omega
end Lf
namespace Lf
open PySem PySem.Spec PyProof.Rows L2
/-! ### k72: the law -/
--@call _law_pull Z pass0
--@call _law_item Z pass0
--@call _law_mixed Z pass0
--@call _law_forest Z pass0
--@call _law_twisted Z pass0
--@sub de_mulSK de_str => de_mulSK de_str
theorem ne_go {x y : Str} {Q : Rv → Prop} (e : x = y) (q : Q (.im (.bool false))) : opNe (.im (.str x)) (.im (.str y)) Q := by
  subst e
  show Q (.im (.bool (!decide (x = x))))
  rw [decide_eq_true rfl]
  exact q
def Nw (x : Sl) : Prop := x = .no ∨ ∃ y, x = .im y
theorem rvc {r : Rv} {d : PyData} (h : r.st = some d) : r = .im d ∨ ∃ l, r = .fr l ∧ PyData.list l = d := by
  cases r with
  | im d2 => cases h; exact .inl rfl
  | fr l => cases h; exact .inr ⟨l, rfl, rfl⟩
  | bo l => cases h
  | rw v => cases h
theorem neSame (x : Str) : (!decide (x = x)) = false := by rw [decide_eq_true rfl]; rfl
/-- the readers, by what they store -/
def fLF2 : DF Z0 := fun s as Q => ∃ z : Str, as = [.im (.str z)] ∧ z.length ≤ 100000 ∧ ∀ r : Rv, r.st = some (ansN (resF z)) → Q r s
def fLV2 : DF Z0 := fun s as Q => ∃ z : Str, as = [.im (.str z)] ∧ z.length ≤ 100000 ∧ ∀ r : Rv, r.st = some (ansN (resV z)) → Q r s
def fLC2 : DF Z0 := fun s as Q => ∃ z : Str, as = [.im (.str z)] ∧ z.length ≤ 100000 ∧ Asc z ∧ ∀ r : Rv, r.st = some (ansC z) → Q r s
section
variable {P : Program} {w : World} {K : PySem.W.Frag} {mg : Str → Option Value} {base : Heap} {k : Nat} {x : Str} {ps : List Str}
theorem Df.lf2 (D : Df P w K mg base CX0 k x ps (spD Z0 fLFor)) : Df P w K mg base CX0 k x ps (spD Z0 fLF2) := D.imp fun vs H Q E h => by
  obtain ⟨B0, s0, as, Qd, ok, hB, ha, ⟨z, e, hl, q⟩, hq⟩ := h
  exact ⟨B0, s0, as, Qd, ok, hB, ha, ⟨z, e, hl, fun i hi => q _ (by rw [hi]; rfl), fun l hi => q _ (by rw [hi]; rfl)⟩, hq⟩
theorem Df.lv2 (D : Df P w K mg base CX0 k x ps (spD Z0 fLVer)) : Df P w K mg base CX0 k x ps (spD Z0 fLV2) := D.imp fun vs H Q E h => by
  obtain ⟨B0, s0, as, Qd, ok, hB, ha, ⟨z, e, hl, q⟩, hq⟩ := h
  exact ⟨B0, s0, as, Qd, ok, hB, ha, ⟨z, e, hl, fun i hi => q _ (by rw [hi]; rfl), fun l hi => q _ (by rw [hi]; rfl)⟩, hq⟩
theorem Df.lc2 (D : Df P w K mg base CX0 k x ps (spD Z0 fLCer)) : Df P w K mg base CX0 k x ps (spD Z0 fLC2) := D.imp fun vs H Q E h => by
  obtain ⟨B0, s0, as, Qd, ok, hB, ha, ⟨z, e, hl, hA, q⟩, hq⟩ := h
  exact ⟨B0, s0, as, Qd, ok, hB, ha, ⟨z, e, hl, hA, fun i hi => q _ (by rw [hi]; rfl), fun l hi => q _ (by rw [hi]; rfl)⟩, hq⟩
end
theorem find_lt {p : Nat → Bool} {n i : Nat} (h : (List.range n).find? p = some i) : i < n := List.mem_range.mp (List.mem_of_find?_eq_some h)
theorem scan_lt {fr : Bool} {z : Str} {i : Nat} (h : scan fr (pts z) = some i) : i < z.length + 1 := Nat.lt_of_lt_of_le (find_lt h) (pts_many z)
theorem scan_no {fr : Bool} {z : Str} (h : scan fr (pts z) = none) : ((pts z).map val).length ≤ 24 ∧ ∀ x ∈ (pts z).map val, x < 10 ^ 12 := by
  have good : ∀ j, j < (pts z).length → badP fr (pts z) j = false := fun j hj => by
    unfold scan at h
    rw [List.find?_eq_none] at h
    have := h j (List.mem_range.mpr hj)
    rwa [Bool.not_eq_true] at this
  exact ⟨by rw [List.length_map]; exact good_few good, fun x hx => Nat.lt_of_lt_of_le (good_low good x hx) (by decide)⟩
theorem resF_sw {z : Str} (hl : z.length ≤ 100000) : Sw 1 400 (ansN (resF z)) := by
  have one : ∀ i, i ≤ 100001 → Sw 1 400 (ansN (.inl i)) := fun i hi => (Sw.lst (k := 0) (m := 13) (n := 1) (fun x hx => by
    rw [List.mem_singleton.mp hx]
    exact Sw.nat (by omega)) (Nat.le_refl _)).mono (by decide) (by decide)
  unfold resF
  cases h : scan true (pts z) with
  | some i => exact one i (by have := scan_lt h; omega)
  | none =>
    have hs := scan_no h
    cases e : perr ((pts z).map val) with
    | some i =>
      refine one i ?_
      unfold perr at e
      cases e1 : (List.range ((pts z).map val).length).find? (fun k => decide (((pts z).map val).length ≤ par ((pts z).map val) k)) with
      | some j =>
        rw [e1] at e
        cases e
        have := find_lt e1
        omega
      | none =>
        rw [e1] at e
        have := find_lt e
        omega
    | none => exact (Sw.tupN (n := 24) hs.2 hs.1).mono (by decide) (by decide)
theorem resV_kind {z : Str} (hl : z.length ≤ 100000) : (∃ i, resV z = .inl i ∧ i ≤ 100001) ∨ ∃ l, resV z = .inr l ∧ l.length ≤ 24 ∧ ∀ x ∈ l, x < 10 ^ 12 := by
  unfold resV
  split
  · exact .inr ⟨[], rfl, by decide, fun x hx => nomatch hx⟩
  · cases h : scan false (pts z) with
    | some i => exact .inl ⟨i, rfl, by have := scan_lt h; omega⟩
    | none => exact .inr ⟨_, rfl, scan_no h⟩
theorem resV_sw {z : Str} (hl : z.length ≤ 100000) : Sw 1 400 (ansN (resV z)) := by
  rcases resV_kind hl with ⟨i, e, hi⟩ | ⟨l, e, h1, h2⟩
  · rw [e]
    exact (Sw.lst (k := 0) (m := 13) (n := 1) (fun x hx => by
      rw [List.mem_singleton.mp hx]
      exact Sw.nat (by omega)) (Nat.le_refl _)).mono (by decide) (by decide)
  · rw [e]
    exact (Sw.tupN (n := 24) h2 h1).mono (by decide) (by decide)
theorem two_sw {k m : Nat} {a b : PyData} (ha : Sw k m a) (hb : Sw k m b) : Sw (k + 1) ((m + 2) * 2 + 3) (.tuple [a, b]) := Sw.tup (n := 2) (fun x hx => by
  simp only [List.mem_cons, List.not_mem_nil, or_false] at hx
  rcases hx with rfl | rfl
  · exact ha
  · exact hb) (Nat.le_refl _)
theorem his_sw : Sw 0 100 (.str tHis) := ⟨rfl, Nat.le_refl _, by decide +kernel⟩
theorem hvy_sw : Sw 0 100 (.str tHvy) := ⟨rfl, Nat.le_refl _, by decide +kernel⟩
theorem ansC_sw {z : Str} (hl : z.length ≤ 100000) : Sw 2 1000 (ansC z) := by
  have zero : Sw 2 1000 (.list [.int 0]) := ⟨by decide +kernel, by decide +kernel, by decide +kernel⟩
  have non : Sw 2 1000 (.list [.none]) := ⟨by decide +kernel, by decide +kernel, by decide +kernel⟩
  unfold ansC
  split
  · rcases resV_kind (z := rst z) (by have := rst_len z; omega) with ⟨i, e, hi⟩ | ⟨l, e, h1, h2⟩
    · rw [e]; exact zero
    · rw [e]
      exact (two_sw (k := 1) (m := 400) (his_sw.mono (by decide) (by decide)) ((Sw.tupN (n := 24) h2 h1).mono (by decide) (by decide))).mono (by decide) (by decide)
  · split
    · split
      · rename_i h
        exact (two_sw (k := 1) (m := 400) (hvy_sw.mono (by decide) (by decide)) ((Sw.nat (by have := vt_lt h; omega)).mono (by decide) (by decide))).mono (by decide) (by decide)
      · exact zero
    · exact non
theorem ansW_sw {z : Str} (hl : z.length ≤ 100000) (k : Nat) : Sw 2 1000 (ansW k (.str z)) := by
  show Sw 2 1000 (if k = 0 then ansN (resF z) else if k = 1 then ansN (resV z) else ansC z)
  split
  · exact (resF_sw hl).mono (by decide) (by decide)
  · split
    · exact (resV_sw hl).mono (by decide) (by decide)
    · exact ansC_sw hl
/-- the text of a number below 25 -/
def tv (v : Nat) : Str := (PyData.int ((v : Nat) : Int)).shown
def tvB (v : Nat) : Bool := (PyData.int ((v : Nat) : Int)).showable && (decide ((PyData.int ((v : Nat) : Int)).depth ≤ 100) && (decide ((tv v).length ≤ 2) && ascB (tv v)))
theorem tv_all : ((List.range 25).all tvB) = true := by decide +kernel
theorem tv_ok {v : Nat} (h : v < 25) : (PyData.int ((v : Nat) : Int)).showable = true ∧ (PyData.int ((v : Nat) : Int)).depth ≤ 100 ∧ (tv v).length ≤ 2 ∧ Asc (tv v) := by
  have := List.all_eq_true.mp tv_all v (List.mem_range.mpr h)
  unfold tvB at this
  simp only [Bool.and_eq_true, decide_eq_true_iff] at this
  exact ⟨this.1, this.2.1, this.2.2.1, asc_of this.2.2.2⟩
def jv (l : List Nat) : Str := Txt.join (Str.ofString " ") (l.map tv)
theorem asc_sp : Asc (Str.ofString " ") := asc_of (by decide +kernel)
theorem jv_ok {l : List Nat} (h : ∀ x ∈ l, x < 24) (few : l.length ≤ 24) : Asc (jv l) ∧ (jv l).length ≤ 72 ∧ ((l.map tv).map (·.length)).sum + (l.map tv).length * (Str.ofString " ").length ≤ 1000000 := by
  have s1 : (Str.ofString " ").length = 1 := by decide +kernel
  have hy : ∀ y ∈ l.map tv, Asc y ∧ y.length ≤ 2 := fun y hy => by
    obtain ⟨v, hv, rfl⟩ := List.mem_map.mp hy
    have := tv_ok (v := v) (by have := h v hv; omega)
    exact ⟨this.2.2.2, this.2.2.1⟩
  have b := sum_leS (n := 2) fun y h => (hy y h).2
  have j := len_joinS (Str.ofString " ") (l.map tv)
  rw [s1] at j
  rw [List.length_map] at b j ⊢
  exact ⟨asc_join asc_sp fun y h => (hy y h).1, by unfold jv; omega, by rw [s1]; omega⟩
section
variable {P : Program} {w : World} {K : PySem.W.Frag} {mg : Str → Option Value} {base : Heap}
abbrev s_law : Stmt := topS (38)
abbrev N_law : List Str := ["_law_script", "_law_well_here", "_law_turn", "_law_parents", "_law_text", "_law_some", "_law_texts", "_law_value", "_law_due", "_law_way", "_law_parent", "_law_vertex", "_law_k"]
abbrev p_law : List Str := ["_law_script"]
theorem sc_law : FnScope N_law p_law (defScope s_law) := ⟨rfl, rfl, rfl, by decide +kernel, rfl, by decide +kernel, by decide +kernel⟩
theorem ok_law {f : Addr} {fd : FuncData} (Fn : Fun K "law" "law" s_law f fd) (sys : ∃ o, base.get? sysModules = some o) (d__law_well : Df P w K mg base CX0 1 "_law_well" ["_law_script"] (spSrc K)) (d__law_pull : ∀ wa l, Df P w K mg base CX0 1 "_law_pull" p__law_pull (spD (wz wa l) (fDraw wa l)))
    (d__law_item : ∀ wa l, Df P w K mg base CX0 2 "_law_item" p__law_item (spD (wz wa l) (fItemW wa l))) (d__law_mixed : ∀ wa l, Df P w K mg base CX0 2 "_law_mixed" p__law_mixed (spD (wz wa l) (fMixW wa l))) (d__law_forest : ∀ wa l, Df P w K mg base CX0 4 "_law_forest" p__law_forest (spD (wz wa l) (fForW wa l))) (d__law_twisted : ∀ wa l, Df P w K mg base CX0 3 "_law_twisted" p__law_twisted (spD (wz wa l) (fTwist wa l)))
    (d__law_forest_of : Df P w K mg base CX0 3 "_law_forest_of" p__law_forest_of (spD Z0 fLF2)) (d__law_vertices_of : Df P w K mg base CX0 3 "_law_vertices_of" p__law_vertices_of (spD Z0 fLV2)) (d__law_certificate_of : Df P w K mg base CX0 4 "_law_certificate_of" p__law_certificate_of (spD Z0 fLC2)) (d__law_found : Df P w K mg base CX0 7 "_law_found" p__law_found (spD Z0 fFnd))
    (m_list : mg "list" = none) (m_range : mg "range" = none) (m_repr : mg "repr" = none) (m_str : mg "str" = none) :
    RunG P w K mg base 8 f fd ["_law_script"] (spLaw K) := by
  have nd := sc_law.nd
  refine runG_of Fn sc_law (fun vs H Q E h => ?_) (fun cdv A outer s H vs Q E hgu hr h => ?_)
  · obtain ⟨b, ns, rfl, _⟩ := h
    rfl
  · obtain ⟨b, ks, rfl, hS, hlen, q⟩ := h
    have hu := hu65 hr
    have hu2 := hu200 hr
    refine ⟨_, pss_cons (ps_set (i := 1) nd rfl (.inr rfl) (pe_d d__law_well hr (pa_cons (pv 0) pa_nil))) (PSs.ex fun wa la => have d__law_forest := d__law_forest wa la; have d__law_mixed := d__law_mixed wa la; have d__law_pull := d__law_pull wa la; have d__law_item := d__law_item wa la; have d__law_twisted := d__law_twisted wa la; (ds_cons (ds_for PassesOwn.never rfl (di_r1 (by rfl) m_range (da_cons de_int da_nil)) (dg_name (i := 2) nd rfl (.inl rfl))
      (ds_cons (ds_set (i := 3) nd rfl (.inl rfl) (de_call d__law_forest pass0 hr (da_cons (dv 1) (da_cons de_int da_nil))))
      (ds_cons (ds_set (i := 4) nd rfl (.inl rfl) (de_join de_str (de_lc (ow := [("_law_parent", 10)]) (gok_name (i := 10) (by decide)) rfl nd (di_seq (dv 3)) (blkOk_by (own := [("_law_parent", 10)]) (N := N_law) (sc := defScope s_law) (by decide +kernel)) (fun _ _ _ _ _ => pg_name (i := 10) nd rfl (Or.inl rfl)) (fun _ _ _ _ _ => dp_nil) (fun _ _ _ _ _ => (de_strC sys hgu hu2 (by rfl) m_str (da_cons (dv 10) da_nil))))))
      (ds_cons (ds_set (i := 5) nd rfl (.inl rfl) (de_join de_str (de_lc (ow := [("_law_vertex", 11)]) (gok_name (i := 11) (by decide)) rfl nd (di_seq (de_sl (de_call d__law_mixed pass0 hr (da_cons (dv 1) (da_cons (de_listR1 rfl (by rfl) m_list (by rfl) m_range de_int) da_nil))) do_none (do_some (de_add de_int (de_call d__law_pull pass0 hr (da_cons (dv 1) (da_cons de_int da_nil))))))) (blkOk_by (own := [("_law_vertex", 11)]) (N := N_law) (sc := defScope s_law) (by decide +kernel)) (fun _ _ _ _ _ => pg_name (i := 11) nd rfl (Or.inl rfl)) (fun _ _ _ _ _ => dp_nil) (fun _ _ _ _ _ => (de_strC sys hgu hu2 (by rfl) m_str (da_cons (dv 11) da_nil))))))
      (ds_cons (ds_set (i := 6) nd rfl (.inr rfl) (de_lst (da_cons (dv 4) (da_cons (dv 5) (da_cons (de_add de_str (dv 5)) (da_cons (de_add de_str (de_strC sys hgu hu2 (by rfl) m_str (da_cons (de_call d__law_pull pass0 hr (da_cons (dv 1) (da_cons de_int da_nil))) da_nil))) (da_cons de_str (da_cons de_str (da_cons de_str da_nil)))))))))
      (ds_cons (ds_set (i := 6) nd rfl (.inr rfl) (de_add (dv 6) (de_lst (da_cons de_str (da_cons de_str (da_cons de_str (da_cons de_str (da_cons de_str (da_cons (de_add de_str (dv 5)) (da_cons (de_add (de_mulSK de_str de_int) de_str) (da_cons (de_add (de_add (dv 5) de_str) (dv 5)) da_nil)))))))))))
      (ds_cons (ds_for PassesOwn.never rfl (di_seq (de_add (dv 6) (de_lc (ow := [("_law_k", 12)]) (gok_name (i := 12) (by decide)) rfl nd (di_r1 (by rfl) m_range (da_cons de_int da_nil)) (blkOk_by (own := [("_law_k", 12)]) (N := N_law) (sc := defScope s_law) (by decide +kernel)) (fun _ _ _ _ _ => pg_name (i := 12) nd rfl (Or.inl rfl)) (fun _ _ _ _ _ => dp_nil) (fun _ _ _ _ _ => (de_call d__law_twisted pass0 hr (da_cons (dv 1) (da_cons (de_call d__law_item pass0 hr (da_cons (dv 1) (da_cons (dv 6) da_nil))) da_nil))))))) (dg_name (i := 7) nd rfl (.inr rfl))
      (ds_cons (ds_set (i := 8) nd rfl (.inl rfl) (de_lst (da_cons (de_callP d__law_forest_of pass0 hr (da_cons (dv 7) da_nil)) (da_cons (de_callP d__law_vertices_of pass0 hr (da_cons (dv 7) da_nil)) (da_cons (de_callP d__law_certificate_of pass0 hr (da_cons (dv 7) da_nil)) da_nil)))))
      (ds_one (ds_for PassesOwn.never rfl (di_r1 (by rfl) m_range (da_cons de_int da_nil)) (dg_name (i := 9) nd rfl (.inl rfl))
      (ds_one (ds_if (dt_ne hu (de_repr sys hgu hu2 (by rfl) m_repr (da_cons (de_callP d__law_found pass0 hr (da_cons (dv 9) (da_cons (dv 7) da_nil))) da_nil)) (de_repr sys hgu hu2 (by rfl) m_repr (da_cons (de_ix (dv 8) (dv 9)) da_nil))) (ds_one (ds_ret de_bl)) ds_nil))))))
      (ds_one (ds_for PassesOwn.never rfl (di_seq (de_lst (da_cons de_non (da_cons de_int (da_cons de_bl (da_cons (dv 3) (da_cons (de_lst (da_cons de_str da_nil)) (da_cons de_emp (da_cons (de_call d__law_item pass0 hr (da_cons (dv 1) (da_cons (de_lst (da_cons (de_tup da_nil) (da_cons (de_lst da_nil) (da_cons de_int (da_cons (de_tup (da_cons de_str (da_cons de_int da_nil))) (da_cons (de_disp pe_str pe_int) da_nil)))))) da_nil))) da_nil))))))))) (dg_name (i := 7) nd rfl (.inr rfl))
      (ds_one (ds_if (dt_ne hu (de_repr sys hgu hu2 (by rfl) m_repr (da_cons (de_lc (ow := [("_law_way", 9)]) (gok_name (i := 9) (by decide)) rfl nd (di_r1 (by rfl) m_range (da_cons de_int da_nil)) (blkOk_by (own := [("_law_way", 9)]) (N := N_law) (sc := defScope s_law) (by decide +kernel)) (fun _ _ _ _ _ => pg_name (i := 9) nd rfl (Or.inl rfl)) (fun _ _ _ _ _ => dp_nil) (fun _ _ _ _ _ => (de_callP d__law_found pass0 hr (da_cons (dv 9) (da_cons (dv 7) da_nil))))) da_nil)) de_str) (ds_one (ds_ret de_bl)) ds_nil)))))))))))
      (ds_one (ds_ret de_bl)))), ?_⟩
    refine ⟨.ref b, rfl, b, ks, rfl, hS, hlen, fun H0 wa la sm0 ok nw nl => zone_in (m := 11) ok q ?_⟩
    have z0 : (0 : Nat) ≤ 1000000 := by decide
    refine ⟨by decide, by decide, rfl, ?_⟩
    refine ⟨fun k s ρ => ∃ x2 x3 x4 x5 x6 x7 x8 x9 : Sl, ρ = [.raw (.ref b), .raw (.ref wa), x2, x3, x4, x5, x6, x7, x8, x9, .no, .no, .no] ∧ Nw x9, ⟨_, _, _, _, _, _, _, _, rfl, .inl rfl⟩, ?_, fun s ρ _ => rfl⟩
    rintro k d s ρ hd ⟨x2, x3, x4, x5, x6, x7, x8, x9, rfl, w9⟩
    refine ⟨24, rfl, by decide, by decide, fun fs hF lf => ⟨.inl rfl, ?_⟩⟩
    have s1 : (Str.ofString " ").length = 1 := by decide +kernel
    have h9 : (Str.ofString "history ").length = 8 := by decide +kernel
    have h6 : (Str.ofString "heavy ").length = 6 := by decide +kernel
    have fl := hF.row.low
    have J1 := jv_ok fl lf
    refine ⟨rfl, lcR_fun (items := nD fs) (acc := []) (f := fun d => some (.str d.shown)) (fun d hd C hC => ?_) (by rw [nD_len]; show 0 + _ ≤ _; omega) ?_⟩
    · obtain ⟨v, hv, rfl⟩ := List.mem_map.mp hd
      have tvk := tv_ok (v := v) (by have := fl v hv; omega)
      exact ⟨tvk.1, tvk.2.1, Nat.le_trans tvk.2.2.1 (by rw [sizeLine_eq]; omega), .inl ⟨_, rfl⟩, _, rfl, hC⟩
    have ej : ∀ l : List Nat, [] ++ (nD l).filterMap (fun d => some (PyData.str d.shown)) = (l.map tv).map PyData.str := fun l => by
      rw [List.nil_append, fm_some]
      unfold nD
      rw [List.map_map, List.map_map]
      rfl
    refine ⟨fs.map tv, ej fs, J1.2.2, ?_⟩
    generalize hj1 : Txt.join (Str.ofString " ") (fs.map tv) = t4 at *
    refine ⟨rfl, by decide, by decide, List.range 24, by rw [← rng_nD]; rfl, by decide, fun ms pm => ⟨.inl rfl, 24, rfl, by decide, by decide, fun r hr9 => ⟨.inl rfl, ?_⟩⟩⟩
    have ec : cutD (nD ms) none (some (1 + ((r : Nat) : Int))) = nD (ms.take (1 + r)) := by
      unfold cutD
      rw [show (1 : Int) + ((r : Nat) : Int) = ((1 + r : Nat) : Int) from by omega, HT.sIx_none, HT.sIx_nat, List.drop_zero, Nat.sub_zero]
      unfold nD
      rw [List.map_take, List.take_eq_take_iff]
      omega
    show lcR _ _ _ _ (cutD (nD ms) none (some (1 + ((r : Nat) : Int)))) _ [] _
    rw [ec]
    have lm := pm.length_eq
    rw [List.length_range] at lm
    have lo2 : ∀ x ∈ ms.take (1 + r), x < 24 := fun x hx => List.mem_range.mp (pm.mem_iff.mp (List.mem_of_mem_take hx))
    have fw2 : (ms.take (1 + r)).length ≤ 24 := by rw [List.length_take]; omega
    generalize ms.take (1 + r) = l2 at *
    have J2 := jv_ok lo2 fw2
    refine lcR_fun (items := nD l2) (acc := []) (f := fun d => some (.str d.shown)) (fun d hd C hC => ?_) (by rw [nD_len]; show 0 + _ ≤ _; omega) ?_
    · obtain ⟨v, hv, rfl⟩ := List.mem_map.mp hd
      have tvk := tv_ok (v := v) (by have := lo2 v hv; omega)
      exact ⟨tvk.1, tvk.2.1, Nat.le_trans tvk.2.2.1 (by rw [sizeLine_eq]; omega), .inl ⟨_, rfl⟩, _, rfl, hC⟩
    refine ⟨l2.map tv, ej l2, J2.2.2, ?_⟩
    have J1 : Asc t4 ∧ t4.length ≤ 72 := by rw [← hj1]; exact ⟨J1.1, J1.2.1⟩
    generalize hj2 : Txt.join (Str.ofString " ") (l2.map tv) = t5 at *
    have J2 : Asc t5 ∧ t5.length ≤ 72 := by rw [← hj2]; exact ⟨J2.1, J2.2.1⟩
    refine ⟨by rw [h9]; omega, 25, rfl, by decide, by decide, fun hv hh => ?_⟩
    have hk := tv_ok hh
    have hk2 : (PyData.int ((hv : Nat) : Int)).shown.length ≤ 2 := hk.2.2.1
    refine ⟨.inl rfl, hk.1, hk.2.1, Nat.le_trans hk.2.2.1 (by rw [sizeLine_eq]; omega), .inl ⟨_, rfl⟩, by rw [h6]; omega, _, rfl, by show 7 ≤ 1000000; decide, fun a6 => ?_⟩
    refine ⟨by rw [h6]; omega, by decide, by decide, by decide +kernel, by decide +kernel, by rw [repS_len]; decide +kernel, by rw [s1]; omega, by rw [app_len, s1]; omega, _, rfl, by show 8 ≤ 1000000; decide, by show 7 + 8 ≤ 1000000; decide, fun a7 => ?_⟩
    have aH : Asc (Str.ofString "history ") := asc_of (by decide +kernel)
    have aV : Asc (Str.ofString "heavy ") := asc_of (by decide +kernel)
    let T6 : List PyData := [.str t4, .str t5, .str (Str.ofString "history " ++ t5), .str (Str.ofString "heavy " ++ (PyData.int ((hv : Nat) : Int)).shown), .str (Str.ofString "none"), .str (Str.ofString "history none"), .str (Str.ofString "heavy")] ++ [.str (Str.ofString "heavy none"), .str (Str.ofString "history"), .str (Str.ofString ""), .str (Str.ofString " "), .str (Str.ofString "0"), .str (Str.ofString "heavy " ++ t5), .str (repS (Str.ofString "0 ") (Int.toNat 24) ++ Str.ofString "0"), .str (t5 ++ Str.ofString " " ++ t5)]
    have cst : ∀ {z : Str}, (ascB z && decide (z.length ≤ 200)) = true → TxD 200 (.str z) := fun {z} h => by
      rw [Bool.and_eq_true, decide_eq_true_iff] at h
      exact ⟨z, rfl, asc_of h.1, h.2⟩
    have tx6 : ∀ d ∈ T6, TxD 200 d := fun d hd => by
      have hd : d ∈ ([.str t4, .str t5, .str (Str.ofString "history " ++ t5), .str (Str.ofString "heavy " ++ (PyData.int ((hv : Nat) : Int)).shown), .str (Str.ofString "none"), .str (Str.ofString "history none"), .str (Str.ofString "heavy")] : List PyData) ++ [.str (Str.ofString "heavy none"), .str (Str.ofString "history"), .str (Str.ofString ""), .str (Str.ofString " "), .str (Str.ofString "0"), .str (Str.ofString "heavy " ++ t5), .str (repS (Str.ofString "0 ") (Int.toNat 24) ++ Str.ofString "0"), .str (t5 ++ Str.ofString " " ++ t5)] := hd
      simp only [List.mem_append, List.mem_cons, List.not_mem_nil, or_false] at hd
      rcases hd with (rfl | rfl | rfl | rfl | rfl | rfl | rfl) | rfl | rfl | rfl | rfl | rfl | rfl | rfl | rfl
      · exact ⟨_, rfl, J1.1, by omega⟩
      · exact ⟨_, rfl, J2.1, by omega⟩
      · exact ⟨_, rfl, aH.app J2.1, by rw [app_len]; omega⟩
      · exact ⟨_, rfl, aV.app hk.2.2.2, by rw [app_len]; omega⟩
      · exact cst (by decide +kernel)
      · exact cst (by decide +kernel)
      · exact cst (by decide +kernel)
      · exact cst (by decide +kernel)
      · exact cst (by decide +kernel)
      · exact cst (by decide +kernel)
      · exact cst (by decide +kernel)
      · exact cst (by decide +kernel)
      · exact ⟨_, rfl, aV.app J2.1, by rw [app_len]; omega⟩
      · exact cst (by decide +kernel)
      · exact ⟨_, rfl, (J2.1.app asc_sp).app J2.1, by rw [app_len, app_len]; omega⟩
    refine ⟨rfl, by decide, by decide, lcR_draw (R := fun _ d => TxD 90000 d) (fun k hk s C E hC => ?_) (by decide) (fun L s lL hL => ?_)⟩
    · refine ⟨T6, rfl, by show 1 ≤ 15; decide, by show 15 ≤ 1000; decide, fun d hd => ?_⟩
      obtain ⟨z, rfl, zA, zL⟩ := tx6 d hd
      exact ⟨.inr rfl, z, rfl, zA, zL, fun z' zA' zL' => ⟨.inl rfl, _, rfl, hC _ _ ⟨z', rfl, zA', zL'⟩⟩⟩
    have allT : ∀ d ∈ T6 ++ L, TxD 90000 d := fun d hd => by
      rcases List.mem_append.mp hd with h | h
      · exact (tx6 d h).mono (by decide)
      · obtain ⟨i, hi⟩ := List.mem_iff_getElem?.mp h
        exact hL i d hi
    have lL : L.length = 16 := lL
    refine ⟨by show 15 + L.length ≤ 1000000; omega, rfl, fun i s ρ => ∃ x7 x8 x9 : Sl, ρ = [.raw (.ref b), .raw (.ref wa), .im d, .im (tupN fs), .im (.str t4), .im (.str t5), .ow a7 T6, x7, x8, x9, .no, .no, .no] ∧ Nw x9, ⟨_, _, _, rfl, w9⟩, ?_, ?_⟩
    · rintro i v s ρ hv2 ⟨x7, x8, x9, rfl, w9⟩
      obtain ⟨z, rfl, zA, zL⟩ := allT v (List.mem_of_getElem? hv2)
      have zl : z.length ≤ 100000 := by omega
      refine ⟨z, rfl, zl, fun r1 h1 => ⟨.inl rfl, z, rfl, zl, fun r2 h2 => ⟨.inl rfl, z, rfl, zl, zA, fun r3 h3 => ⟨.inl rfl, [ansN (resF z), ansN (resV z), ansC z], ?_, by show 3 ≤ 1000000; decide, fun a8 => ?_⟩⟩⟩⟩
      · unfold sts sts sts sts
        rw [h1, h2, h3]
      refine ⟨by decide, by decide, rfl, fun j s ρ => ∃ x9 : Sl, ρ = [.raw (.ref b), .raw (.ref wa), .im d, .im (tupN fs), .im (.str t4), .im (.str t5), .ow a7 T6, .im (.str z), .ow a8 [ansN (resF z), ansN (resV z), ansC z], x9, .no, .no, .no] ∧ Nw x9, ⟨_, rfl, w9⟩, ?_, ?_⟩
      · rintro j y s ρ hy ⟨x9, rfl, w9⟩
        obtain ⟨hj, rfl⟩ := rngD_get hy
        have hj3 : j < 3 := hj
        have hat : atI [ansN (resF z), ansN (resV z), ansC z] (0 + ((j : Nat) : Int)) = some (ansW j (.str z)) := by
          rw [Int.zero_add]
          refine atI_nat ?_
          match j, hj3 with
          | 0, _ => rfl
          | 1, _ => rfl
          | 2, _ => rfl
        have sa := (ansW_sw zl j).fits (by decide) (by decide)
        refine ⟨j, .str z, by rw [Int.zero_add]; rfl, hj3, fun z2 e2 => by cases e2; exact zl, fun r4 h4 => ?_⟩
        rcases rvc h4 with rfl | ⟨l4, rfl, e4⟩
        · refine ⟨.inl rfl, sa.1, sa.2.1, sa.2.2, _, hat, sa.1, sa.2.1, sa.2.2, ?_⟩
          show if (!decide ((ansW j (.str z)).shown = (ansW j (.str z)).shown)) = true then _ else _
          rw [neSame, if_neg Bool.false_ne_true]
          exact ⟨_, rfl, .inr ⟨_, rfl⟩⟩
        · have sb := sa
          rw [← e4] at sb
          refine ⟨.inl rfl, sb.1, sb.2.1, sb.2.2, _, hat, sa.1, sa.2.1, sa.2.2, ?_⟩
          show if (!decide ((PyData.list l4).shown = (ansW j (.str z)).shown)) = true then _ else _
          rw [e4, neSame, if_neg Bool.false_ne_true]
          exact ⟨_, rfl, .inr ⟨_, rfl⟩⟩
      · rintro s ρ ⟨x9, rfl, w9⟩
        exact ⟨_, _, _, rfl, w9⟩
    · rintro s ρ ⟨x7, x8, x9, rfl, w9⟩
      refine ⟨_, rfl, by show 1 ≤ 1000000; decide, _, rfl, by show 0 ≤ 1000000; decide, _, rfl, by show 0 ≤ 1000000; decide, _, rfl, by show 2 ≤ 1000000; decide, _, rfl, by show 5 ≤ 1000000; decide, _, rfl, by show 1 ≤ 5; decide, by show 5 ≤ 1000; decide, fun d5 hd5 => ⟨.inl rfl, _, rfl, by show 7 ≤ 1000000; decide, rfl, ?_⟩⟩
      have n5 : ∀ z : Str, d5 ≠ .str z := fun z e => by
        simp only [List.mem_cons, List.not_mem_nil, or_false] at hd5
        subst e
        rcases hd5 with e | e | e | e | e <;> cases e
      have n7 : ∀ v ∈ [PyData.none, .int 5, .bool true, tupN fs, .list [.str (Str.ofString "0")], .dict [], d5], ∀ z : Str, v ≠ .str z := fun v hv z e => by
        simp only [List.mem_cons, List.not_mem_nil, or_false] at hv
        subst e
        rcases hv with e | e | e | e | e | e | e
        · cases e
        · cases e
        · cases e
        · cases e
        · cases e
        · cases e
        · exact n5 z e.symm
      refine ⟨fun i s ρ => ∃ x7 : Sl, ρ = [.raw (.ref b), .raw (.ref wa), .im d, .im (tupN fs), .im (.str t4), .im (.str t5), .ow a7 T6, x7, x8, x9, .no, .no, .no], ⟨_, rfl⟩, ?_, ?_⟩
      · rintro i v s ρ hv2 ⟨x7, rfl⟩
        have nv7 := n7 v (List.mem_of_getElem? hv2)
        refine ⟨?_, by decide, by decide, ?_⟩
        · rcases w9 with rfl | ⟨y9, rfl⟩ <;> rfl
        have eN : ∀ j, ansW j v = .list [.none] := fun j => by
          cases v with
          | str z => exact absurd rfl (nv7 z)
          | _ => rfl
        refine lcR_rng (n := 3) (f := fun _ => some (.list [.none])) (fun j hj C hC => ?_) (by decide) ?_
        · exact ⟨j, v, rfl, hj, fun z e => absurd e (nv7 z), fun r hr6 => ⟨.inl rfl, _, (eN j) ▸ hr6, hC⟩⟩
        refine ⟨by decide +kernel, by decide +kernel, by decide +kernel, ?_⟩
        have eX : (PyData.list ((List.range 3).filterMap fun _ => some (PyData.list [.none]))).shown = Str.ofString "[[None], [None], [None]]" := by decide +kernel
        dsimp only [dC]
        refine ne_go eX ?_
        refine ifz_no (c := false) rfl ?_
        exact ⟨_, rfl⟩
      · rintro s ρ ⟨x7, rfl⟩
        exact ⟨_, _, _, _, _, _, _, _, rfl, w9⟩
end
end Lf
namespace Lf
open PySem PySem.Spec PyProof.Rows L2
def initS (i : Nat) : Stmt := match topS i with
  | .ClassDef (body := b) .. => b.getD 0 (.Pass ⟨0, 0, 0, 0⟩)
  | _ => .Pass ⟨0, 0, 0, 0⟩
theorem sc_BadText : FnScope ["self", "index"] ["self", "index"] (defScope (initS 4)) := ⟨rfl, rfl, rfl, by decide +kernel, rfl, by decide +kernel, by decide +kernel⟩
theorem bd_BadText : ∃ q1 q2 q3 q4, defBody (initS 4) = [.Assign [.Attribute (.Name "self" q1) "index" q2] (.Name "index" q3) q4] := ⟨_, _, _, _, rfl⟩
theorem all_mk {l : PySem.W.OpenLaw} {w : World} {K : PySem.W.Frag} {h : Heap} {mg : Str → Option Value} {fa : Addr} (X : K.In h) (G : h.Ns mainGlobals mg) (hfa : mg "law" = some (.ref fa))
    {f_is_plain_int : Addr} {odF_is_plain_int anF_is_plain_int : Option Addr} {slF_is_plain_int : Array (Option Value)} {ocF_is_plain_int kVF_is_plain_int dcF_is_plain_int pmF_is_plain_int cdF_is_plain_int ctF_is_plain_int : Value} (aF_is_plain_int : PySem.W.nsIn K mainGlobals "is_plain_int" = some (some (.ref f_is_plain_int))) (lF_is_plain_int : K.lookup f_is_plain_int = some ⟨ocF_is_plain_int, odF_is_plain_int, .func (PySem.W.fnOf "is_plain_int" "is_plain_int" (defArgs (topS 8)) (defBody (topS 8)) (defScope (topS 8)) .none kVF_is_plain_int dcF_is_plain_int pmF_is_plain_int anF_is_plain_int cdF_is_plain_int ctF_is_plain_int), slF_is_plain_int⟩) (cF_is_plain_int : PySem.W.codeIn K cdF_is_plain_int "is_plain_int" = true) (kF_is_plain_int : PySem.W.keepIn K (.ref f_is_plain_int) = true)
    {f_is_vertex : Addr} {odF_is_vertex anF_is_vertex : Option Addr} {slF_is_vertex : Array (Option Value)} {ocF_is_vertex kVF_is_vertex dcF_is_vertex pmF_is_vertex cdF_is_vertex ctF_is_vertex : Value} (aF_is_vertex : PySem.W.nsIn K mainGlobals "is_vertex" = some (some (.ref f_is_vertex))) (lF_is_vertex : K.lookup f_is_vertex = some ⟨ocF_is_vertex, odF_is_vertex, .func (PySem.W.fnOf "is_vertex" "is_vertex" (defArgs (topS 9)) (defBody (topS 9)) (defScope (topS 9)) .none kVF_is_vertex dcF_is_vertex pmF_is_vertex anF_is_vertex cdF_is_vertex ctF_is_vertex), slF_is_vertex⟩) (cF_is_vertex : PySem.W.codeIn K cdF_is_vertex "is_vertex" = true) (kF_is_vertex : PySem.W.keepIn K (.ref f_is_vertex) = true)
    {f_leads_to_root : Addr} {odF_leads_to_root anF_leads_to_root : Option Addr} {slF_leads_to_root : Array (Option Value)} {ocF_leads_to_root kVF_leads_to_root dcF_leads_to_root pmF_leads_to_root cdF_leads_to_root ctF_leads_to_root : Value} (aF_leads_to_root : PySem.W.nsIn K mainGlobals "leads_to_root" = some (some (.ref f_leads_to_root))) (lF_leads_to_root : K.lookup f_leads_to_root = some ⟨ocF_leads_to_root, odF_leads_to_root, .func (PySem.W.fnOf "leads_to_root" "leads_to_root" (defArgs (topS 10)) (defBody (topS 10)) (defScope (topS 10)) .none kVF_leads_to_root dcF_leads_to_root pmF_leads_to_root anF_leads_to_root cdF_leads_to_root ctF_leads_to_root), slF_leads_to_root⟩) (cF_leads_to_root : PySem.W.codeIn K cdF_leads_to_root "leads_to_root" = true) (kF_leads_to_root : PySem.W.keepIn K (.ref f_leads_to_root) = true)
    {f_forest_error : Addr} {odF_forest_error anF_forest_error : Option Addr} {slF_forest_error : Array (Option Value)} {ocF_forest_error kVF_forest_error dcF_forest_error pmF_forest_error cdF_forest_error ctF_forest_error : Value} (aF_forest_error : PySem.W.nsIn K mainGlobals "forest_error" = some (some (.ref f_forest_error))) (lF_forest_error : K.lookup f_forest_error = some ⟨ocF_forest_error, odF_forest_error, .func (PySem.W.fnOf "forest_error" "forest_error" (defArgs (topS 11)) (defBody (topS 11)) (defScope (topS 11)) .none kVF_forest_error dcF_forest_error pmF_forest_error anF_forest_error cdF_forest_error ctF_forest_error), slF_forest_error⟩) (cF_forest_error : PySem.W.codeIn K cdF_forest_error "forest_error" = true) (kF_forest_error : PySem.W.keepIn K (.ref f_forest_error) = true)
    {f_is_number_text : Addr} {odF_is_number_text anF_is_number_text : Option Addr} {slF_is_number_text : Array (Option Value)} {ocF_is_number_text kVF_is_number_text dcF_is_number_text pmF_is_number_text cdF_is_number_text ctF_is_number_text : Value} (aF_is_number_text : PySem.W.nsIn K mainGlobals "is_number_text" = some (some (.ref f_is_number_text))) (lF_is_number_text : K.lookup f_is_number_text = some ⟨ocF_is_number_text, odF_is_number_text, .func (PySem.W.fnOf "is_number_text" "is_number_text" (defArgs (topS 13)) (defBody (topS 13)) (defScope (topS 13)) .none kVF_is_number_text dcF_is_number_text pmF_is_number_text anF_is_number_text cdF_is_number_text ctF_is_number_text), slF_is_number_text⟩) (cF_is_number_text : PySem.W.codeIn K cdF_is_number_text "is_number_text" = true) (kF_is_number_text : PySem.W.keepIn K (.ref f_is_number_text) = true)
    {f_is_vertex_text : Addr} {odF_is_vertex_text anF_is_vertex_text : Option Addr} {slF_is_vertex_text : Array (Option Value)} {ocF_is_vertex_text kVF_is_vertex_text dcF_is_vertex_text pmF_is_vertex_text cdF_is_vertex_text ctF_is_vertex_text : Value} (aF_is_vertex_text : PySem.W.nsIn K mainGlobals "is_vertex_text" = some (some (.ref f_is_vertex_text))) (lF_is_vertex_text : K.lookup f_is_vertex_text = some ⟨ocF_is_vertex_text, odF_is_vertex_text, .func (PySem.W.fnOf "is_vertex_text" "is_vertex_text" (defArgs (topS 14)) (defBody (topS 14)) (defScope (topS 14)) .none kVF_is_vertex_text dcF_is_vertex_text pmF_is_vertex_text anF_is_vertex_text cdF_is_vertex_text ctF_is_vertex_text), slF_is_vertex_text⟩) (cF_is_vertex_text : PySem.W.codeIn K cdF_is_vertex_text "is_vertex_text" = true) (kF_is_vertex_text : PySem.W.keepIn K (.ref f_is_vertex_text) = true)
    {f_check_string : Addr} {odF_check_string anF_check_string : Option Addr} {slF_check_string : Array (Option Value)} {ocF_check_string kVF_check_string dcF_check_string pmF_check_string cdF_check_string ctF_check_string : Value} (aF_check_string : PySem.W.nsIn K mainGlobals "check_string" = some (some (.ref f_check_string))) (lF_check_string : K.lookup f_check_string = some ⟨ocF_check_string, odF_check_string, .func (PySem.W.fnOf "check_string" "check_string" (defArgs (topS 15)) (defBody (topS 15)) (defScope (topS 15)) .none kVF_check_string dcF_check_string pmF_check_string anF_check_string cdF_check_string ctF_check_string), slF_check_string⟩) (cF_check_string : PySem.W.codeIn K cdF_check_string "check_string" = true) (kF_check_string : PySem.W.keepIn K (.ref f_check_string) = true)
    {f_parse_forest : Addr} {odF_parse_forest anF_parse_forest : Option Addr} {slF_parse_forest : Array (Option Value)} {ocF_parse_forest kVF_parse_forest dcF_parse_forest pmF_parse_forest cdF_parse_forest ctF_parse_forest : Value} (aF_parse_forest : PySem.W.nsIn K mainGlobals "parse_forest" = some (some (.ref f_parse_forest))) (lF_parse_forest : K.lookup f_parse_forest = some ⟨ocF_parse_forest, odF_parse_forest, .func (PySem.W.fnOf "parse_forest" "parse_forest" (defArgs (topS 16)) (defBody (topS 16)) (defScope (topS 16)) .none kVF_parse_forest dcF_parse_forest pmF_parse_forest anF_parse_forest cdF_parse_forest ctF_parse_forest), slF_parse_forest⟩) (cF_parse_forest : PySem.W.codeIn K cdF_parse_forest "parse_forest" = true) (kF_parse_forest : PySem.W.keepIn K (.ref f_parse_forest) = true)
    {f_parse_vertices : Addr} {odF_parse_vertices anF_parse_vertices : Option Addr} {slF_parse_vertices : Array (Option Value)} {ocF_parse_vertices kVF_parse_vertices dcF_parse_vertices pmF_parse_vertices cdF_parse_vertices ctF_parse_vertices : Value} (aF_parse_vertices : PySem.W.nsIn K mainGlobals "parse_vertices" = some (some (.ref f_parse_vertices))) (lF_parse_vertices : K.lookup f_parse_vertices = some ⟨ocF_parse_vertices, odF_parse_vertices, .func (PySem.W.fnOf "parse_vertices" "parse_vertices" (defArgs (topS 17)) (defBody (topS 17)) (defScope (topS 17)) .none kVF_parse_vertices dcF_parse_vertices pmF_parse_vertices anF_parse_vertices cdF_parse_vertices ctF_parse_vertices), slF_parse_vertices⟩) (cF_parse_vertices : PySem.W.codeIn K cdF_parse_vertices "parse_vertices" = true) (kF_parse_vertices : PySem.W.keepIn K (.ref f_parse_vertices) = true)
    {f_parse_certificate : Addr} {odF_parse_certificate anF_parse_certificate : Option Addr} {slF_parse_certificate : Array (Option Value)} {ocF_parse_certificate kVF_parse_certificate dcF_parse_certificate pmF_parse_certificate cdF_parse_certificate ctF_parse_certificate : Value} (aF_parse_certificate : PySem.W.nsIn K mainGlobals "parse_certificate" = some (some (.ref f_parse_certificate))) (lF_parse_certificate : K.lookup f_parse_certificate = some ⟨ocF_parse_certificate, odF_parse_certificate, .func (PySem.W.fnOf "parse_certificate" "parse_certificate" (defArgs (topS 18)) (defBody (topS 18)) (defScope (topS 18)) .none kVF_parse_certificate dcF_parse_certificate pmF_parse_certificate anF_parse_certificate cdF_parse_certificate ctF_parse_certificate), slF_parse_certificate⟩) (cF_parse_certificate : PySem.W.codeIn K cdF_parse_certificate "parse_certificate" = true) (kF_parse_certificate : PySem.W.keepIn K (.ref f_parse_certificate) = true)
    {f_parse_history_part : Addr} {odF_parse_history_part anF_parse_history_part : Option Addr} {slF_parse_history_part : Array (Option Value)} {ocF_parse_history_part kVF_parse_history_part dcF_parse_history_part pmF_parse_history_part cdF_parse_history_part ctF_parse_history_part : Value} (aF_parse_history_part : PySem.W.nsIn K mainGlobals "parse_history_part" = some (some (.ref f_parse_history_part))) (lF_parse_history_part : K.lookup f_parse_history_part = some ⟨ocF_parse_history_part, odF_parse_history_part, .func (PySem.W.fnOf "parse_history_part" "parse_history_part" (defArgs (topS 19)) (defBody (topS 19)) (defScope (topS 19)) .none kVF_parse_history_part dcF_parse_history_part pmF_parse_history_part anF_parse_history_part cdF_parse_history_part ctF_parse_history_part), slF_parse_history_part⟩) (cF_parse_history_part : PySem.W.codeIn K cdF_parse_history_part "parse_history_part" = true) (kF_parse_history_part : PySem.W.keepIn K (.ref f_parse_history_part) = true)
    {f__law_well : Addr} {odF__law_well anF__law_well : Option Addr} {slF__law_well : Array (Option Value)} {ocF__law_well kVF__law_well dcF__law_well pmF__law_well cdF__law_well ctF__law_well : Value} (aF__law_well : PySem.W.nsIn K mainGlobals "_law_well" = some (some (.ref f__law_well))) (lF__law_well : K.lookup f__law_well = some ⟨ocF__law_well, odF__law_well, .func (PySem.W.fnOf "_law_well" "_law_well" (defArgs (topS 21)) (defBody (topS 21)) (defScope (topS 21)) .none kVF__law_well dcF__law_well pmF__law_well anF__law_well cdF__law_well ctF__law_well), slF__law_well⟩) (cF__law_well : PySem.W.codeIn K cdF__law_well "_law_well" = true) (kF__law_well : PySem.W.keepIn K (.ref f__law_well) = true)
    {f__law_pull : Addr} {odF__law_pull anF__law_pull : Option Addr} {slF__law_pull : Array (Option Value)} {ocF__law_pull kVF__law_pull dcF__law_pull pmF__law_pull cdF__law_pull ctF__law_pull : Value} (aF__law_pull : PySem.W.nsIn K mainGlobals "_law_pull" = some (some (.ref f__law_pull))) (lF__law_pull : K.lookup f__law_pull = some ⟨ocF__law_pull, odF__law_pull, .func (PySem.W.fnOf "_law_pull" "_law_pull" (defArgs (topS 22)) (defBody (topS 22)) (defScope (topS 22)) .none kVF__law_pull dcF__law_pull pmF__law_pull anF__law_pull cdF__law_pull ctF__law_pull), slF__law_pull⟩) (cF__law_pull : PySem.W.codeIn K cdF__law_pull "_law_pull" = true) (kF__law_pull : PySem.W.keepIn K (.ref f__law_pull) = true)
    {f__law_item : Addr} {odF__law_item anF__law_item : Option Addr} {slF__law_item : Array (Option Value)} {ocF__law_item kVF__law_item dcF__law_item pmF__law_item cdF__law_item ctF__law_item : Value} (aF__law_item : PySem.W.nsIn K mainGlobals "_law_item" = some (some (.ref f__law_item))) (lF__law_item : K.lookup f__law_item = some ⟨ocF__law_item, odF__law_item, .func (PySem.W.fnOf "_law_item" "_law_item" (defArgs (topS 23)) (defBody (topS 23)) (defScope (topS 23)) .none kVF__law_item dcF__law_item pmF__law_item anF__law_item cdF__law_item ctF__law_item), slF__law_item⟩) (cF__law_item : PySem.W.codeIn K cdF__law_item "_law_item" = true) (kF__law_item : PySem.W.keepIn K (.ref f__law_item) = true)
    {f__law_mixed : Addr} {odF__law_mixed anF__law_mixed : Option Addr} {slF__law_mixed : Array (Option Value)} {ocF__law_mixed kVF__law_mixed dcF__law_mixed pmF__law_mixed cdF__law_mixed ctF__law_mixed : Value} (aF__law_mixed : PySem.W.nsIn K mainGlobals "_law_mixed" = some (some (.ref f__law_mixed))) (lF__law_mixed : K.lookup f__law_mixed = some ⟨ocF__law_mixed, odF__law_mixed, .func (PySem.W.fnOf "_law_mixed" "_law_mixed" (defArgs (topS 24)) (defBody (topS 24)) (defScope (topS 24)) .none kVF__law_mixed dcF__law_mixed pmF__law_mixed anF__law_mixed cdF__law_mixed ctF__law_mixed), slF__law_mixed⟩) (cF__law_mixed : PySem.W.codeIn K cdF__law_mixed "_law_mixed" = true) (kF__law_mixed : PySem.W.keepIn K (.ref f__law_mixed) = true)
    {f__law_tops : Addr} {odF__law_tops anF__law_tops : Option Addr} {slF__law_tops : Array (Option Value)} {ocF__law_tops kVF__law_tops dcF__law_tops pmF__law_tops cdF__law_tops ctF__law_tops : Value} (aF__law_tops : PySem.W.nsIn K mainGlobals "_law_tops" = some (some (.ref f__law_tops))) (lF__law_tops : K.lookup f__law_tops = some ⟨ocF__law_tops, odF__law_tops, .func (PySem.W.fnOf "_law_tops" "_law_tops" (defArgs (topS 25)) (defBody (topS 25)) (defScope (topS 25)) .none kVF__law_tops dcF__law_tops pmF__law_tops anF__law_tops cdF__law_tops ctF__law_tops), slF__law_tops⟩) (cF__law_tops : PySem.W.codeIn K cdF__law_tops "_law_tops" = true) (kF__law_tops : PySem.W.keepIn K (.ref f__law_tops) = true)
    {f__law_heft : Addr} {odF__law_heft anF__law_heft : Option Addr} {slF__law_heft : Array (Option Value)} {ocF__law_heft kVF__law_heft dcF__law_heft pmF__law_heft cdF__law_heft ctF__law_heft : Value} (aF__law_heft : PySem.W.nsIn K mainGlobals "_law_heft" = some (some (.ref f__law_heft))) (lF__law_heft : K.lookup f__law_heft = some ⟨ocF__law_heft, odF__law_heft, .func (PySem.W.fnOf "_law_heft" "_law_heft" (defArgs (topS 26)) (defBody (topS 26)) (defScope (topS 26)) .none kVF__law_heft dcF__law_heft pmF__law_heft anF__law_heft cdF__law_heft ctF__law_heft), slF__law_heft⟩) (cF__law_heft : PySem.W.codeIn K cdF__law_heft "_law_heft" = true) (kF__law_heft : PySem.W.keepIn K (.ref f__law_heft) = true)
    {f__law_grown : Addr} {odF__law_grown anF__law_grown : Option Addr} {slF__law_grown : Array (Option Value)} {ocF__law_grown kVF__law_grown dcF__law_grown pmF__law_grown cdF__law_grown ctF__law_grown : Value} (aF__law_grown : PySem.W.nsIn K mainGlobals "_law_grown" = some (some (.ref f__law_grown))) (lF__law_grown : K.lookup f__law_grown = some ⟨ocF__law_grown, odF__law_grown, .func (PySem.W.fnOf "_law_grown" "_law_grown" (defArgs (topS 27)) (defBody (topS 27)) (defScope (topS 27)) .none kVF__law_grown dcF__law_grown pmF__law_grown anF__law_grown cdF__law_grown ctF__law_grown), slF__law_grown⟩) (cF__law_grown : PySem.W.codeIn K cdF__law_grown "_law_grown" = true) (kF__law_grown : PySem.W.keepIn K (.ref f__law_grown) = true)
    {f__law_wild : Addr} {odF__law_wild anF__law_wild : Option Addr} {slF__law_wild : Array (Option Value)} {ocF__law_wild kVF__law_wild dcF__law_wild pmF__law_wild cdF__law_wild ctF__law_wild : Value} (aF__law_wild : PySem.W.nsIn K mainGlobals "_law_wild" = some (some (.ref f__law_wild))) (lF__law_wild : K.lookup f__law_wild = some ⟨ocF__law_wild, odF__law_wild, .func (PySem.W.fnOf "_law_wild" "_law_wild" (defArgs (topS 28)) (defBody (topS 28)) (defScope (topS 28)) .none kVF__law_wild dcF__law_wild pmF__law_wild anF__law_wild cdF__law_wild ctF__law_wild), slF__law_wild⟩) (cF__law_wild : PySem.W.codeIn K cdF__law_wild "_law_wild" = true) (kF__law_wild : PySem.W.keepIn K (.ref f__law_wild) = true)
    {f__law_line : Addr} {odF__law_line anF__law_line : Option Addr} {slF__law_line : Array (Option Value)} {ocF__law_line kVF__law_line dcF__law_line pmF__law_line cdF__law_line ctF__law_line : Value} (aF__law_line : PySem.W.nsIn K mainGlobals "_law_line" = some (some (.ref f__law_line))) (lF__law_line : K.lookup f__law_line = some ⟨ocF__law_line, odF__law_line, .func (PySem.W.fnOf "_law_line" "_law_line" (defArgs (topS 29)) (defBody (topS 29)) (defScope (topS 29)) .none kVF__law_line dcF__law_line pmF__law_line anF__law_line cdF__law_line ctF__law_line), slF__law_line⟩) (cF__law_line : PySem.W.codeIn K cdF__law_line "_law_line" = true) (kF__law_line : PySem.W.keepIn K (.ref f__law_line) = true)
    {f__law_forest : Addr} {odF__law_forest anF__law_forest : Option Addr} {slF__law_forest : Array (Option Value)} {ocF__law_forest kVF__law_forest dcF__law_forest pmF__law_forest cdF__law_forest ctF__law_forest : Value} (aF__law_forest : PySem.W.nsIn K mainGlobals "_law_forest" = some (some (.ref f__law_forest))) (lF__law_forest : K.lookup f__law_forest = some ⟨ocF__law_forest, odF__law_forest, .func (PySem.W.fnOf "_law_forest" "_law_forest" (defArgs (topS 30)) (defBody (topS 30)) (defScope (topS 30)) .none kVF__law_forest dcF__law_forest pmF__law_forest anF__law_forest cdF__law_forest ctF__law_forest), slF__law_forest⟩) (cF__law_forest : PySem.W.codeIn K cdF__law_forest "_law_forest" = true) (kF__law_forest : PySem.W.keepIn K (.ref f__law_forest) = true)
    {f__law_number : Addr} {odF__law_number anF__law_number : Option Addr} {slF__law_number : Array (Option Value)} {ocF__law_number kVF__law_number dcF__law_number pmF__law_number cdF__law_number ctF__law_number : Value} (aF__law_number : PySem.W.nsIn K mainGlobals "_law_number" = some (some (.ref f__law_number))) (lF__law_number : K.lookup f__law_number = some ⟨ocF__law_number, odF__law_number, .func (PySem.W.fnOf "_law_number" "_law_number" (defArgs (topS 31)) (defBody (topS 31)) (defScope (topS 31)) .none kVF__law_number dcF__law_number pmF__law_number anF__law_number cdF__law_number ctF__law_number), slF__law_number⟩) (cF__law_number : PySem.W.codeIn K cdF__law_number "_law_number" = true) (kF__law_number : PySem.W.keepIn K (.ref f__law_number) = true)
    {f__law_parts : Addr} {odF__law_parts anF__law_parts : Option Addr} {slF__law_parts : Array (Option Value)} {ocF__law_parts kVF__law_parts dcF__law_parts pmF__law_parts cdF__law_parts ctF__law_parts : Value} (aF__law_parts : PySem.W.nsIn K mainGlobals "_law_parts" = some (some (.ref f__law_parts))) (lF__law_parts : K.lookup f__law_parts = some ⟨ocF__law_parts, odF__law_parts, .func (PySem.W.fnOf "_law_parts" "_law_parts" (defArgs (topS 32)) (defBody (topS 32)) (defScope (topS 32)) .none kVF__law_parts dcF__law_parts pmF__law_parts anF__law_parts cdF__law_parts ctF__law_parts), slF__law_parts⟩) (cF__law_parts : PySem.W.codeIn K cdF__law_parts "_law_parts" = true) (kF__law_parts : PySem.W.keepIn K (.ref f__law_parts) = true)
    {f__law_forest_of : Addr} {odF__law_forest_of anF__law_forest_of : Option Addr} {slF__law_forest_of : Array (Option Value)} {ocF__law_forest_of kVF__law_forest_of dcF__law_forest_of pmF__law_forest_of cdF__law_forest_of ctF__law_forest_of : Value} (aF__law_forest_of : PySem.W.nsIn K mainGlobals "_law_forest_of" = some (some (.ref f__law_forest_of))) (lF__law_forest_of : K.lookup f__law_forest_of = some ⟨ocF__law_forest_of, odF__law_forest_of, .func (PySem.W.fnOf "_law_forest_of" "_law_forest_of" (defArgs (topS 33)) (defBody (topS 33)) (defScope (topS 33)) .none kVF__law_forest_of dcF__law_forest_of pmF__law_forest_of anF__law_forest_of cdF__law_forest_of ctF__law_forest_of), slF__law_forest_of⟩) (cF__law_forest_of : PySem.W.codeIn K cdF__law_forest_of "_law_forest_of" = true) (kF__law_forest_of : PySem.W.keepIn K (.ref f__law_forest_of) = true)
    {f__law_vertices_of : Addr} {odF__law_vertices_of anF__law_vertices_of : Option Addr} {slF__law_vertices_of : Array (Option Value)} {ocF__law_vertices_of kVF__law_vertices_of dcF__law_vertices_of pmF__law_vertices_of cdF__law_vertices_of ctF__law_vertices_of : Value} (aF__law_vertices_of : PySem.W.nsIn K mainGlobals "_law_vertices_of" = some (some (.ref f__law_vertices_of))) (lF__law_vertices_of : K.lookup f__law_vertices_of = some ⟨ocF__law_vertices_of, odF__law_vertices_of, .func (PySem.W.fnOf "_law_vertices_of" "_law_vertices_of" (defArgs (topS 34)) (defBody (topS 34)) (defScope (topS 34)) .none kVF__law_vertices_of dcF__law_vertices_of pmF__law_vertices_of anF__law_vertices_of cdF__law_vertices_of ctF__law_vertices_of), slF__law_vertices_of⟩) (cF__law_vertices_of : PySem.W.codeIn K cdF__law_vertices_of "_law_vertices_of" = true) (kF__law_vertices_of : PySem.W.keepIn K (.ref f__law_vertices_of) = true)
    {f__law_certificate_of : Addr} {odF__law_certificate_of anF__law_certificate_of : Option Addr} {slF__law_certificate_of : Array (Option Value)} {ocF__law_certificate_of kVF__law_certificate_of dcF__law_certificate_of pmF__law_certificate_of cdF__law_certificate_of ctF__law_certificate_of : Value} (aF__law_certificate_of : PySem.W.nsIn K mainGlobals "_law_certificate_of" = some (some (.ref f__law_certificate_of))) (lF__law_certificate_of : K.lookup f__law_certificate_of = some ⟨ocF__law_certificate_of, odF__law_certificate_of, .func (PySem.W.fnOf "_law_certificate_of" "_law_certificate_of" (defArgs (topS 35)) (defBody (topS 35)) (defScope (topS 35)) .none kVF__law_certificate_of dcF__law_certificate_of pmF__law_certificate_of anF__law_certificate_of cdF__law_certificate_of ctF__law_certificate_of), slF__law_certificate_of⟩) (cF__law_certificate_of : PySem.W.codeIn K cdF__law_certificate_of "_law_certificate_of" = true) (kF__law_certificate_of : PySem.W.keepIn K (.ref f__law_certificate_of) = true)
    {f__law_found : Addr} {odF__law_found anF__law_found : Option Addr} {slF__law_found : Array (Option Value)} {ocF__law_found kVF__law_found dcF__law_found pmF__law_found cdF__law_found ctF__law_found : Value} (aF__law_found : PySem.W.nsIn K mainGlobals "_law_found" = some (some (.ref f__law_found))) (lF__law_found : K.lookup f__law_found = some ⟨ocF__law_found, odF__law_found, .func (PySem.W.fnOf "_law_found" "_law_found" (defArgs (topS 36)) (defBody (topS 36)) (defScope (topS 36)) .none kVF__law_found dcF__law_found pmF__law_found anF__law_found cdF__law_found ctF__law_found), slF__law_found⟩) (cF__law_found : PySem.W.codeIn K cdF__law_found "_law_found" = true) (kF__law_found : PySem.W.keepIn K (.ref f__law_found) = true)
    {f__law_twisted : Addr} {odF__law_twisted anF__law_twisted : Option Addr} {slF__law_twisted : Array (Option Value)} {ocF__law_twisted kVF__law_twisted dcF__law_twisted pmF__law_twisted cdF__law_twisted ctF__law_twisted : Value} (aF__law_twisted : PySem.W.nsIn K mainGlobals "_law_twisted" = some (some (.ref f__law_twisted))) (lF__law_twisted : K.lookup f__law_twisted = some ⟨ocF__law_twisted, odF__law_twisted, .func (PySem.W.fnOf "_law_twisted" "_law_twisted" (defArgs (topS 37)) (defBody (topS 37)) (defScope (topS 37)) .none kVF__law_twisted dcF__law_twisted pmF__law_twisted anF__law_twisted cdF__law_twisted ctF__law_twisted), slF__law_twisted⟩) (cF__law_twisted : PySem.W.codeIn K cdF__law_twisted "_law_twisted" = true) (kF__law_twisted : PySem.W.keepIn K (.ref f__law_twisted) = true)
    {f_law : Addr} {odF_law anF_law : Option Addr} {slF_law : Array (Option Value)} {ocF_law kVF_law dcF_law pmF_law cdF_law ctF_law : Value} (aF_law : PySem.W.nsIn K mainGlobals "law" = some (some (.ref f_law))) (lF_law : K.lookup f_law = some ⟨ocF_law, odF_law, .func (PySem.W.fnOf "law" "law" (defArgs (topS 38)) (defBody (topS 38)) (defScope (topS 38)) .none kVF_law dcF_law pmF_law anF_law cdF_law ctF_law), slF_law⟩) (cF_law : PySem.W.codeIn K cdF_law "law" = true) (kF_law : PySem.W.keepIn K (.ref f_law) = true)
    (z_ValueError : PySem.W.nsIn K mainGlobals "ValueError" = some none)
    (z_abs : PySem.W.nsIn K mainGlobals "abs" = some none)
    (z_bool : PySem.W.nsIn K mainGlobals "bool" = some none)
    (z_enumerate : PySem.W.nsIn K mainGlobals "enumerate" = some none)
    (z_int : PySem.W.nsIn K mainGlobals "int" = some none)
    (z_isinstance : PySem.W.nsIn K mainGlobals "isinstance" = some none)
    (z_len : PySem.W.nsIn K mainGlobals "len" = some none)
    (z_list : PySem.W.nsIn K mainGlobals "list" = some none)
    (z_range : PySem.W.nsIn K mainGlobals "range" = some none)
    (z_repr : PySem.W.nsIn K mainGlobals "repr" = some none)
    (z_sorted : PySem.W.nsIn K mainGlobals "sorted" = some none)
    (z_str : PySem.W.nsIn K mainGlobals "str" = some none)
    (z_tuple : PySem.W.nsIn K mainGlobals "tuple" = some none)
    {C_BadText : Addr} (cg_BadText : PySem.W.nsIn K mainGlobals "BadText" = some (some (.ref C_BadText)))
    {C_LinkError : Addr} (cg_LinkError : PySem.W.nsIn K mainGlobals "LinkError" = some (some (.ref C_LinkError)))
    {C_BadJoin : Addr} (cg_BadJoin : PySem.W.nsIn K mainGlobals "BadJoin" = some (some (.ref C_BadJoin)))
    {C_NoIndex : Addr} (cg_NoIndex : PySem.W.nsIn K mainGlobals "NoIndex" = some (some (.ref C_NoIndex)))
    {C_Rejected : Addr} (cg_Rejected : PySem.W.nsIn K mainGlobals "Rejected" = some (some (.ref C_Rejected)))
    {fI_BadText N_BadText : Addr} {nm_BadText q_BadText : Str} {bs_BadText bm_BadText : List Value} {sn_BadText : List Str} {sub_BadText : List Value} {ab_BadText : Bool} {col_BadText : Option Bool} {dd_BadText : Option Addr} {y0_BadText y1_BadText y2_BadText y3_BadText y5_BadText : Option Value} {od_BadText an_BadText : Option Addr} {sl_BadText : Array (Option Value)} {oc_BadText kV_BadText dc_BadText pm_BadText cd_BadText ct_BadText : Value}
    (xL_BadText : K.lookup C_BadText = some (excClassObj nm_BadText q_BadText C_BadText N_BadText bs_BadText bm_BadText true sn_BadText sub_BadText ab_BadText col_BadText dd_BadText y0_BadText y1_BadText y2_BadText y3_BadText y5_BadText "ValueError.__new__")) (hb_BadText : PySem.HandSPX.refsVE bm_BadText = true) (sa_BadText : PySem.W.findIn K (.ref C_BadText) "__setattr__" = some (some (.builtin "object.__setattr__"))) (nb_BadText : PySem.W.findIn K (.ref C_BadText) "index" = some none)
    (a_BadText : PySem.W.findIn K (.ref C_BadText) "__init__" = some (some (.ref fI_BadText))) (t_BadText : PySem.W.typeIn K (.ref fI_BadText) = some (.type "function")) (l_BadText : K.lookup fI_BadText = some ⟨oc_BadText, od_BadText, .func (PySem.W.fnOf "__init__" "BadText.__init__" (defArgs (initS 4)) (defBody (initS 4)) (defScope (initS 4)) .none kV_BadText dc_BadText pm_BadText an_BadText cd_BadText ct_BadText), sl_BadText⟩) (c_BadText : PySem.W.codeIn K cd_BadText "BadText.__init__" = true) (k_BadText : PySem.W.keepIn K (.ref fI_BadText) = true)
    (eC_BadText : PySem.W.subIn K (.ref C_BadText) (.type "BaseException") = some true) (tC_BadText : PySem.W.typeIn K (.ref C_BadText) = some (.type "type")) (kC_BadText : PySem.W.keepIn K (.ref C_BadText) = true)
    (big_CA : cauB K C_BadText C_LinkError C_BadJoin C_NoIndex C_Rejected = true)
    {tc_MAX_VERTICES : Tok} (gc_MAX_VERTICES : PySem.W.nsIn K mainGlobals "MAX_VERTICES" = some (some (.int 24 tc_MAX_VERTICES)))
    (exm_BadText : PySem.W.exmOne K (.ref C_BadText) (.ref C_BadText) = some true)
    : ∃ fd : FuncData, (∀ (s : Shared) (u : Value), BindsTo s fd ⟨[u], []⟩ [("_law_script", u)]) ∧ ∀ base : Heap, K.In base → base.Ns mainGlobals mg → (∃ o, base.get? sysModules = some o) → RunG l.prog w K mg base 8 fa fd ["_law_script"] (spLaw K) := by
  have e := hfa.symm.trans (PySem.W.mg_of X G aF_law)
  cases e
  have F_is_plain_int := fun_mk (st := topS 8) lF_is_plain_int cF_is_plain_int kF_is_plain_int
  have B_is_plain_int := F_is_plain_int.binds (ps := ["value"]) fun _ _ _ _ _ _ us hl => match us, hl with | [_], _ => rfl
  have g_is_plain_int := PySem.W.mg_of X G aF_is_plain_int
  have M_is_plain_int : Mk K mg "is_plain_int" (topS 8) ["value"] := ⟨_, _, F_is_plain_int, B_is_plain_int, g_is_plain_int⟩
  have F_is_vertex := fun_mk (st := topS 9) lF_is_vertex cF_is_vertex kF_is_vertex
  have B_is_vertex := F_is_vertex.binds (ps := ["n", "value"]) fun _ _ _ _ _ _ us hl => match us, hl with | [_, _], _ => rfl
  have g_is_vertex := PySem.W.mg_of X G aF_is_vertex
  have M_is_vertex : Mk K mg "is_vertex" (topS 9) ["n", "value"] := ⟨_, _, F_is_vertex, B_is_vertex, g_is_vertex⟩
  have F_leads_to_root := fun_mk (st := topS 10) lF_leads_to_root cF_leads_to_root kF_leads_to_root
  have B_leads_to_root := F_leads_to_root.binds (ps := ["parents", "vertex"]) fun _ _ _ _ _ _ us hl => match us, hl with | [_, _], _ => rfl
  have g_leads_to_root := PySem.W.mg_of X G aF_leads_to_root
  have M_leads_to_root : Mk K mg "leads_to_root" (topS 10) ["parents", "vertex"] := ⟨_, _, F_leads_to_root, B_leads_to_root, g_leads_to_root⟩
  have F_forest_error := fun_mk (st := topS 11) lF_forest_error cF_forest_error kF_forest_error
  have B_forest_error := F_forest_error.binds (ps := ["value"]) fun _ _ _ _ _ _ us hl => match us, hl with | [_], _ => rfl
  have g_forest_error := PySem.W.mg_of X G aF_forest_error
  have M_forest_error : Mk K mg "forest_error" (topS 11) ["value"] := ⟨_, _, F_forest_error, B_forest_error, g_forest_error⟩
  have F_is_number_text := fun_mk (st := topS 13) lF_is_number_text cF_is_number_text kF_is_number_text
  have B_is_number_text := F_is_number_text.binds (ps := ["part", "digits"]) fun _ _ _ _ _ _ us hl => match us, hl with | [_, _], _ => rfl
  have g_is_number_text := PySem.W.mg_of X G aF_is_number_text
  have M_is_number_text : Mk K mg "is_number_text" (topS 13) ["part", "digits"] := ⟨_, _, F_is_number_text, B_is_number_text, g_is_number_text⟩
  have F_is_vertex_text := fun_mk (st := topS 14) lF_is_vertex_text cF_is_vertex_text kF_is_vertex_text
  have B_is_vertex_text := F_is_vertex_text.binds (ps := ["part"]) fun _ _ _ _ _ _ us hl => match us, hl with | [_], _ => rfl
  have g_is_vertex_text := PySem.W.mg_of X G aF_is_vertex_text
  have M_is_vertex_text : Mk K mg "is_vertex_text" (topS 14) ["part"] := ⟨_, _, F_is_vertex_text, B_is_vertex_text, g_is_vertex_text⟩
  have F_check_string := fun_mk (st := topS 15) lF_check_string cF_check_string kF_check_string
  have B_check_string := F_check_string.binds (ps := ["value"]) fun _ _ _ _ _ _ us hl => match us, hl with | [_], _ => rfl
  have g_check_string := PySem.W.mg_of X G aF_check_string
  have M_check_string : Mk K mg "check_string" (topS 15) ["value"] := ⟨_, _, F_check_string, B_check_string, g_check_string⟩
  have F_parse_forest := fun_mk (st := topS 16) lF_parse_forest cF_parse_forest kF_parse_forest
  have B_parse_forest := F_parse_forest.binds (ps := ["value"]) fun _ _ _ _ _ _ us hl => match us, hl with | [_], _ => rfl
  have g_parse_forest := PySem.W.mg_of X G aF_parse_forest
  have M_parse_forest : Mk K mg "parse_forest" (topS 16) ["value"] := ⟨_, _, F_parse_forest, B_parse_forest, g_parse_forest⟩
  have F_parse_vertices := fun_mk (st := topS 17) lF_parse_vertices cF_parse_vertices kF_parse_vertices
  have B_parse_vertices := F_parse_vertices.binds (ps := ["value"]) fun _ _ _ _ _ _ us hl => match us, hl with | [_], _ => rfl
  have g_parse_vertices := PySem.W.mg_of X G aF_parse_vertices
  have M_parse_vertices : Mk K mg "parse_vertices" (topS 17) ["value"] := ⟨_, _, F_parse_vertices, B_parse_vertices, g_parse_vertices⟩
  have F_parse_certificate := fun_mk (st := topS 18) lF_parse_certificate cF_parse_certificate kF_parse_certificate
  have B_parse_certificate := F_parse_certificate.binds (ps := ["value"]) fun _ _ _ _ _ _ us hl => match us, hl with | [_], _ => rfl
  have g_parse_certificate := PySem.W.mg_of X G aF_parse_certificate
  have M_parse_certificate : Mk K mg "parse_certificate" (topS 18) ["value"] := ⟨_, _, F_parse_certificate, B_parse_certificate, g_parse_certificate⟩
  have F_parse_history_part := fun_mk (st := topS 19) lF_parse_history_part cF_parse_history_part kF_parse_history_part
  have B_parse_history_part := F_parse_history_part.binds (ps := ["text"]) fun _ _ _ _ _ _ us hl => match us, hl with | [_], _ => rfl
  have g_parse_history_part := PySem.W.mg_of X G aF_parse_history_part
  have M_parse_history_part : Mk K mg "parse_history_part" (topS 19) ["text"] := ⟨_, _, F_parse_history_part, B_parse_history_part, g_parse_history_part⟩
  have F__law_well := fun_mk (st := topS 21) lF__law_well cF__law_well kF__law_well
  have B__law_well := F__law_well.binds (ps := ["_law_script"]) fun _ _ _ _ _ _ us hl => match us, hl with | [_], _ => rfl
  have g__law_well := PySem.W.mg_of X G aF__law_well
  have M__law_well : Mk K mg "_law_well" (topS 21) ["_law_script"] := ⟨_, _, F__law_well, B__law_well, g__law_well⟩
  have F__law_pull := fun_mk (st := topS 22) lF__law_pull cF__law_pull kF__law_pull
  have B__law_pull := F__law_pull.binds (ps := ["_law_well_here", "_law_many"]) fun _ _ _ _ _ _ us hl => match us, hl with | [_, _], _ => rfl
  have g__law_pull := PySem.W.mg_of X G aF__law_pull
  have M__law_pull : Mk K mg "_law_pull" (topS 22) ["_law_well_here", "_law_many"] := ⟨_, _, F__law_pull, B__law_pull, g__law_pull⟩
  have F__law_item := fun_mk (st := topS 23) lF__law_item cF__law_item kF__law_item
  have B__law_item := F__law_item.binds (ps := ["_law_well_here", "_law_items"]) fun _ _ _ _ _ _ us hl => match us, hl with | [_, _], _ => rfl
  have g__law_item := PySem.W.mg_of X G aF__law_item
  have M__law_item : Mk K mg "_law_item" (topS 23) ["_law_well_here", "_law_items"] := ⟨_, _, F__law_item, B__law_item, g__law_item⟩
  have F__law_mixed := fun_mk (st := topS 24) lF__law_mixed cF__law_mixed kF__law_mixed
  have B__law_mixed := F__law_mixed.binds (ps := ["_law_well_here", "_law_items"]) fun _ _ _ _ _ _ us hl => match us, hl with | [_, _], _ => rfl
  have g__law_mixed := PySem.W.mg_of X G aF__law_mixed
  have M__law_mixed : Mk K mg "_law_mixed" (topS 24) ["_law_well_here", "_law_items"] := ⟨_, _, F__law_mixed, B__law_mixed, g__law_mixed⟩
  have F__law_tops := fun_mk (st := topS 25) lF__law_tops cF__law_tops kF__law_tops
  have B__law_tops := F__law_tops.binds (ps := ["_law_parents"]) fun _ _ _ _ _ _ us hl => match us, hl with | [_], _ => rfl
  have g__law_tops := PySem.W.mg_of X G aF__law_tops
  have M__law_tops : Mk K mg "_law_tops" (topS 25) ["_law_parents"] := ⟨_, _, F__law_tops, B__law_tops, g__law_tops⟩
  have F__law_heft := fun_mk (st := topS 26) lF__law_heft cF__law_heft kF__law_heft
  have B__law_heft := F__law_heft.binds (ps := ["_law_parents", "_law_vertex"]) fun _ _ _ _ _ _ us hl => match us, hl with | [_, _], _ => rfl
  have g__law_heft := PySem.W.mg_of X G aF__law_heft
  have M__law_heft : Mk K mg "_law_heft" (topS 26) ["_law_parents", "_law_vertex"] := ⟨_, _, F__law_heft, B__law_heft, g__law_heft⟩
  have F__law_grown := fun_mk (st := topS 27) lF__law_grown cF__law_grown kF__law_grown
  have B__law_grown := F__law_grown.binds (ps := ["_law_well_here", "_law_most"]) fun _ _ _ _ _ _ us hl => match us, hl with | [_, _], _ => rfl
  have g__law_grown := PySem.W.mg_of X G aF__law_grown
  have M__law_grown : Mk K mg "_law_grown" (topS 27) ["_law_well_here", "_law_most"] := ⟨_, _, F__law_grown, B__law_grown, g__law_grown⟩
  have F__law_wild := fun_mk (st := topS 28) lF__law_wild cF__law_wild kF__law_wild
  have B__law_wild := F__law_wild.binds (ps := ["_law_well_here", "_law_most"]) fun _ _ _ _ _ _ us hl => match us, hl with | [_, _], _ => rfl
  have g__law_wild := PySem.W.mg_of X G aF__law_wild
  have M__law_wild : Mk K mg "_law_wild" (topS 28) ["_law_well_here", "_law_most"] := ⟨_, _, F__law_wild, B__law_wild, g__law_wild⟩
  have F__law_line := fun_mk (st := topS 29) lF__law_line cF__law_line kF__law_line
  have B__law_line := F__law_line.binds (ps := ["_law_parents", "_law_vertex"]) fun _ _ _ _ _ _ us hl => match us, hl with | [_, _], _ => rfl
  have g__law_line := PySem.W.mg_of X G aF__law_line
  have M__law_line : Mk K mg "_law_line" (topS 29) ["_law_parents", "_law_vertex"] := ⟨_, _, F__law_line, B__law_line, g__law_line⟩
  have F__law_forest := fun_mk (st := topS 30) lF__law_forest cF__law_forest kF__law_forest
  have B__law_forest := F__law_forest.binds (ps := ["_law_well_here", "_law_most"]) fun _ _ _ _ _ _ us hl => match us, hl with | [_, _], _ => rfl
  have g__law_forest := PySem.W.mg_of X G aF__law_forest
  have M__law_forest : Mk K mg "_law_forest" (topS 30) ["_law_well_here", "_law_most"] := ⟨_, _, F__law_forest, B__law_forest, g__law_forest⟩
  have F__law_number := fun_mk (st := topS 31) lF__law_number cF__law_number kF__law_number
  have B__law_number := F__law_number.binds (ps := ["_law_part"]) fun _ _ _ _ _ _ us hl => match us, hl with | [_], _ => rfl
  have g__law_number := PySem.W.mg_of X G aF__law_number
  have M__law_number : Mk K mg "_law_number" (topS 31) ["_law_part"] := ⟨_, _, F__law_number, B__law_number, g__law_number⟩
  have F__law_parts := fun_mk (st := topS 32) lF__law_parts cF__law_parts kF__law_parts
  have B__law_parts := F__law_parts.binds (ps := ["_law_text", "_law_free"]) fun _ _ _ _ _ _ us hl => match us, hl with | [_, _], _ => rfl
  have g__law_parts := PySem.W.mg_of X G aF__law_parts
  have M__law_parts : Mk K mg "_law_parts" (topS 32) ["_law_text", "_law_free"] := ⟨_, _, F__law_parts, B__law_parts, g__law_parts⟩
  have F__law_forest_of := fun_mk (st := topS 33) lF__law_forest_of cF__law_forest_of kF__law_forest_of
  have B__law_forest_of := F__law_forest_of.binds (ps := ["_law_text"]) fun _ _ _ _ _ _ us hl => match us, hl with | [_], _ => rfl
  have g__law_forest_of := PySem.W.mg_of X G aF__law_forest_of
  have M__law_forest_of : Mk K mg "_law_forest_of" (topS 33) ["_law_text"] := ⟨_, _, F__law_forest_of, B__law_forest_of, g__law_forest_of⟩
  have F__law_vertices_of := fun_mk (st := topS 34) lF__law_vertices_of cF__law_vertices_of kF__law_vertices_of
  have B__law_vertices_of := F__law_vertices_of.binds (ps := ["_law_text"]) fun _ _ _ _ _ _ us hl => match us, hl with | [_], _ => rfl
  have g__law_vertices_of := PySem.W.mg_of X G aF__law_vertices_of
  have M__law_vertices_of : Mk K mg "_law_vertices_of" (topS 34) ["_law_text"] := ⟨_, _, F__law_vertices_of, B__law_vertices_of, g__law_vertices_of⟩
  have F__law_certificate_of := fun_mk (st := topS 35) lF__law_certificate_of cF__law_certificate_of kF__law_certificate_of
  have B__law_certificate_of := F__law_certificate_of.binds (ps := ["_law_text"]) fun _ _ _ _ _ _ us hl => match us, hl with | [_], _ => rfl
  have g__law_certificate_of := PySem.W.mg_of X G aF__law_certificate_of
  have M__law_certificate_of : Mk K mg "_law_certificate_of" (topS 35) ["_law_text"] := ⟨_, _, F__law_certificate_of, B__law_certificate_of, g__law_certificate_of⟩
  have F__law_found := fun_mk (st := topS 36) lF__law_found cF__law_found kF__law_found
  have B__law_found := F__law_found.binds (ps := ["_law_way", "_law_value"]) fun _ _ _ _ _ _ us hl => match us, hl with | [_, _], _ => rfl
  have g__law_found := PySem.W.mg_of X G aF__law_found
  have M__law_found : Mk K mg "_law_found" (topS 36) ["_law_way", "_law_value"] := ⟨_, _, F__law_found, B__law_found, g__law_found⟩
  have F__law_twisted := fun_mk (st := topS 37) lF__law_twisted cF__law_twisted kF__law_twisted
  have B__law_twisted := F__law_twisted.binds (ps := ["_law_well_here", "_law_text"]) fun _ _ _ _ _ _ us hl => match us, hl with | [_, _], _ => rfl
  have g__law_twisted := PySem.W.mg_of X G aF__law_twisted
  have M__law_twisted : Mk K mg "_law_twisted" (topS 37) ["_law_well_here", "_law_text"] := ⟨_, _, F__law_twisted, B__law_twisted, g__law_twisted⟩
  have F_law := fun_mk (st := topS 38) lF_law cF_law kF_law
  have g_law := PySem.W.mg_of X G aF_law
  have m_ValueError := PySem.W.mg_none_of X G z_ValueError
  have m_abs := PySem.W.mg_none_of X G z_abs
  have m_bool := PySem.W.mg_none_of X G z_bool
  have m_enumerate := PySem.W.mg_none_of X G z_enumerate
  have m_int := PySem.W.mg_none_of X G z_int
  have m_isinstance := PySem.W.mg_none_of X G z_isinstance
  have m_len := PySem.W.mg_none_of X G z_len
  have m_list := PySem.W.mg_none_of X G z_list
  have m_range := PySem.W.mg_none_of X G z_range
  have m_repr := PySem.W.mg_none_of X G z_repr
  have m_sorted := PySem.W.mg_none_of X G z_sorted
  have m_str := PySem.W.mg_none_of X G z_str
  have m_tuple := PySem.W.mg_none_of X G z_tuple
  have g_MAX_VERTICES := PySem.W.mg_of X G gc_MAX_VERTICES
  have gC_LinkError := PySem.W.mg_of X G cg_LinkError
  have gC_BadJoin := PySem.W.mg_of X G cg_BadJoin
  have gC_NoIndex := PySem.W.mg_of X G cg_NoIndex
  have gC_Rejected := PySem.W.mg_of X G cg_Rejected
  refine ⟨PySem.W.fnOf "law" "law" (defArgs (topS 38)) (defBody (topS 38)) (defScope (topS 38)) .none kVF_law dcF_law pmF_law anF_law cdF_law ctF_law, fun s v => .of_eq rfl, fun base _ _ sys => ?_⟩
  have TX_BadText : OexC K C_BadText := ⟨⟨nm_BadText, q_BadText, N_BadText, bs_BadText, bm_BadText, sn_BadText, sub_BadText, ab_BadText, col_BadText, dd_BadText, y0_BadText, y1_BadText, y2_BadText, y3_BadText, y5_BadText, xL_BadText, hb_BadText⟩, sa_BadText, eC_BadText, tC_BadText, kC_BadText⟩
  have FX_BadText := fun_mk (st := initS 4) l_BadText c_BadText k_BadText
  have I_BadText := ok_init (P := l.prog) (w := w) (mg := mg) (base := base) FX_BadText sc_BadText TX_BadText nb_BadText bd_BadText (.inl rfl) (.inl rfl) (by decide) (by decide)
  have BI_BadText := FX_BadText.binds (ps := ["self", "index"]) (fun _ _ _ _ _ _ us hl => match us, hl with | [_, _], _ => rfl)
  have R_BadText : ErrF l.prog w K mg base "BadText" "index" C_BadText := ⟨⟨_, _, a_BadText, t_BadText, I_BadText, BI_BadText⟩, TX_BadText, PySem.W.mg_of X G cg_BadText⟩
  have CA := cau_ok (mg := mg) (nm := "BadText") (fld := "index") (n1 := "BadJoin") (n2 := "NoIndex") (n3 := "Rejected") big_CA nb_BadText (PySem.W.mg_of X G cg_BadText) (PySem.W.mg_of X G cg_LinkError) (PySem.W.mg_of X G cg_BadJoin) (PySem.W.mg_of X G cg_NoIndex) (PySem.W.mg_of X G cg_Rejected)
  have G__law_well := ok_well (P := l.prog) (w := w) (base := base) F__law_well m_len m_abs m_int
  have d__law_well := Df.of F__law_well B__law_well g__law_well G__law_well
  have G__law_pull := ok_pull (P := l.prog) (w := w) (base := base) (mg := mg) F__law_pull
  have d__law_pull := Df.of F__law_pull B__law_pull g__law_pull G__law_pull
  have G__law_item := ok_item (P := l.prog) (w := w) (base := base) F__law_item F__law_pull B__law_pull g__law_pull m_len
  have d__law_item := Df.of F__law_item B__law_item g__law_item G__law_item
  have G__law_mixed := ok_mixed (P := l.prog) (w := w) (base := base) F__law_mixed F__law_pull B__law_pull g__law_pull m_len m_list
  have d__law_mixed := Df.of F__law_mixed B__law_mixed g__law_mixed G__law_mixed
  have G__law_tops := ok_tops (P := l.prog) (w := w) (base := base) F__law_tops m_len m_range
  have d__law_tops := Df.of F__law_tops B__law_tops g__law_tops G__law_tops
  have G__law_heft := ok_heft (P := l.prog) (w := w) (base := base) F__law_heft m_len m_range
  have d__law_heft := Df.of F__law_heft B__law_heft g__law_heft G__law_heft
  have d_is_plain_int := ok_is_plain_int (P := l.prog) (w := w) (base := base) M_is_plain_int m_isinstance m_int m_bool
  have d_is_vertex := ok_is_vertex (P := l.prog) (w := w) (base := base) M_is_vertex d_is_plain_int
  have d_leads_to_root := ok_leadA (P := l.prog) (w := w) (base := base) M_leads_to_root m_len m_range
  have d_forest_error := ok_ferrA (P := l.prog) (w := w) (base := base) M_forest_error d_is_vertex d_leads_to_root g_MAX_VERTICES m_enumerate m_isinstance m_len m_range m_tuple
  have d_is_number_text := ok_numA (P := l.prog) (w := w) (base := base) M_is_number_text m_len
  have d_is_vertex_text := ok_vtA (P := l.prog) (w := w) (base := base) M_is_vertex_text d_is_number_text g_MAX_VERTICES m_int m_len m_str
  have d_check_string := ok_chkS (P := l.prog) (w := w) (base := base) M_check_string m_isinstance m_str
  have d_parse_forest := ok_pF (P := l.prog) (w := w) (base := base) M_parse_forest d_check_string d_is_vertex_text d_forest_error g_MAX_VERTICES m_enumerate m_int m_tuple
  have d_parse_vertices := ok_pV (P := l.prog) (w := w) (base := base) M_parse_vertices d_check_string d_is_vertex_text g_MAX_VERTICES m_enumerate m_int m_tuple
  have d_parse_history_part := ok_pH (P := l.prog) (w := w) (base := base) M_parse_history_part d_parse_vertices
  have d_parse_certificate := ok_pC (P := l.prog) (w := w) (base := base) M_parse_certificate d_check_string d_is_vertex_text d_parse_history_part m_int
  have d__law_number := ok_lnum (P := l.prog) (w := w) (base := base) M__law_number m_int m_len
  have d__law_parts := ok_lpar (P := l.prog) (w := w) (base := base) M__law_parts d__law_number m_enumerate m_tuple
  have d__law_forest_of := ok_lfor (P := l.prog) (w := w) (base := base) M__law_forest_of d__law_parts (ok_ltopsA (P := l.prog) (w := w) (base := base) M__law_tops m_len m_range) m_isinstance m_len m_list m_range
  have d__law_vertices_of := ok_lver (P := l.prog) (w := w) (base := base) M__law_vertices_of d__law_parts
  have d__law_certificate_of := ok_lcer (P := l.prog) (w := w) (base := base) M__law_certificate_of d__law_vertices_of m_isinstance m_len m_list
  have G__law_grown := Zk.ok_grown (P := l.prog) (w := w) (base := base) F__law_grown F__law_pull B__law_pull g__law_pull F__law_item B__law_item g__law_item F__law_mixed B__law_mixed g__law_mixed F__law_tops B__law_tops g__law_tops F__law_heft B__law_heft g__law_heft m_len m_range m_list m_tuple m_sorted
  have d__law_grown := Df.of F__law_grown B__law_grown g__law_grown G__law_grown
  have G__law_wild := Zk.ok_wild (P := l.prog) (w := w) (base := base) F__law_wild F__law_pull B__law_pull g__law_pull F__law_item B__law_item g__law_item F__law_mixed B__law_mixed g__law_mixed m_len m_range m_list m_tuple m_enumerate
  have d__law_wild := Df.of F__law_wild B__law_wild g__law_wild G__law_wild
  have G__law_line := Zk.ok_line (P := l.prog) (w := w) (base := base) (mg := mg) F__law_line
  have d__law_line := Df.of F__law_line B__law_line g__law_line G__law_line
  have G__law_forest := Zk.ok_forest (P := l.prog) (w := w) (base := base) F__law_forest F__law_pull B__law_pull g__law_pull F__law_grown B__law_grown g__law_grown G__law_grown F__law_wild B__law_wild g__law_wild G__law_wild F__law_line B__law_line g__law_line m_len
  have d__law_forest := Df.of F__law_forest B__law_forest g__law_forest G__law_forest
  have X_check_string := okX_chk (P := l.prog) (w := w) (base := base) M_check_string R_BadText m_isinstance m_str
  have X_parse_forest := okX_pF (P := l.prog) (w := w) (base := base) M_parse_forest R_BadText X_check_string d_check_string d_is_vertex_text d_forest_error g_MAX_VERTICES m_enumerate m_int m_tuple
  have X_parse_vertices := okX_pV (P := l.prog) (w := w) (base := base) M_parse_vertices R_BadText X_check_string d_check_string d_is_vertex_text g_MAX_VERTICES m_enumerate m_int m_tuple
  have X_parse_history_part := okX_pH (P := l.prog) (w := w) (base := base) M_parse_history_part R_BadText ⟨⟨_, _, a_BadText, t_BadText, ok_initH (P := l.prog) (w := w) (base := base) (mg := mg) FX_BadText sc_BadText TX_BadText nb_BadText bd_BadText (.inl rfl) (.inl rfl) (by decide) (by decide), BI_BadText⟩, TX_BadText, PySem.W.mg_of X G cg_BadText⟩ exm_BadText X_parse_vertices
  have X_parse_certificate := okX_pC (P := l.prog) (w := w) (base := base) M_parse_certificate R_BadText (Df.ofN X_check_string) d_check_string d_is_vertex_text d_parse_history_part X_parse_history_part m_int
  have d__law_found := ok_lfound (P := l.prog) (w := w) (base := base) M__law_found CA (Df.ofN X_parse_forest) (Df.ofN X_parse_vertices) X_parse_certificate d_parse_forest d_parse_vertices d_parse_certificate m_isinstance m_ValueError
  have e__law_well := d__law_well.imp (fun _ _ _ _ h => h)
  have e__law_pull := fun wa la => d__law_pull.pullW wa la
  have e__law_mixed := fun wa la => d__law_mixed.mixW wa la
  have e__law_forest := fun wa la => d__law_forest.forW wa la
  have e__law_item := fun wa la => ok_litem (P := l.prog) (w := w) (base := base) M__law_item wa la (e__law_pull wa la) m_len
  have e__law_twisted := fun wa la => ok_ltwist (P := l.prog) (w := w) (base := base) M__law_twisted wa la (e__law_pull wa la) (e__law_item wa la) m_len
  exact ok_law F_law sys e__law_well e__law_pull e__law_item e__law_mixed e__law_forest e__law_twisted (Df.lf2 d__law_forest_of) (Df.lv2 d__law_vertices_of) (Df.lc2 d__law_certificate_of) d__law_found m_list m_range m_repr m_str
end Lf
open PySem PySem.W PyProof.Rows
set_option maxRecDepth 100000 in
set_option maxHeartbeats 0 in
theorem PySem.Challenge.cw_linkforests_k72_other_texts_refused_holds : PySem.Challenge.rw_linkforests_k72_other_texts_refused.Holds := by
  w_on; o_law; k_head; (case hw => w_witness2)
  k_fill
  refine Lf.walk_g (l := PySem.Challenge.rw_linkforests_k72_other_texts_refused) (n := 63) (k := 8) (x := "_law_script") (sp := Lf.spLaw) rfl (by decide) rfl ⟨rfl, by decide, by decide⟩ (by decide +kernel) (fun w h Y => PySem.W.kIn_of Y) ?F (fun _ _ a ns hl _ hS => ⟨a, ns, rfl, hS, hl, fun _ => rfl⟩)
  case F =>
    intro w mg fa h KX G xl hmg
    refine' Lf.all_mk KX G hmg ?u_aF_is_plain_int ?u_lF_is_plain_int ?u_cF_is_plain_int ?u_kF_is_plain_int ?u_aF_is_vertex ?u_lF_is_vertex ?u_cF_is_vertex ?u_kF_is_vertex ?u_aF_leads_to_root ?u_lF_leads_to_root ?u_cF_leads_to_root ?u_kF_leads_to_root ?u_aF_forest_error ?u_lF_forest_error ?u_cF_forest_error ?u_kF_forest_error ?u_aF_is_number_text ?u_lF_is_number_text ?u_cF_is_number_text ?u_kF_is_number_text ?u_aF_is_vertex_text ?u_lF_is_vertex_text ?u_cF_is_vertex_text ?u_kF_is_vertex_text ?u_aF_check_string ?u_lF_check_string ?u_cF_check_string ?u_kF_check_string ?u_aF_parse_forest ?u_lF_parse_forest ?u_cF_parse_forest ?u_kF_parse_forest ?u_aF_parse_vertices ?u_lF_parse_vertices ?u_cF_parse_vertices ?u_kF_parse_vertices ?u_aF_parse_certificate ?u_lF_parse_certificate ?u_cF_parse_certificate ?u_kF_parse_certificate ?u_aF_parse_history_part ?u_lF_parse_history_part ?u_cF_parse_history_part ?u_kF_parse_history_part ?u_aF__law_well ?u_lF__law_well ?u_cF__law_well ?u_kF__law_well ?u_aF__law_pull ?u_lF__law_pull ?u_cF__law_pull ?u_kF__law_pull ?u_aF__law_item ?u_lF__law_item ?u_cF__law_item ?u_kF__law_item ?u_aF__law_mixed ?u_lF__law_mixed ?u_cF__law_mixed ?u_kF__law_mixed ?u_aF__law_tops ?u_lF__law_tops ?u_cF__law_tops ?u_kF__law_tops ?u_aF__law_heft ?u_lF__law_heft ?u_cF__law_heft ?u_kF__law_heft ?u_aF__law_grown ?u_lF__law_grown ?u_cF__law_grown ?u_kF__law_grown ?u_aF__law_wild ?u_lF__law_wild ?u_cF__law_wild ?u_kF__law_wild ?u_aF__law_line ?u_lF__law_line ?u_cF__law_line ?u_kF__law_line ?u_aF__law_forest ?u_lF__law_forest ?u_cF__law_forest ?u_kF__law_forest ?u_aF__law_number ?u_lF__law_number ?u_cF__law_number ?u_kF__law_number ?u_aF__law_parts ?u_lF__law_parts ?u_cF__law_parts ?u_kF__law_parts ?u_aF__law_forest_of ?u_lF__law_forest_of ?u_cF__law_forest_of ?u_kF__law_forest_of ?u_aF__law_vertices_of ?u_lF__law_vertices_of ?u_cF__law_vertices_of ?u_kF__law_vertices_of ?u_aF__law_certificate_of ?u_lF__law_certificate_of ?u_cF__law_certificate_of ?u_kF__law_certificate_of ?u_aF__law_found ?u_lF__law_found ?u_cF__law_found ?u_kF__law_found ?u_aF__law_twisted ?u_lF__law_twisted ?u_cF__law_twisted ?u_kF__law_twisted ?u_aF_law ?u_lF_law ?u_cF_law ?u_kF_law ?u_z_ValueError ?u_z_abs ?u_z_bool ?u_z_enumerate ?u_z_int ?u_z_isinstance ?u_z_len ?u_z_list ?u_z_range ?u_z_repr ?u_z_sorted ?u_z_str ?u_z_tuple ?u_cg_BadText ?u_cg_LinkError ?u_cg_BadJoin ?u_cg_NoIndex ?u_cg_Rejected ?u_xL_BadText ?u_hb_BadText ?u_sa_BadText ?u_nb_BadText ?u_a_BadText ?u_t_BadText ?u_l_BadText ?u_c_BadText ?u_k_BadText ?u_eC_BadText ?u_tC_BadText ?u_kC_BadText ?u_big_CA ?u_gc_MAX_VERTICES ?u_exm_BadText
    (case u_aF_is_plain_int => k_is)
    (case u_lF_is_plain_int => k_is)
    (case u_cF_is_plain_int => k_is)
    (case u_kF_is_plain_int => k_is)
    (case u_aF_is_vertex => k_is)
    (case u_lF_is_vertex => k_is)
    (case u_cF_is_vertex => k_is)
    (case u_kF_is_vertex => k_is)
    (case u_aF_leads_to_root => k_is)
    (case u_lF_leads_to_root => k_is)
    (case u_cF_leads_to_root => k_is)
    (case u_kF_leads_to_root => k_is)
    (case u_aF_forest_error => k_is)
    (case u_lF_forest_error => k_is)
    (case u_cF_forest_error => k_is)
    (case u_kF_forest_error => k_is)
    (case u_aF_is_number_text => k_is)
    (case u_lF_is_number_text => k_is)
    (case u_cF_is_number_text => k_is)
    (case u_kF_is_number_text => k_is)
    (case u_aF_is_vertex_text => k_is)
    (case u_lF_is_vertex_text => k_is)
    (case u_cF_is_vertex_text => k_is)
    (case u_kF_is_vertex_text => k_is)
    (case u_aF_check_string => k_is)
    (case u_lF_check_string => k_is)
    (case u_cF_check_string => k_is)
    (case u_kF_check_string => k_is)
    (case u_aF_parse_forest => k_is)
    (case u_lF_parse_forest => k_is)
    (case u_cF_parse_forest => k_is)
    (case u_kF_parse_forest => k_is)
    (case u_aF_parse_vertices => k_is)
    (case u_lF_parse_vertices => k_is)
    (case u_cF_parse_vertices => k_is)
    (case u_kF_parse_vertices => k_is)
    (case u_aF_parse_certificate => k_is)
    (case u_lF_parse_certificate => k_is)
    (case u_cF_parse_certificate => k_is)
    (case u_kF_parse_certificate => k_is)
    (case u_aF_parse_history_part => k_is)
    (case u_lF_parse_history_part => k_is)
    (case u_cF_parse_history_part => k_is)
    (case u_kF_parse_history_part => k_is)
    (case u_aF__law_well => k_is)
    (case u_lF__law_well => k_is)
    (case u_cF__law_well => k_is)
    (case u_kF__law_well => k_is)
    (case u_aF__law_pull => k_is)
    (case u_lF__law_pull => k_is)
    (case u_cF__law_pull => k_is)
    (case u_kF__law_pull => k_is)
    (case u_aF__law_item => k_is)
    (case u_lF__law_item => k_is)
    (case u_cF__law_item => k_is)
    (case u_kF__law_item => k_is)
    (case u_aF__law_mixed => k_is)
    (case u_lF__law_mixed => k_is)
    (case u_cF__law_mixed => k_is)
    (case u_kF__law_mixed => k_is)
    (case u_aF__law_tops => k_is)
    (case u_lF__law_tops => k_is)
    (case u_cF__law_tops => k_is)
    (case u_kF__law_tops => k_is)
    (case u_aF__law_heft => k_is)
    (case u_lF__law_heft => k_is)
    (case u_cF__law_heft => k_is)
    (case u_kF__law_heft => k_is)
    (case u_aF__law_grown => k_is)
    (case u_lF__law_grown => k_is)
    (case u_cF__law_grown => k_is)
    (case u_kF__law_grown => k_is)
    (case u_aF__law_wild => k_is)
    (case u_lF__law_wild => k_is)
    (case u_cF__law_wild => k_is)
    (case u_kF__law_wild => k_is)
    (case u_aF__law_line => k_is)
    (case u_lF__law_line => k_is)
    (case u_cF__law_line => k_is)
    (case u_kF__law_line => k_is)
    (case u_aF__law_forest => k_is)
    (case u_lF__law_forest => k_is)
    (case u_cF__law_forest => k_is)
    (case u_kF__law_forest => k_is)
    (case u_aF__law_number => k_is)
    (case u_lF__law_number => k_is)
    (case u_cF__law_number => k_is)
    (case u_kF__law_number => k_is)
    (case u_aF__law_parts => k_is)
    (case u_lF__law_parts => k_is)
    (case u_cF__law_parts => k_is)
    (case u_kF__law_parts => k_is)
    (case u_aF__law_forest_of => k_is)
    (case u_lF__law_forest_of => k_is)
    (case u_cF__law_forest_of => k_is)
    (case u_kF__law_forest_of => k_is)
    (case u_aF__law_vertices_of => k_is)
    (case u_lF__law_vertices_of => k_is)
    (case u_cF__law_vertices_of => k_is)
    (case u_kF__law_vertices_of => k_is)
    (case u_aF__law_certificate_of => k_is)
    (case u_lF__law_certificate_of => k_is)
    (case u_cF__law_certificate_of => k_is)
    (case u_kF__law_certificate_of => k_is)
    (case u_aF__law_found => k_is)
    (case u_lF__law_found => k_is)
    (case u_cF__law_found => k_is)
    (case u_kF__law_found => k_is)
    (case u_aF__law_twisted => k_is)
    (case u_lF__law_twisted => k_is)
    (case u_cF__law_twisted => k_is)
    (case u_kF__law_twisted => k_is)
    (case u_aF_law => k_is)
    (case u_lF_law => k_is)
    (case u_cF_law => k_is)
    (case u_kF_law => k_is)
    (case u_z_ValueError => k_is)
    (case u_z_abs => k_is)
    (case u_z_bool => k_is)
    (case u_z_enumerate => k_is)
    (case u_z_int => k_is)
    (case u_z_isinstance => k_is)
    (case u_z_len => k_is)
    (case u_z_list => k_is)
    (case u_z_range => k_is)
    (case u_z_repr => k_is)
    (case u_z_sorted => k_is)
    (case u_z_str => k_is)
    (case u_z_tuple => k_is)
    (case u_cg_BadText => k_is)
    (case u_cg_LinkError => k_is)
    (case u_cg_BadJoin => k_is)
    (case u_cg_NoIndex => k_is)
    (case u_cg_Rejected => k_is)
    (case u_xL_BadText => k_is)
    (case u_hb_BadText => rfl)
    (case u_sa_BadText => k_is)
    (case u_nb_BadText => k_is)
    (case u_a_BadText => k_is)
    (case u_t_BadText => k_is)
    (case u_l_BadText => k_is)
    (case u_c_BadText => k_is)
    (case u_k_BadText => k_is)
    (case u_eC_BadText => k_is)
    (case u_tC_BadText => k_is)
    (case u_kC_BadText => k_is)
    (case u_big_CA => kernel_rfl)
    (case u_gc_MAX_VERTICES => k_is)
    (case u_exm_BadText => kernel_rfl)
