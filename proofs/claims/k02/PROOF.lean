import PyProof.Rows.All
import Wide.All
import OpenK.AllK
import Wide.FinOn
import HandS.ForMost
import HandS.Exc
import HandS.ExcInit
import HandS.ExcIs
import HandS.IsInst
import HandS.MakeKw
import HandS.MakeKwOnly
import KE.KEqSeq
import KE.KIsAll
import KE.KTryMore
import HandS.WordsExc
import HandS.ExcOwn
import HandS.ExcValue
import HandS.DictComp
import KE.KDictDisplayH
import KE.KDictWalk
import PyProof.EqKinds
import KE.KEqDict
import HandS.OwnEq
import HandS.More
import PyProof.InstEq
import HandS.New0
import HandS.Style
import HandS.Walk
import HandS.NoneIn
import HandS.Sort
import PySem.Challenge.RW_sumdigits_k02_papers_made
set_option Elab.async false
set_option linter.all false
set_option maxRecDepth 100000
set_option maxHeartbeats 4000000
namespace Gd
open PySem PySem.Spec PyProof.Rows L2
/-! A promise that is kept where no repr is under way (A.guards = some []). -/
structure FnG (P : Program) (w : World) (K : PySem.W.Frag) (mg : Str → Option Value) (base : Heap) (CX : CXT) (k : Nat) (f : Addr) (fd : FuncData) (ps : List Str) (sp : Sp) : Prop where
  len : ∀ vs H Q E, sp vs H Q E → vs.length = ps.length
  run : ∀ (A : Around) (outer : List Env) (s : Shared) (H : Hp) (args : Args) (us : List Value) (vs : List V) (Q : VK) (E : XK), A.guards = some [] → Room k A → Env0 P w K mg base A outer s H →
    BindsTo s fd args (ps.zip us) → Vals vs us → sp vs H Q E → codeAny (model P w) A (.call (.ref f) args) (CR CX outer P w H s Q E) s
theorem deeper_guards {A : Around} {env : Env} (h : A.guards = some []) : (A.deeper env).guards = some [] := h
section
variable {P : Program} {w : World} {K : PySem.W.Frag} {mg : Str → Option Value} {base : Heap} {CX : CXT}
theorem fnG_of {x qual : Str} {st : Stmt} {f : Addr} {fd : FuncData} {N ps : List Str} {k : Nat} {sp : Sp} (F : Fun K x qual st f fd) (S : FnScope N ps (defScope st))
    (len : ∀ vs H Q E, sp vs H Q E → vs.length = ps.length)
    (body : ∀ (cdv : Value) (A : Around) (outer : List Env) (s : Shared) (H : Hp) (vs : List V) (Q : VK) (E : XK), A.guards = some [] → Room k (A.deeper (envOfC qual (defScope st) s.heap.objs.size f cdv)) → sp vs H Q E →
      ∃ t, PSs (cxOf CX P w K mg base N qual (defScope st) f cdv A outer s H E) (defBody st) t ∧ t { nx := fun _ H' => Q .non H', rt := Q } (start N vs) H) : FnG P w K mg base CX (k + 1) f fd ps sp := by
  obtain ⟨oc, od, kV, doc, pm, an, cdv, ct, osl, rfl, lk, hcd⟩ := F.ex
  constructor
  · exact len
  · intro A outer s H args us vs Q E hG hr e0 hb r hsp
    obtain ⟨t, ht, hq⟩ := body cdv A outer s H vs Q E hG (hr.deeper _) hsp
    have KX : K.In s.heap := e0.mod.kin.keeps fun b o e => (e0.bs b o e).1
    have places : ∀ y ∈ ps.zip us, (defScope st).names.lookup y.1 = some .local ∨ ((defScope st).names.lookup y.1 = some .cell ∧ ((cellsFrom (s.heap.objs.size + 1) (defScope st).names []).lookup y.1).isSome = true) := by
      rintro ⟨n, v⟩ hy
      cases S.par n (List.of_mem_zip hy).1 with
      | inl q => exact .inl q
      | inr q => exact .inr ⟨q, PySem.W.cellsFrom_some _ _ _ (.inl q)⟩
    apply codeAny_call_function hr.depth (KX _ _ lk) rfl S.co S.gen rfl (PySem.W.codeRec_of KX hcd)
    apply hb
    apply wpAny_newFunctionEnv_cells S.kind places
    intro env he s1 x
    subst he
    refine ⟨(e0.mod.nolimit.keeps fun b o e => (e0.bs b o e).1).keeps x.toInCall.keep, codeAny_func ?_⟩
    have I := inv_start (CX := CX) (E := E) S hr.hd e0 (len _ _ _ _ hsp) r x
    apply wpAny_mono (ht.run [] s1 (start N vs) H _ I hq)
    · intro fl s' hs
      cases fl with
      | ret u =>
        obtain ⟨v, σ', H', J, rv, q⟩ := hs
        exact ⟨v, H', J.os, J.bare, J.base, J.hok, rv, q⟩
      | next =>
        obtain ⟨σ', H', J, q⟩ := hs
        exact ⟨.non, H', J.os, J.bare, J.base, J.hok, rfl, q⟩
      | brk => exact (hs.choose_spec.choose_spec.2 : False).elim
      | cont => exact (hs.choose_spec.choose_spec.2 : False).elim
    · intro e s' hs
      exact hs
/-- in the form of the layer's own rule -/
theorem Fun.okG {x qual : Str} {st : Stmt} {f : Addr} {fd : FuncData} {N ps : List Str} {k : Nat} {sp : Sp} (F : Fun K x qual st f fd) (S : FnScope N ps (defScope st)) (len : ∀ vs H Q E, sp vs H Q E → vs.length = ps.length)
    (body : ∀ (cdv : Value) (A : Around) (outer : List Env) (s : Shared) (H : Hp) (vs : List V) (Q : VK) (E : XK), A.guards = some [] → Room k (A.deeper (envOfC qual (defScope st) s.heap.objs.size f cdv)) → sp vs H Q E →
      ∃ t, PSs (cxOf CX0 P w K mg base N qual (defScope st) f cdv A outer s H E).nox (defBody st) t ∧ t { nx := fun _ H' => Q .non H', rt := Q } (start N vs) H) : FnG P w K mg base CX0 (k + 1) f fd ps sp :=
  fnG_of F S len fun cdv A outer s H vs Q E hG hr hsp => by
    obtain ⟨t, h, q⟩ := body cdv A outer s H vs Q E hG hr hsp
    exact ⟨t, h.nox, q⟩
end

/-! ### the law itself, called at the outermost place -/
section
variable {P : Program} {w : World} {K : PySem.W.Frag} {mg mb : Str → Option Value} {CX : CXT} {k : Nat} {fa a : Addr} {fd : FuncData} {x : Str} {sp : Sp} {s : Shared} {vs : List Value} {ns : List Int}
/-- where at most the script's list is tracked, and no written thing is -/
structure Lone (K : PySem.W.Frag) (H : Hp) (a : Addr) : Prop where
  only : Only H
  just : ∀ b u, H b = some u → b = a
  free : ∀ u, H a = some u → K.lookup a = none
theorem Lone.base {H : Hp} (L : Lone K H a) (KX : K.In s.heap) : K.In (hidT s.heap H) := by
  intro b o e
  apply hidT_get (KX b o e)
  match q : H b with
  | none => rfl
  | some u =>
    have eb := L.just b u q
    subst eb
    rw [L.free u q] at e
    exact nomatch e
theorem Lone.names {H : Hp} (L : Lone K H a) {o : Obj} (ha : s.heap.get? a = some o) (hd : ∀ es ep, o.data ≠ .dict es ep) {b : Addr} {m : Str → Option Value} (h : s.heap.Ns b m) : (hidT s.heap H).Ns b m := by
  obtain ⟨ob, es, ep, e, d, r⟩ := h
  refine ⟨ob, es, ep, hidT_get e ?_, d, r⟩
  match q : H b with
  | none => rfl
  | some u =>
    have eb := L.just b u q
    subst eb
    rw [ha] at e
    exact (hd es ep (Option.some.inj e ▸ d)).elim
theorem law_at (KX : K.In s.heap) (hns : s.heap.Ns mainGlobals mg) (hb : s.heap.Ns builtinsNs mb) (hbb : ∀ x : Str, x ≠ "__name__" → mb x = bootBuiltins x) (hlim : s.heap.NoLimit) (hg : s.gens = #[])
    (ha : s.heap.get? a = some { cls := .type "list", data := .seq vs.toArray }) (hr : Room k callerA)
    (F : ∀ base : Heap, K.In base → base.Ns mainGlobals mg → FnG P w K mg base CX k fa fd [x] sp) (hbind : ∀ (s : Shared) (u : Value), BindsTo s fd ⟨[u], []⟩ [(x, u)])
    (hCX : ∀ H e s', CX [] H s (fun _ _ _ => False) e s' → False) {H : Hp} (L : Lone K H a) (hok : HOk P w H s.heap) (hsp : sp [.ref a] H (fun v _ => v = .bl true) fun _ _ _ => False) :
    codeAny (model P w) callerA (.call (.ref fa) ⟨[.ref a], []⟩) (fun r s' => r = .ok (.ret (.bool true)) ∧ OldK s.heap s'.heap ∧ s'.os = s.os ∧ AllBare s'.gens) s := by
  have nd : ∀ (es : Array DictEntry) (ep : Nat), ({ cls := .type "list", data := .seq vs.toArray } : Obj).data ≠ .dict es ep := fun es ep z => nomatch z
  have KB := L.base KX
  have NB := L.names ha nd hns
  have lim : (hidT s.heap H).NoLimit := by
    obtain ⟨m, h1, h2⟩ := hlim
    exact ⟨m, L.names ha nd h1, h2⟩
  have none_in : ∀ b : Addr, b ∉ frs ([] : List Env) := fun b z => nomatch (show b ∈ ([] : List Addr) from z)
  have e0 : Env0 P w K mg (hidT s.heap H) callerA [] s H :=
    { frames := rfl, mod := ⟨KB, NB, ⟨mb, L.names ha nd hb, hbb⟩, lim⟩, bs := fun _ _ e => of_hidT e, bsz := Nat.le_of_eq (hidT_size _ _), funs := trivial, frf := fun b z => absurd z (none_in b), hok := hok, bare := .of_eq hg }
  have go := (F _ KB NB).run callerA [] s H ⟨[.ref a], []⟩ [.ref a] [.ref a] _ _ rfl hr e0 (hbind s (.ref a)) (.cons rfl .nil) hsp
  apply codeAny_mono go
  intro r s' h
  match r, h with
  | .error e, h => exact (hCX H e s' h).elim
  | .ok (.ret u), ⟨v, H', os, bare, un, hok', rv, q⟩ =>
    cases (show v = V.bl true from q)
    cases (show u = Value.bool true from rv)
    refine ⟨rfl, OldK.of_keep fun b o e => ?_, os, bare⟩
    cases L.only b with
    | inl n => exact un.keep b o e n (none_in b) (fun z => nomatch z)
    | inr z =>
      obtain ⟨ob, xs, z⟩ := z
      have e1 : s.heap.get? b = some ob := (show ObjOk P w H s.heap b (.frz ob (.lst xs)) from hok b _ z).1
      have e2 : s'.heap.get? b = some ob := (show ObjOk P w H' s'.heap b (.frz ob (.lst xs)) from hok' b _ (un.frzs b ob _ z)).1
      rw [e1] at e
      rw [e2, ← Option.some.inj e]
  | .ok .next, h => exact (h : False).elim
  | .ok .brk, h => exact (h : False).elim
  | .ok .cont, h => exact (h : False).elim
end
open Classical in
theorem walk_at {l : PySem.W.OpenLaw} {n k : Nat} {q : Program} {loose : List Str} {XP : (Str → Option Value) → Heap → Prop} {YP : World → Heap → Prop} {d : DefRec} {K : Params → PySem.W.Frag} {CX : CXT} {sp : PySem.W.Frag → Sp} {x : Str}
    (hn : l.most = some n) (hn2 : n ≤ sizeLine) (hdf : d.params.defaults = []) (hr : Room k callerA) (hY : ∀ (w : World) (h : Heap), YP w h → (K w.params).In h)
    (F : ∀ (w : World) (mg : Str → Option Value) (fa : Addr) (h : Heap), (K w.params).In h → h.Ns mainGlobals mg → mg d.name = some (.ref fa) →
      ∃ fd : FuncData, (∀ (s : Shared) (u : Value), BindsTo s fd ⟨[u], []⟩ [(x, u)]) ∧
        ∀ base : Heap, (K w.params).In base → base.Ns mainGlobals mg → FnG l.prog w (K w.params) mg base CX k fa fd [x] (sp (K w.params)))
    (hsp : ∀ (K : PySem.W.Frag) (H : Hp) (a : Addr) (ns : List Int), ns.length ≤ n → SqL K H a (ns.map V.int) → sp K [.ref a] H (fun v _ => v = .bl true) fun _ _ _ => False)
    (hCX : ∀ (H : Hp) (s : Shared) (e : Value) (s' : Shared), CX [] H s (fun _ _ _ => False) e s' → False) :
    PySem.W.WalkO q loose XP YP l.row.toRowW d [] (fun f vs => PySem.call f vs) := by
  refine Att.attach_call hn hdf fun w s₀ s₁ mg mb fa o pm cd doc a vs ns G Y ho hd hcd hmg hobj hints hlen hg => ?_
  have KX := hY w _ Y
  obtain ⟨fd, hb, hF⟩ := F w mg fa _ KX G.T.g hmg
  have rv := vals_ints hints
  have lv : vs.length = ns.length := hints.length
  by_cases hk : (K w.params).lookup a = none
  · let sc : HO := .frz { cls := .type "list", data := .seq vs.toArray } (.lst (ns.map V.int))
    have at_a : ∀ {b : Addr} {u : HO}, (if b = a then some sc else none) = some u → b = a ∧ u = sc := by
      intro b u z
      by_cases e : b = a
      · rw [if_pos e] at z
        exact ⟨e, (Option.some.inj z).symm⟩
      · rw [if_neg e] at z
        exact nomatch z
    refine law_at KX G.T.g G.T.b G.T.builtins G.T.nolimit hg hobj hr hF hb (fun H e s' => hCX H s₁ e s') (H := fun b => if b = a then some sc else none) ⟨fun b => ?_, fun b u z => (at_a z).1, fun u z => hk⟩ (fun b u z => ?_) (hsp _ _ a ns hlen (.inl (.inr ⟨_, if_pos rfl⟩)))
    · by_cases e : b = a
      · exact .inr ⟨_, _, if_pos e⟩
      · exact .inl (if_neg e)
    · obtain ⟨e1, e2⟩ := at_a z
      subst e1 e2
      exact ⟨hobj, by rw [List.length_map]; omega, vs, _, rv, hobj⟩
  · obtain ⟨ob, hk⟩ := Option.ne_none_iff_exists'.mp hk
    have e := KX a ob hk
    rw [hobj] at e
    cases e
    have no : ∀ {u : HO}, (none : Option HO) = some u → False := fun z => nomatch z
    exact law_at KX G.T.g G.T.b G.T.builtins G.T.nolimit hg hobj hr hF hb (fun H e s' => hCX H s₁ e s') (H := fun _ => none) ⟨fun b => .inl rfl, fun b u z => (no z).elim, fun u z => (no z).elim⟩ (fun b u z => (no z).elim)
      (hsp _ _ a ns hlen (.inr ⟨_, vs.toArray, _, hk, rfl, rfl, rfl, by rw [List.size_toArray]; omega, by simpa using rv⟩))
end Gd
namespace Gd
open PySem PySem.Spec PyProof.Rows L2
/-! ### repr of data of small depth, dicts among them -/
def Sc : V → PyData → Prop
  | .non, .none => True
  | .bl b, .bool c => b = c
  | .int i, .int j => i = j
  | .str x, .str y => x = y
  | _, _ => False
/-- of depth n at most, v is data d; with true tuples alone -/
def Dq (H : Hp) : Nat → Bool → V → PyData → Prop
  | 0, _, v, d => Sc v d
  | n + 1, b, v, d => Sc v d ∨ (b = false ∧ ∃ (a : Addr) (xs : List V) (ds : List PyData), v = .ref a ∧ d = .list ds ∧ H a = some (.lst xs) ∧ Paired (Dq H n b) xs ds ∧ xs.length ≤ 100) ∨
      (∃ (a : Addr) (xs : List V) (ds : List PyData), v = .ref a ∧ d = .tuple ds ∧ H a = some (.tup xs) ∧ Paired (Dq H n b) xs ds ∧ xs.length ≤ 100) ∨
      (b = false ∧ ∃ (a : Addr) (kvs : List (Key × V)) (kds : List (PyData × PyData)), v = .ref a ∧ d = .dict kds ∧ H a = some (.dK kvs) ∧ Paired (fun (p : Key × V) (q : PyData × PyData) => Sc (kV p.1) q.1 ∧ Dq H n true p.2 q.2) kvs kds ∧ kvs.length ≤ 100 ∧ (kvs.map (·.1)).Nodup)
/-- things that hold nothing -/
def flat : PyData → Bool
  | .none => true
  | .bool _ => true
  | .int _ => true
  | .str _ => true
  | _ => false
/-- data whose lists and tuples hold flat things alone -/
def nice : PyData → Bool
  | .list ds => ds.all flat
  | .tuple ds => ds.all flat
  | .dict _ => true
  | _ => true
theorem flat_noDict : ∀ {ds : List PyData}, ds.all flat = true → PyData.hasDictAll ds = false
  | [], _ => rfl
  | d :: ds, h => by
    rw [List.all_cons, Bool.and_eq_true] at h
    rw [PyData.hasDictAll, flat_noDict h.2]
    cases d <;> first | rfl | (exact absurd h.1 (by decide)) | (exact nomatch h.1)
theorem sc_reads {h : Heap} : ∀ {v : V} {d : PyData} {u : Value}, Sc v d → RelV v u → Reads h u d []
  | .non, .none, u, _, r => by cases (show u = Value.none from r); exact .none
  | .bl b, .bool c, u, e, r => by cases (show u = Value.bool b from r); cases (show b = c from e); exact .bool b
  | .int i, .int j, u, e, r => by obtain ⟨t, q⟩ := (show ∃ t, u = Value.int i t from r); cases q; cases (show i = j from e); exact .int i t
  | .str x, .str y, u, e, r => by obtain ⟨t, q⟩ := (show ∃ t, u = Value.str x t from r); cases q; cases (show x = y from e); exact .str x t
theorem readsAll_of {h : Heap} {R : V → PyData → Prop} {Z : List Addr → Prop} (z0 : Z []) (za : ∀ as bs, Z as → Z bs → Z (as ++ bs)) (f : ∀ v d u, R v d → RelV v u → ∃ as, Reads h u d as ∧ Z as) : ∀ {vs : List V} {ds : List PyData} {us : List Value}, Paired R vs ds → Vals vs us → ∃ as, ReadsAll h us ds as ∧ Z as
  | _, _, _, .nil, .nil => ⟨[], .nil, z0⟩
  | _, _, _, .cons r1 r2, .cons q1 q2 => by
    obtain ⟨as, x, n⟩ := f _ _ _ r1 q1
    obtain ⟨bs, y, m⟩ := readsAll_of z0 za f r2 q2
    exact ⟨_, .cons x y, za _ _ n m⟩
theorem key_reads {h : Heap} {k : Key} {d : PyData} {u : Value} (e : Sc (kV k) d) (q : keyIs k u = true) : Reads h u d [] := by
  rcases keyIs_shape q with ⟨i, t, rfl, rfl⟩ | ⟨x, t, rfl, rfl⟩
  · exact sc_reads e ⟨t, rfl⟩
  · exact sc_reads e ⟨t, rfl⟩
theorem pairs_reads {P : Program} {w : World} {h : Heap} {R : V → PyData → Prop} (f : ∀ v d u, R v d → RelV v u → ∃ as, Reads h u d as ∧ as = []) : ∀ {es : List DictEntry} {vs : List (Key × Value)} {kvs : List (Key × V)} {kds : List (PyData × PyData)},
    Pairs (mixKind P w) es vs → KV kvs vs → Paired (fun (p : Key × V) (q : PyData × PyData) => Sc (kV p.1) q.1 ∧ R p.2 q.2) kvs kds → ReadsAll h (es.map (·.key)) (kds.map (·.1)) [] ∧ ReadsAll h (es.map (·.val)) (kds.map (·.2)) []
  | _, _, _, _, .nil, .nil, .nil => ⟨.nil, .nil⟩
  | _, _, _, _, .cons k1 k2 k3, .cons r1 r2, .cons q1 q2 => by
    obtain ⟨x, y⟩ := pairs_reads f k3 r2 q2
    obtain ⟨e1, e2⟩ := r1
    obtain ⟨cs, z, ec⟩ := f _ _ _ q1.2 e2
    subst ec
    exact ⟨.cons (as := []) (key_reads (k := _) q1.1 (by rw [e1]; exact k1)) x, .cons (as := []) (by dsimp only; rw [k2]; exact z) y⟩
section
variable {X : Cx} {pins : List (Addr × Obj)} {σ : L2.St} {H : Hp} {s : Shared}
theorem dq_reads (I : Inv X pins σ H s) : ∀ (n : Nat) (b : Bool) (v : V) (d : PyData) (u : Value), Dq H n b v d → RelV v u → ∃ as, Reads s.heap u d as ∧ (b = true → as = [])
  | 0, b, v, d, u, e, r => ⟨[], sc_reads e r, fun _ => rfl⟩
  | n + 1, b, v, d, u, e, r => by
    have ih := fun b v d u => dq_reads I n b v d u
    have za : ∀ (b : Bool) (as bs : List Addr), (b = true → as = []) → (b = true → bs = []) → b = true → as ++ bs = [] := fun b as bs h1 h2 e => by rw [h1 e, h2 e]; rfl
    rcases e with e | ⟨e0, a, xs, ds, rfl, rfl, ha, hp, _⟩ | ⟨a, xs, ds, rfl, rfl, ha, hp, _⟩ | ⟨e0, a, kvs, kds, rfl, rfl, ha, hp, _⟩
    · exact ⟨[], sc_reads e r, fun _ => rfl⟩
    · cases (show u = Value.ref a from r)
      obtain ⟨_, its, m, rv, hg⟩ := (show ObjOk X.prog X.w H s.heap a (.lst xs) from I.hok a _ ha)
      obtain ⟨as, x, o⟩ := readsAll_of (fun _ => rfl) (za b) (ih b) hp rv
      exact ⟨_, .list hg rfl rfl x, fun z => by rw [e0] at z; cases z⟩
    · cases (show u = Value.ref a from r)
      obtain ⟨_, its, rv, ob, hg, hc, m, hd⟩ := (show ObjOk X.prog X.w H s.heap a (.tup xs) from I.hok a _ ha)
      obtain ⟨as, x, o⟩ := readsAll_of (fun _ => rfl) (za b) (ih b) hp rv
      exact ⟨_, .tuple hg hc hd x, o⟩
    · cases (show u = Value.ref a from r)
      obtain ⟨_, hs, vs, kv, ob, es, ep, hg, hx, hd, _, hpr, _⟩ := (show ObjOk X.prog X.w H s.heap a (.dK kvs) from I.hok a _ ha)
      obtain ⟨x, y⟩ := pairs_reads (fun v d u q r => let ⟨as, z, e⟩ := ih true v d u q r; ⟨as, z, e rfl⟩) hpr kv hp
      exact ⟨_, .dict hg hx.1 hd x y, fun z => by rw [e0] at z; cases z⟩
/-- nice data: no place of sys.modules among the dicts -/
theorem dq_nice (I : Inv X pins σ H s) {n : Nat} {v : V} {d : PyData} {u : Value} (hn : nice d = true) (e : Dq H n false v d) (r : RelV v u) : ∃ as, Reads s.heap u d as ∧ (d.hasDict = true → sysModules ∉ as) := by
  match n, e with
  | 0, e => exact ⟨[], sc_reads e r, fun _ z => nomatch z⟩
  | n + 1, e =>
    have gen := dq_reads I (n + 1) false v d u e r
    rcases e with e | ⟨e0, a, xs, ds, rfl, rfl, ha, hp, _⟩ | ⟨a, xs, ds, rfl, rfl, ha, hp, _⟩ | ⟨e0, a, kvs, kds, rfl, rfl, ha, hp, _⟩
    · exact ⟨[], sc_reads e r, fun _ z => nomatch z⟩
    · obtain ⟨as, x, _⟩ := gen
      exact ⟨as, x, fun z => by rw [PyData.hasDict, flat_noDict hn] at z; cases z⟩
    · obtain ⟨as, x, _⟩ := gen
      exact ⟨as, x, fun z => by rw [PyData.hasDict, flat_noDict hn] at z; cases z⟩
    · cases (show u = Value.ref a from r)
      obtain ⟨_, hs, vs, kv, ob, es, ep, hg, hx, hd, _, hpr, _⟩ := (show ObjOk X.prog X.w H s.heap a (.dK kvs) from I.hok a _ ha)
      obtain ⟨x, y⟩ := pairs_reads (fun v d u q r => let ⟨as, z, e⟩ := dq_reads I n true v d u q r; ⟨as, z, e rfl⟩) hpr kv hp
      refine ⟨_, .dict hg hx.1 hd x y, fun _ z => ?_⟩
      rcases List.mem_cons.mp z with z | z
      · rw [← z] at hs
        exact absurd hs (by decide)
      · exact nomatch z
/-- the parts of a list of nice data, each by itself -/
theorem parts_shown {P : Program} {w : World} {h : Heap} : ∀ {us : List Value} {ds : List PyData} {as : List Addr}, ReadsAll h us ds as → (∀ (i : Nat) (u : Value) (d : PyData), us[i]? = some u → ds[i]? = some d → ∃ bs, Reads h u d bs ∧ (d.hasDict = true → sysModules ∉ bs)) →
    (∀ d ∈ ds, d.showable = true ∧ d.shown.length ≤ sizeLine) → ∃ bs, ReadAtMost h (PyData.depthAll ds) bs ∧ ReprAllK P w bs h (PyData.depthAll ds) us (PyData.shownAll ds)
  | [], [], _, .nil, _, _ => ⟨[], (fun _ z => nomatch z), ReprAllK.nil⟩
  | u :: us, d :: ds, _, .cons r rs, f, g => by
    obtain ⟨as1, r1, h1⟩ := f 0 u d rfl rfl
    obtain ⟨g1, g2⟩ := g d (List.mem_cons_self ..)
    obtain ⟨b1, m1, k1⟩ := ReprK.of_reads (prog := P) (w := w) r1 g1 h1 g2
    obtain ⟨b2, m2, k2⟩ := parts_shown (P := P) (w := w) rs (fun i u d e1 e2 => f (i + 1) u d e1 e2) (fun d hd => g d (List.mem_cons_of_mem _ hd))
    have l1 : d.depth ≤ PyData.depthAll (d :: ds) := by rw [PyData.depthAll]; exact Nat.le_max_left _ _
    have l2 : PyData.depthAll ds ≤ PyData.depthAll (d :: ds) := by rw [PyData.depthAll]; exact Nat.le_max_right _ _
    refine ⟨b1 ++ b2, (m1.mono l1).append (m2.mono l2), ?_⟩
    rw [PyData.shownAll]
    exact .cons ((k1.more fun b q => List.mem_append_left _ q).level_le l1) (k2.more_le (fun b q => List.mem_append_right _ q) l2)
/-- repr(x), x nice data or a list of such -/
def rRepr : List V → Hp → VK → Prop := fun xs H Q => ∃ (n : Nat) (x : V) (d : PyData), xs = [x] ∧ Dq H n false x d ∧ (nice d = true ∨ ∃ ds, d = .list ds ∧ ds ≠ [] ∧ ∀ e ∈ ds, nice e = true ∧ e.showable = true ∧ e.shown.length ≤ sizeLine) ∧ d.showable = true ∧ d.shown.length ≤ sizeLine ∧ d.depth ≤ 60 ∧ Q (.str d.shown) H
theorem call_repr (hG : X.A.guards = some []) (hu : X.A.units + 64 < cLine) : CallR X (.builtin "repr") rRepr := by
  intro pins s σ H xs us Q I r h
  obtain ⟨n, x, d, rfl, hd, hc, hs, hz, hp, q⟩ := h
  cases r with
  | cons r1 r2 =>
    cases r2
    rename_i u
    have out : ∀ (h' : Heap) (t : Tok) (tk : Nat), (∀ b o, s.heap.get? b = some o → h'.get? b = some o) → EP X pins σ Q (.str d.shown t) { s with heap := h', toks := tk } := fun h' t tk hk => ⟨.str d.shown, H, I.kept (t' := tk) hk, ⟨t, rfl⟩, q⟩
    rcases hc with hn | ⟨ds, rfl, ne, hn⟩
    · obtain ⟨as, rd, hno⟩ := dq_nice I hn hd r1
      cases rd with
      | none => exact PySem.P.repr_of_none (out s.heap _ _ fun _ _ e => e)
      | bool b => exact PySem.P.repr_of_bool (by simpa only [PyData.shown] using out s.heap _ _ fun _ _ e => e)
      | int i t => exact PySem.P.repr_of_int (by simpa only [PyData.showable, decide_eq_true_eq] using hs) (by simpa only [PyData.shown] using out s.heap s.toks (s.toks + 1) fun _ _ e => e)
      | str z t => exact PySem.P.repr_of_str (by simpa only [PyData.shown] using out s.heap s.toks (s.toks + 1) fun _ _ e => e) (by simpa only [PyData.shown] using hz)
      | list a b c e => exact repr_of_reads' (.list a b c e) hs hno hG (by omega) (fun _ _ e => e) (fun h' t tk hk => out h' t tk hk) hz
      | tuple a b c e => exact repr_of_reads' (.tuple a b c e) hs hno hG (by omega) (fun _ _ e => e) (fun h' t tk hk => out h' t tk hk) hz
      | dict a b c e f => exact repr_of_reads' (.dict a b c e f) hs hno hG (by omega) (fun _ _ e => e) (fun h' t tk hk => out h' t tk hk) hz
    · match n, hd with
      | 0, hd => exact (show False by cases x <;> exact hd).elim
      | n + 1, hd =>
        rcases hd with e | ⟨_, a, ys, ds', rfl, e, ha, hpr, _⟩ | ⟨_, _, _, _, e, _⟩ | ⟨_, _, _, _, _, e, _⟩
        · exact (show False by cases x <;> exact e).elim
        · cases e
          cases (show u = Value.ref a from r1)
          obtain ⟨_, its, m, rv, hg⟩ := (show ObjOk X.prog X.w H s.heap a (.lst ys) from I.hok a _ ha)
          obtain ⟨as, rd, _⟩ := readsAll_of (Z := fun _ => True) True.intro (fun _ _ _ _ => True.intro) (fun v d u q r => let ⟨as, z, _⟩ := dq_reads I n false v d u q r; ⟨as, z, True.intro⟩) hpr rv
          have each : ∀ {ys : List V} {ds : List PyData} {its : List Value}, Paired (Dq H n false) ys ds → Vals ys its → (∀ e ∈ ds, nice e = true) → ∀ (i : Nat) (u : Value) (d : PyData), its[i]? = some u → ds[i]? = some d → ∃ bs, Reads s.heap u d bs ∧ (d.hasDict = true → sysModules ∉ bs) := by
            intro ys ds its p
            induction p generalizing its with
            | nil => intro _ _ i u d _ e2; simp at e2
            | cons q t ih =>
              intro rv hn i u d e1 e2
              cases rv with
              | cons w1 w2 =>
                cases i with
                | zero =>
                  cases e1
                  cases e2
                  exact dq_nice I (hn _ (List.mem_cons_self ..)) q w1
                | succ i => exact ih w2 (fun e he => hn e (List.mem_cons_of_mem _ he)) i u d (by simpa using e1) (by simpa using e2)
          obtain ⟨bs, hb, hk⟩ := parts_shown (P := X.prog) (w := X.w) rd (each hpr rv fun e he => (hn e he).1) (fun e he => (hn e he).2)
          have whole : Reads s.heap (.ref a) (.list ds) _ := .list hg rfl rfl rd
          have dp : (PyData.list ds).depth = PyData.depthAll ds + 1 := by rw [PyData.depth]
          have away : a ∉ bs := not_mem_of_deeper whole (by rw [dp]; omega) hb
          have hz2 : (listText (PyData.shownAll ds)).length ≤ sizeLine := by simpa only [PyData.shown] using hz
          have ty : s.TypeIs (.ref a) "list" := ⟨_, hg, rfl⟩
          refine call_repr_slot (by omega) ty F.slot_list_repr.toG ?_
          cases its with
          | nil =>
            cases rd
            exact absurd rfl ne
          | cons u1 its =>
            refine call_list_reprK hg rfl rfl away (by simpa using hk.length_eq) (fun i y e => hk.item i y (by simpa using e)) hG (fun b _ => Clear.nil b) (by rw [dp] at hp; show X.A.units + 1 + _ < cLine; omega) (fun _ _ e => e) (fun h' t tk hk => ?_) hz2
            refine ⟨_, _, rfl, ?_⟩
            have z := out h' t tk hk
            simpa only [PyData.shown] using z
        · cases e
        · cases e
end
end Gd
namespace Gd
open PySem PySem.Spec PyProof.Rows L2 PySem.HandSPX Builtin Builtin.ObjectAttr
/-! ### an exception class of one's own called with keywords, too -/
section
variable {prog : Program} {w : World} {A : Around} {E : Value → Shared → Prop} {R : Result → Shared → Prop} {h : Heap} {g : Array GenState} {d : Drawn} {t : Nat} {os : OsState}
variable {nm q : Str} {C N : Addr} {bs bm bmB : List Value} {hdct : Bool} {sn : List Str} {sub : List Value} {ab : Bool} {col : Option Bool} {dd : Option Addr} {k0 k1 k2 k3 k5 : Option Value} {B newId initId : String}
  {rest : List Value} {kw : List (Str × Value)}
theorem kw_check {M : Model} (F : ExcBaseFacts B newId initId bmB) (same : ∀ X : String, bm.contains (.type X) = bmB.contains (.type X)) {Q : Unit → Shared → Prop}
    (hC : h.get? C = some (excClassObj nm q C N bs bm hdct sn sub ab col dd k0 k1 k2 k3 k5 newId)) (hq : Q () ⟨h, g, d, t, os⟩) : wpAny M A (checkBuiltinCall newId ⟨.ref C :: rest, kw⟩) Q E ⟨h, g, d, t, os⟩ := by
  have below : (Value.ref C :: bm).contains (.type B) = true := by simp only [List.contains_cons, same, F.hasB, Bool.or_true]
  have star := F.noStar
  simp only [checkBuiltinCall, F.newSplit, F.newKind, F.newRow]
  repeat first
    | refine wpAny_staticBase_exc hC ?_
    | refine wpAny_madeBy_exc hC ?_
    | (refine wpAny_isSubtype_exc hC ?_; rw [below])
    | refine wpAny_loadPart_at hC ?_
    | simp only [Bool.false_eq_true, bne_self_eq_false, if_false]
    | wp_step
  exact hq
theorem kw_new (F : ExcBaseFacts B newId initId bmB) (same : ∀ X : String, bm.contains (.type X) = bmB.contains (.type X)) (hC : h.get? C = some (excClassObj nm q C N bs bm hdct sn sub ab col dd k0 k1 k2 k3 k5 newId)) (hl : rest.length ≤ sizeLine)
    (hq : R (.ok (.ret (.ref (h.objs.size + 1)))) ⟨(h.push (PySem.W.kdv_tup rest)).push (excO C h.objs.size), g, d, t, os⟩) :
    codeAny (model prog w) A (.builtin newId ⟨.ref C :: rest, kw⟩) R ⟨h, g, d, t, os⟩ := by
  have ends := F.ends
  have isB : (Value.ref C :: bm).contains (.type B) = true := by simp only [List.contains_cons, same, F.hasB, Bool.or_true]
  have notA : (Value.ref C :: bm).contains (.type "AttributeError") = false := by simp only [List.contains_cons, same, F.noAttr, Bool.or_false]; rfl
  have notN : (Value.ref C :: bm).contains (.type "NameError") = false := by simp only [List.contains_cons, same, F.noName, Bool.or_false]; rfl
  apply codeAny_builtinAt F.entry
  unfold Builtin.«BaseException.__new__»
  refine PySem.wpAt_bind ?_
  show PySem.wpAt _ _ _ (stack >>= _) _ _ _
  refine PySem.wpAt_bind ?_
  refine PySem.wpAt_stack fun p below => ?_
  apply PySem.wpAt_of_wpAny
  wp_walk
  apply PySem.wpAt_of_wpAny
  rw [F.owner]
  repeat first
    | with_reducible refine wpAny_loadPart_at hC ?_
    | with_reducible refine wpAny_madeHere_exc F.canon hC ?_
    | (with_reducible refine wpAny_isSubtype_exc hC ?_; first | rw [notN] | rw [notA] | rw [isB])
    | wp_step
  show R _ _
  rw [Heap.size_push]
  exact hq
/-- C(*rest, **kw): the new exception, then C's own __init__ over it -/
theorem kw_make (F : ExcBaseFacts B newId initId bmB) (same : ∀ X : String, bm.contains (.type X) = bmB.contains (.type X)) {fI : Addr} (hC : h.get? C = some (excClassObj nm q C N bs bm hdct sn sub ab col dd k0 k1 k2 k3 k5 newId)) (hl : rest.length ≤ sizeLine)
    (hi : PySem.W.Looks (model prog w) h (typeLookup (.ref C) "__init__") (some (.ref fI))) (hb : ∀ self, PySem.W.Looks (model prog w) h (bindSpecial (.ref fI) self) (.ref fI, [self]))
    (hq : codeAny (model prog w) (A.under (.builtin "type.__call__" ⟨.ref C :: rest, kw⟩)) (.call (.ref fI) ⟨.ref (h.objs.size + 1) :: rest, kw⟩) (PySem.W.InitBack (h.objs.size + 1) R)
      ⟨(h.push (PySem.W.kdv_tup rest)).push (excO C h.objs.size), g, d, t, os⟩) :
    codeAny (model prog w) A (.call (.ref C) ⟨rest, kw⟩) R ⟨h, g, d, t, os⟩ := by
  have f1 := tc_lookup
  have f2 := tc_bind (.ref C)
  have ty : (⟨h, g, d, t, os⟩ : Shared).TypeIs (.ref C) "type" := ⟨_, hC, rfl⟩
  have old : ∀ b o, h.get? b = some o → ((h.push (PySem.W.kdv_tup rest)).push (excO C h.objs.size)).get? b = some o := fun b o e => Heap.get?_push_of_some _ (Heap.get?_push_of_some _ e)
  have new : ((h.push (PySem.W.kdv_tup rest)).push (excO C h.objs.size)).get? (h.objs.size + 1) = some (excO C h.objs.size) := by heap_get
  have mine : (Value.ref C :: bm).contains (.ref C) = true := by simp only [List.contains_cons, beq_self_eq_true, Bool.true_or]
  apply codeAny_of_tree
  show wpAny _ _ (callAny (.ref C) _) _ _ _
  repeat any_goals first
    | assumption
    | with_reducible refine wpAny_loadPart_at hC ?_
    | wp_step
  refine ⟨rfl, ?_⟩
  apply codeAny_call_builtin_at (Code.quiet_builtin _ (by decide +kernel)) entry_typeCall
  apply wpAny_check_type_call_sub hC
  repeat first
    | with_reducible refine wpAny_madeBy_exc hC ?_
    | with_reducible refine wpAny_loadPart_at hC ?_
    | wp_step
  apply codeAny_call_builtin_code (Code.quiet_builtin _ F.quiet)
  apply kw_check F same hC
  apply kw_new F same hC hl
  show wpAny _ _ _ _ _ _
  have hC1 := old _ _ hC
  unfold isInstance
  repeat first
    | with_reducible refine wpAny_loadPart_at new ?_
    | (with_reducible refine wpAny_isSubtype_exc hC1 ?_; rw [mine])
    | wp_step
  show wpAny _ _ (typeLookup (.ref C) _) _ _ _
  apply (hi.keeps old).at
  apply wpAny_holding
  apply wpAny_bind
  apply ((hb (.ref (h.objs.size + 1))).keeps old).at
  apply wpAny_bind
  apply wpAny_call
  apply codeAny_mono hq
  intro r s' z
  match r, z with
  | .error e, z => exact z
  | .ok (.ret v), z =>
    obtain ⟨ev, y⟩ := (show v = Value.none ∧ R (.ok (.ret (.ref (h.objs.size + 1)))) s' from z)
    subst ev
    wp_walk
    exact y
  | .ok .next, z => exact (z : False).elim
  | .ok .brk, z => exact (z : False).elim
  | .ok .cont, z => exact (z : False).elim
end
end Gd
namespace Gd
open PySem PySem.Spec PyProof.Rows L2
theorem pe_weak {X : Cx} {e : Expr} {t t' : TE} (h : PE X e t) (f : ∀ σ H Q, t' σ H Q → t σ H Q) : PE X e t' := ⟨fun pins s σ H Q I q => h.run pins s σ H Q I (f σ H Q q)⟩
/-- at a: an exception of the class at C with these fields -/
def ExAt (H : Hp) (a C : Addr) (fs : List (Str × V)) : Prop := ∃ d, H a = some (exo a C (some d)) ∧ H d = some (exd d fs)
theorem ExAt.same {H H' : Hp} {a C : Addr} {fs : List (Str × V)} (x : ExAt H a C fs) (s : Same H H') : ExAt H' a C fs := by
  obtain ⟨d, h1, h2⟩ := x
  exact ⟨d, s _ _ h1, s _ _ h2⟩
/-- C(.., k = ..) as a value; C's own __init__ keeps sp -/
def tMkX (C : Addr) (sp : Sp) (gV : List V → List V → List V) (t tk : TA) : TE := fun σ H Q => t σ H fun vs H1 => tk σ H1 fun zs H2 => vs.length ≤ 1000 ∧ ∀ a, H2 a = none →
  sp (gV (.ref a :: vs) zs) (upd H2 a (exo a C none)) (fun v H3 => v = .non ∧ Q (.ref a) H3) (fun _ _ _ => False)
section
variable {X : Cx} {CX : CXT} {k : Nat} {fI C : Addr} {fd : FuncData} {ps ks : List Str} {sp : Sp} {x : Str} {p pos : Pos} {e : Expr} {es : List Expr} {kws : List Keyword} {t tk : TA} {g : List Value → List Value → List Value} {gV : List V → List V → List V}
theorem run_mkX {pins : List (Addr × Obj)} {σ : L2.St} {H : Hp} {s : Shared} {Q : VK} {us ws : List Value} {vs zs : List V} (T : OexC X.K C) (iC : PySem.W.findIn X.K (.ref C) "__init__" = some (some (.ref fI)))
    (tI : PySem.W.typeIn X.K (.ref fI) = some (.type "function")) (F1 : FnOk X.prog X.w X.K X.mg X.base CX k fI fd ps sp) (hr : Room (k + 1) X.A) (hb : KBinds X.K fd ps ks g gV) (hx : Passes CX X (fun _ _ _ => False))
    (I : Inv X pins σ H s) (r : Vals vs us) (rz : Vals zs ws) (hl : vs.length ≤ 1000)
    (h : ∀ a, H a = none → sp (gV (.ref a :: vs) zs) (upd H a (exo a C none)) (fun v H3 => v = .non ∧ Q (.ref a) H3) (fun _ _ _ => False)) :
    wpAny (model X.prog X.w) X.A (call (.ref C) us (ks.zip ws)) (EP X pins σ Q) X.xe s := by
  obtain ⟨nm, q, N, bs, bm, sn, sub, ab, col, dd, k0, k1, k2, k3, k5, hC, hbm⟩ := T.cls
  obtain ⟨hp, gs, dr, n, os⟩ := s
  have more : hp.objs.size ≤ hp.objs.size + 1 := Nat.le_succ _
  have hq := h (hp.objs.size + 1) (I.hok.fresh more)
  have new : ((hp.push (PySem.W.kdv_tup us)).push (PySem.HandSPX.excO C hp.objs.size)).get? (hp.objs.size + 1) = some (PySem.HandSPX.excO C hp.objs.size) := by heap_get
  have J : Inv X pins σ (upd H (hp.objs.size + 1) (exo (hp.objs.size + 1) C none)) ⟨(hp.push (PySem.W.kdv_tup us)).push (PySem.HandSPX.excO C hp.objs.size), gs, dr, n, os⟩ :=
    I.laid (t' := n) (a := hp.objs.size + 1) (o := exo (hp.objs.size + 1) C none) (fun b o e => Heap.get?_push_of_some _ (Heap.get?_push_of_some _ e)) more (exo_ok new)
  have r1 : Vals (V.ref (hp.objs.size + 1) :: vs) (Value.ref (hp.objs.size + 1) :: us) := .cons rfl r
  have r2 := hb.rel r1 rz
  have len : (g (Value.ref (hp.objs.size + 1) :: us) ws).length = ps.length := by rw [← r2.length]; exact F1.len _ _ _ _ hq
  have lus : us.length ≤ sizeLine := by rw [← r.length, sizeLine_eq]; omega
  apply wpAny_call
  apply kw_make PySem.F.excBase_ValueError (fun Y => PySem.HandSPX.refsVE_contains Y bm hbm) (I.kIn _ _ hC) lus (PySem.W.looks_findIn I.kIn iC) (fun self => PySem.W.bind_fn I.kIn self tI)
  apply codeAny_mono (F1.run _ X.stack _ _ ⟨Value.ref (hp.objs.size + 1) :: us, ks.zip ws⟩ _ _ _ _ (hr.make C us (ks.zip ws)) (J.env0.make C us (ks.zip ws)) (hb.to _ (Value.ref (hp.objs.size + 1) :: us) ws J.kIn len) r2 hq)
  intro z s' hz
  match z, hz with
  | .error er, hz => exact hx pins σ _ _ er s' J hz
  | .ok (.ret u), hz =>
    obtain ⟨v, H', I3, rv, ev, q3⟩ := J.after hz
    subst ev
    exact ⟨rv, .ref (hp.objs.size + 1), H', I3, rfl, q3⟩
  | .ok .next, hz => exact (hz : False).elim
  | .ok .brk, hz => exact (hz : False).elim
  | .ok .cont, hz => exact (hz : False).elim
theorem pe_mkX (T : OexC X.K C) (iC : PySem.W.findIn X.K (.ref C) "__init__" = some (some (.ref fI))) (tI : PySem.W.typeIn X.K (.ref fI) = some (.type "function")) (F1 : FnOk X.prog X.w X.K X.mg X.base CX k fI fd ps sp) (hr : Room (k + 1) X.A)
    (hb : KBinds X.K fd ps [] g gV) (hx : Passes CX X (fun _ _ _ => False)) (hg : Gl X x) (hm : X.mg x = some (.ref C)) (ha : PA X (e :: es) t)
    (hdb : (x == ("__debug__" : Str)) = false := by decide) (he : starEach (e :: es) X.env = (false, eval e X.env) :: starEach es X.env := by rfl) (hpl : (backTo pos (starEach es X.env)).any (·.1) = false := by rfl) :
    PE X (.Call (.Name x p) (e :: es) [] pos) (tMkX C sp gV t tNil) := by
  constructor
  intro pins s σ H Q I h
  apply wpAny_Call_Name_kw
  apply ld_glob I hg hm ?_ hdb
  refine PySem.W.callWith_K (h₀ := X.base) I.ok.mod.kin T.kC (thn (ha.run pos pins s σ H _ I h) ?_) he hpl
  intro us s1 ⟨vs, H1, I1, r, l, q⟩
  exact ⟨I1.kIn, run_mkX (ws := []) T iC tI F1 hr hb hx I1 r .nil l q⟩
theorem pe_mkXK (T : OexC X.K C) (iC : PySem.W.findIn X.K (.ref C) "__init__" = some (some (.ref fI))) (tI : PySem.W.typeIn X.K (.ref fI) = some (.type "function")) (F1 : FnOk X.prog X.w X.K X.mg X.base CX k fI fd ps sp) (hr : Room (k + 1) X.A)
    (hb : KBinds X.K fd ps ks g gV) (hx : Passes CX X (fun _ _ _ => False)) (hg : Gl X x) (hm : X.mg x = some (.ref C)) (hkw : PK X kws tk)
    (hall : (backToKw pos (keywordEach kws X.env)).all (·.1.isSome) = true := by rfl) (hks : (backToKw pos (keywordEach kws X.env)).filterMap (·.1) = ks := by rfl) (hdb : (x == ("__debug__" : Str)) = false := by decide)
    (hpl : ((backTo pos (starEach [] X.env)).any (·.1) || (backToKw pos (keywordEach kws X.env)).any (·.1.isNone)) = false := by rfl) :
    PE X (.Call (.Name x p) [] kws pos) (tMkX C sp gV tNil tk) := by
  constructor
  intro pins s σ H Q I h
  apply wpAny_Call_Name_kw
  apply ld_glob I hg hm ?_ hdb
  refine PySem.W.callWith_KW0 (h₀ := X.base) I.ok.mod.kin T.kC hall ?_ hpl
  refine thn (hkw.run pos pins s σ H _ I h) ?_
  intro ws s2 ⟨zs, H2, I2, rz, l, q2⟩
  refine ⟨I2.kIn, ?_⟩
  rw [hks]
  exact run_mkX (us := []) T iC tI F1 hr hb hx I2 .nil rz l q2
end
end Gd
namespace Gd
open PySem PySem.Spec PySem.Calls PyProof.Rows PySem.W
/-! ### isinstance of an exception that may have attributes -/
section
variable {prog : Program} {w : World} {A : Around} {E : Value → Shared → Prop} {s : Shared} {K : Frag} {x D : Addr} {ox : Obj} {od : Option Obj}
theorem class_found (T : L2.ExcC K D) : findObj K D od "__class__" = some (.bind (.builtin "getset_descriptor.__get__") (.builtin "object.__class__")) := by
  obtain ⟨cd, hc, _⟩ := any_some T.hd
  unfold findObj
  simp [hc, T.ha, T.hn, T.ht]
theorem class_asked (T : L2.ExcC K D) {Q : Option Value → Shared → Prop} (X : K.In s.heap) (I : InstAt s.heap x ox D od) (h : Q (some (.ref D)) { s with toks := s.toks + 1 }) : wpAny (model prog w) A (getAttr? (.ref x) "__class__") Q E s := by
  obtain ⟨hp, g, d, t, os⟩ := s
  have ty := I.type (M := model prog w)
  have found := looks_find (M := model prog w) X I (class_found T)
  have get := looks_findIn (M := model prog w) X T.hg
  have none_else := looks_findIn (M := model prog w) X T.hk
  have below : Looks (model prog w) hp (isInstance (.ref x) (.type "BaseException")) true := ty.andThen (looks_subIn X T.hs)
  have ne : (Value.builtin "BaseException.__getattribute__" == Value.builtin "object.__getattribute__") = false := by decide +kernel
  have n1 : (onTheHeap (Value.ref D) && Value.builtin "BaseException.__getattribute__" == Value.builtin "object.__getattribute__") = false := by rw [ne]; rfl
  have n2 : (false && onTheHeap (Value.builtin "BaseException.__getattribute__")) = false := rfl
  unfold getAttr? getAttrBy? getAttrBy
  apply wpAny_bind
  apply wpAny_mkText
  apply wpAny_bind
  apply wpAny_attempt
  apply wpAny_holding
  apply wpAny_bind
  apply ty.at
  apply wpAny_bind
  apply get.at
  show wpAny _ _ (if (onTheHeap (Value.ref D) && Value.builtin "BaseException.__getattribute__" == Value.builtin "object.__getattribute__") = true then _ else _) _ _ _
  rw [n1, if_neg Bool.false_ne_true]
  unfold getAttrByItsOwn hookBefore
  apply wpAny_bind
  rw [if_pos (show onTheHeap (Value.ref D) = true from rfl)]
  apply none_else.at
  apply wpAny_bind
  apply wpAny_attempt
  apply wpAny_holding
  unfold callGetattribute
  rw [n2, if_neg Bool.false_ne_true]
  unfold boundAndCalled
  rw [PySem.F.excAttr_ValueError.ga.bind (.ref x)]
  apply wpAny_bind
  apply wpAny_pure
  show wpAny _ _ (call (.builtin "BaseException.__getattribute__") [.ref x, .str "__class__" t]) _ _ _
  apply wpAny_call
  apply codeAny_call_builtin PySem.F.excAttr_ValueError.ga.plain PySem.F.entry_bexc_ga
  apply @check_slot (model prog w) _ _ ⟨hp, g, d, t + 1, os⟩ "BaseException.__getattribute__" "BaseException" "__getattribute__" (.ref x) [.str "__class__" t] [] _ (by decide +kernel) (by decide +kernel) below (PySem.F.args_bexc_ga (.ref x) (.str "__class__" t))
  unfold Builtin.«object.__getattribute__»
  apply wpAny_bind
  apply wpAny_of_eq (a := ((Value.ref x : Value), [Value.str "__class__" t])) (by first | rfl | (simp only [slotArgs]; rfl))
  apply wpAny_bind
  apply wpAny_pure
  apply wpAny_bind
  apply ty.at
  apply wpAny_bind
  apply found.at
  show wpAny _ _ (holding [Value.builtin "object.__class__"] (call (.builtin "getset_descriptor.__get__") [.builtin "object.__class__", .ref x, .ref D]) >>= ret) _ _ _
  apply wpAny_bind
  apply wpAny_holding
  apply wpAny_call
  apply class_get (s := ⟨hp, g, d, t + 1, os⟩) (ox := ox) (od := od) X I T.hm
  apply wpAny_pure
  show wpAny _ _ (handedOut (.ref D)) _ _ _
  rw [handedOut_of (v := .ref D) rfl]
  first
    | exact wpAny_pure (wpAny_pure h)
    | exact wpAny_pure h
    | exact wpAny_pure (wpAny_bind (wpAny_pure (wpAny_pure h)))
theorem kitx_of (T : L2.ExcC K D) : KitX K (.ref x) (.ref D) (fun h => ∃ (ox : Obj) (od : Option Obj), InstAt h x ox D od) := by
  have part : ∃ (c : Value) (d' : Option Addr) (cd' : ClassData) (sl' : Array (Option Value)), K.lookup D = some ⟨c, d', .cls cd', sl'⟩ := by
    obtain ⟨cd, hc, _⟩ := any_some T.hd
    unfold clsIn at hc
    split at hc
    · rename_i c' d' cd' sl' ho
      exact ⟨c', d', cd', sl', ho⟩
    · cases hc
  obtain ⟨c', d', cd', sl', ho⟩ := part
  constructor
  · intro _ _ _ ⟨ox, od, I⟩
    exact I.type
  · intro M h X _ A' Q' E' s' k q
    unfold isType loadHead
    exact wpAny_bind (wpAny_loadPart (k _ _ (X _ _ ho)) (wpAny_pure q))
  · intro h tp dd its n sl X htp
    cases e : ((Value.ref D) == .ref tp) with
    | false => rfl
    | true =>
      have e' : D = tp := Value.ref.inj (beq_iff_eq.mp e)
      subst e'
      exact nomatch (X _ _ ho).symm.trans htp
  · intro _ _ _ _ _ _ X ⟨ox, od, I⟩ q
    exact class_asked T X I q
end
end Gd
namespace Gd
open PySem PySem.Spec PyProof.Rows L2
/-- at a: an exception of the class at D -/
def XAt (H : Hp) (a D : Addr) : Prop := (∃ fs, ExAt H a D fs) ∨ H a = some (exo a D none)
theorem XAt.same {H H' : Hp} {a D : Addr} (x : XAt H a D) (s : Same H H') : XAt H' a D := by
  rcases x with ⟨fs, x⟩ | x
  · exact .inl ⟨fs, x.same s⟩
  · exact .inr (s _ _ x)
section
variable {X : Cx} {pins : List (Addr × Obj)} {σ : L2.St} {H : Hp} {s : Shared}
theorem xat_inst (I : Inv X pins σ H s) {a D : Addr} (x : XAt H a D) : ∃ (ox : Obj) (od : Option Obj), PySem.W.InstAt s.heap a ox D od := by
  rcases x with ⟨fs, d, h1, h2⟩ | h1
  · obtain ⟨t1, ho⟩ := exo_at I.hok h1
    obtain ⟨mA, hn, _⟩ := exd_at I.hok h2
    obtain ⟨o, _, _, e, _⟩ := hn
    exact ⟨_, some o, ho, rfl, rfl, e⟩
  · obtain ⟨t1, ho⟩ := exo_at I.hok h1
    exact ⟨_, none, ho, rfl, rfl, trivial⟩
/-- isinstance(e, c), e an exception held as a value -/
def rIsX (K : PySem.W.Frag) : List V → Hp → VK → Prop := fun xs H Q => ∃ (a D : Addr) (c : V) (cv : Value) (b : Bool), xs = [.ref a, c] ∧ XAt H a D ∧ ClsV c cv ∧ ExcC K D ∧ PySem.W.kitOne K (.ref D) cv = some b ∧ Q (.bl b) H
theorem call_isX : CallR X (.builtin "isinstance") (rIsX X.K) := by
  intro pins s σ H xs us Q I r h
  obtain ⟨a, D, c, cv, b, rfl, hx, hc, T, e, q⟩ := h
  obtain ⟨u1, u2, rfl, r1, r2⟩ := vals2 r
  cases (show u1 = Value.ref a from r1)
  have e2 := hc.eq r2
  subst e2
  exact PySem.W.kia_one (kitx_of T) I.kIn (xat_inst I hx) e (fun z => nomatch z) fun tk => ⟨.bl b, H, I.tok tk, rfl, q⟩
/-- e.f, e an exception held as a value -/
def tXf (K : PySem.W.Frag) (f : Str) (te : TE) : TE := fun σ H Q => te σ H fun x H1 => ∃ (a C : Addr) (fs : List (Str × V)) (v : V), x = .ref a ∧ ExAt H1 a C fs ∧ ExcC K C ∧ PySem.W.findIn K (.ref C) f = some none ∧ fs.lookup f = some v ∧ Q v H1
theorem pe_xf {e : Expr} {te : TE} {f : Str} {pos : Pos} (he : PE X e te) (hb : attributeBase e f X.env (eval e X.env) = eval e X.env := by rfl) : PE X (.Attribute e f pos) (tXf X.K f te) := by
  constructor
  intro pins s σ H Q I h
  apply attr_of hb
  refine thn (he.run pins s σ H _ I h) ?_
  intro u s1 ⟨x, H1, I1, rx, a, C, fs, v, ex, ⟨d, h1, h2⟩, T, no, hv, q⟩
  subst ex
  cases (show u = Value.ref a from rx)
  obtain ⟨t1, ho⟩ := exo_at I1.hok h1
  obtain ⟨mA, hn, hr⟩ := exd_at I1.hok h2
  obtain ⟨od, hod, hl⟩ := lookIn_ns hn
  obtain ⟨w, hw, rw'⟩ := RelO.some_of (v := v) (o := mA f) (by rw [← hv]; exact hr f)
  have J : PySem.W.InstAt s1.heap a _ C (some od) := ⟨ho, rfl, rfl, hod⟩
  exact PySem.HandSPX.exc_get I1.kIn J T.hg T.hk T.hs (PySem.W.findObj_own T.hd no rfl (by rw [hl, hw])) (handed_of rw') ⟨v, H1, I1.tok _, rw', q⟩
end
end Gd
namespace Gd
open PySem PySem.Spec PyProof.Rows L2
/-- [..], where it is told that the place is not that of sys.modules -/
def tLstN (t : TA) : TE := fun σ H Q => t σ H fun xs H1 => xs.length ≤ sizeLine ∧ ∀ p, H1 p = none → p ≠ sysModules → Q (.ref p) (upd H1 p (.lst xs))
theorem pe_lstN {X : Cx} {es : List Expr} {pos : Pos} {t : TA} (h : PA X es t) : PE X (.List es pos) (tLstN t) := by
  constructor
  intro pins s σ H Q I hq
  apply wpAny_List_spliced
  apply thn (h.run pos pins s σ H _ I hq)
  intro us s1 ⟨xs, H1, I1, r, z, q⟩
  refine ⟨by rw [← r.length]; exact z, ?_⟩
  have low : 1 < s1.heap.objs.size := by
    obtain ⟨o, es, ep, e, _⟩ := I1.ok.mod.glob
    have : (3 : Nat) < s1.heap.objs.size := Heap.lt_size (I1.bk _ _ e)
    omega
  have ns : s1.heap.objs.size ≠ sysModules := fun z => by
    have : s1.heap.objs.size = 1 := z
    omega
  exact ⟨.ref s1.heap.objs.size, upd H1 s1.heap.objs.size (.lst xs), I1.laid (t' := s1.toks) (fun b u e => Heap.get?_push_of_some _ e) (Nat.le_refl _) (show ObjOk X.prog X.w _ _ _ (.lst xs) from ⟨z, us, 0, r, Heap.get?_push_size _ rfl⟩), rfl, q _ (I1.hok.fresh (Nat.le_refl _)) ns⟩
theorem Dq.same {H H' : Hp} (s : Same H H') : ∀ {n : Nat} {b : Bool} {v : V} {d : PyData}, Dq H n b v d → Dq H' n b v d
  | 0, _, _, _, h => h
  | n + 1, b, v, d, h => by
    have ih : ∀ {b v d}, Dq H n b v d → Dq H' n b v d := fun h => Dq.same s h
    rcases h with h | ⟨e0, a, xs, ds, e1, e2, h1, h2, h3⟩ | ⟨a, xs, ds, e1, e2, h1, h2, h3⟩ | ⟨e0, a, xs, ds, e1, e2, h1, h2, h3⟩
    · exact .inl h
    · exact .inr (.inl ⟨e0, a, xs, ds, e1, e2, s _ _ h1, L2.Paired.mapP h2 fun _ _ z => ih z, h3⟩)
    · exact .inr (.inr (.inl ⟨a, xs, ds, e1, e2, s _ _ h1, L2.Paired.mapP h2 fun _ _ z => ih z, h3⟩))
    · exact .inr (.inr (.inr ⟨e0, a, xs, ds, e1, e2, s _ _ h1, L2.Paired.mapP h2 fun _ _ z => ⟨z.1, ih z.2⟩, h3⟩))
/-- what holds of tuples alone holds -/
theorem Dq.weak {H : Hp} : ∀ {n : Nat} {b : Bool} {v : V} {d : PyData}, Dq H n true v d → Dq H n b v d
  | 0, _, _, _, h => h
  | n + 1, b, v, d, h => by
    have ih : ∀ {v d}, Dq H n true v d → Dq H n b v d := fun h => Dq.weak h
    rcases h with h | ⟨e0, _⟩ | ⟨a, xs, ds, e1, e2, h1, h2, h3⟩ | ⟨e0, _⟩
    · exact .inl h
    · cases e0
    · exact .inr (.inr (.inl ⟨a, xs, ds, e1, e2, h1, L2.Paired.mapP h2 fun _ _ z => ih z, h3⟩))
    · cases e0
/-- tuples stay where they are when something else is stored -/
theorem Dq.tups {H H' : Hp} (s : ∀ b xs, H b = some (.tup xs) → H' b = some (.tup xs)) : ∀ {n : Nat} {v : V} {d : PyData}, Dq H n true v d → Dq H' n true v d
  | 0, _, _, h => h
  | n + 1, v, d, h => by
    have ih : ∀ {v d}, Dq H n true v d → Dq H' n true v d := fun h => Dq.tups s h
    rcases h with h | ⟨e0, _⟩ | ⟨a, xs, ds, e1, e2, h1, h2, h3⟩ | ⟨e0, _⟩
    · exact .inl h
    · cases e0
    · exact .inr (.inr (.inl ⟨a, xs, ds, e1, e2, s _ _ h1, L2.Paired.mapP h2 fun _ _ z => ih z, h3⟩))
    · cases e0
theorem Dq.sc {H : Hp} {v : V} {d : PyData} {b : Bool} (h : Sc v d) : ∀ {n : Nat}, Dq H n b v d
  | 0 => h
  | n + 1 => .inl h
end Gd
namespace Kone
open PySem L2 Gd
def top (i : Nat) : Stmt := PySem.Challenge.pw_sumdigits_k02_papers_made.main.body.getD i (.Pass ⟨0, 0, 0, 0⟩)
/-! ### a value with copies of its lists and dicts -/
abbrev sKept : Stmt := top 1
/-- all that was tracked but what stands at p stands as before -/
def Keep (p : Addr) (H H' : Hp) : Prop := ∀ b o, b ≠ p → H b = some o → H' b = some o
theorem Keep.refl {p : Addr} {H : Hp} : Keep p H H := fun _ _ _ e => e
theorem Keep.trans {p : Addr} {H H1 H2 : Hp} (a : Keep p H H1) (b : Keep p H1 H2) : Keep p H H2 := fun c o n e => b c o n (a c o n e)
theorem Keep.of {p : Addr} {H H1 : Hp} (a : Same H H1) : Keep p H H1 := fun c o _ e => a c o e
/-- at p the state of the draws -/
def Pen (H : Hp) (p c : Addr) (n : Nat) : Prop := ∃ (cs : List Int) (a g : Int), H p = some (.lst [.ref c, .int a, .int g]) ∧ H c = some (.lst (cs.map V.int)) ∧ c ≠ p ∧ 0 ≤ a ∧ a ≤ (n : Int)
theorem Pen.keep {H H' : Hp} {p c : Addr} {n : Nat} (x : Pen H p c n) (s : Same H H') : Pen H' p c n := by
  obtain ⟨cs, a, g, h1, h2, h3, h4, h5⟩ := x
  exact ⟨cs, a, g, s _ _ h1, s _ _ h2, h3, h4, h5⟩
def spPen (K : PySem.W.Frag) : Sp := fun vs H Q _ => ∃ (a : Addr) (ns : List Int), vs = [.ref a] ∧ SqL K H a (ns.map V.int) ∧ ∀ (H' : Hp) (p c : Addr), Same H H' → Pen H' p c 0 → Q (.ref p) H'
def spDraw : Sp := fun vs H Q _ => ∃ (p c : Addr) (m : Int) (n : Nat), vs = [.ref p, .int m] ∧ Pen H p c n ∧ n ≤ 100000 ∧ 0 < m ∧ m < 1000 ∧ ∀ (H' : Hp) (d : Int), Keep p H H' → Pen H' p c (n + 1) → 0 ≤ d → d < m → Q (.int d) H'
def spPick : Sp := fun vs H Q _ => ∃ (p c l : Addr) (n : Nat) (xs : List V), vs = [.ref p, .ref l] ∧ Pen H p c n ∧ n ≤ 100000 ∧ H l = some (.lst xs) ∧ l ≠ p ∧ 0 < xs.length ∧ xs.length < 1000 ∧
  ∀ (H' : Hp) (x : V), Keep p H H' → Pen H' p c (n + 1) → x ∈ xs → Q x H'
structure TxtD (mg : Str → Option Value) (fD : Addr) : Prop where
  int : mg "int" = none
  len : mg "len" = none
  abs : mg "abs" = none
  list : mg "list" = none

theorem map_cut (ns : List Int) (lo hi : Option Int) : ∃ ms : List Int, cutV (ns.map V.int) lo hi = ms.map V.int := by
  unfold cutV
  exact ⟨_, by rw [← List.map_drop, ← List.map_take]⟩

theorem fmod_range {a m : Int} (h : 0 < m) : 0 ≤ a.fmod m ∧ a.fmod m < m := ⟨Int.fmod_nonneg_of_pos a h, Int.fmod_lt_of_pos a h⟩
theorem Pen.set2 {H : Hp} {p c : Addr} {cs : List Int} {a g : Int} {n : Nat} (h2 : H c = some (.lst (cs.map V.int))) (h3 : c ≠ p) (h4 : 0 ≤ a) (h5 : a ≤ (n : Int)) : Pen (upd H p (.lst [.ref c, .int a, .int g])) p c n :=
  ⟨cs, a, g, upd_same, by rw [upd_ne h3]; exact h2, h3, h4, h5⟩
theorem Pen.mono {H : Hp} {p c : Addr} {n m : Nat} (x : Pen H p c n) (h : n ≤ m) : Pen H p c m := by
  obtain ⟨cs, a, g, h1, h2, h3, h4, h5⟩ := x
  exact ⟨cs, a, g, h1, h2, h3, h4, by omega⟩
theorem keep_upd {H : Hp} {p : Addr} {o : HO} : Keep p H (upd H p o) := fun b u n e => by rw [upd_ne n]; exact e
theorem same_new {H : Hp} {p : Addr} {o : HO} (h : H p = none) : Same H (upd H p o) := fun b u e => by rw [upd_ne (ne_of_none e h)]; exact e
theorem dp_ints {K : PySem.W.Frag} {H : Hp} (cs : List Int) : DpAll K H (cs.map V.int) (cs.map PyData.int) := by
  induction cs with
  | nil => exact .nil
  | cons c cs ih => exact .cons (.int c) ih
theorem at_nat {xs : List V} {i : Int} (h0 : 0 ≤ i) (h1 : i < (xs.length : Int)) : ∃ v, atI xs i = some v ∧ v ∈ xs := by
  have hl : i.toNat < xs.length := by omega
  refine ⟨xs[i.toNat], ?_, List.getElem_mem hl⟩
  unfold atI ixN
  rw [if_pos h0, if_pos h1]
  simp [hl]
theorem nzA : (2147483587 : Int) ≠ 0 := by decide
theorem nzB : (2147483563 : Int) ≠ 0 := by decide

/-- the class x at C, right below SumError at S -/
structure XC (K : PySem.W.Frag) (mg : Str → Option Value) (S : Addr) (x : Str) (C : Addr) : Prop where
  g : mg x = some (.ref C)
  o : OexC K C
  e : ExcC K C
  m : ∃ cd, PySem.W.clsIn K C = some cd ∧ cd.mro = .ref C :: .ref S :: PySem.HandSPX.veTail
theorem kit_own {K : PySem.W.Frag} {mg : Str → Option Value} {S : Addr} {x y : Str} {C D : Addr} (T : XC K mg S x D) (U : XC K mg S y C) (h : C ≠ S) : PySem.W.kitOne K (.ref D) (.ref C) = some (decide (D = C)) := by
  by_cases e : D = C
  · subst e
    unfold PySem.W.kitOne
    rw [if_pos (by simp)]
    simp
  · have ne : (Value.ref D == Value.ref C) = false := beq_eq_false_iff_ne.mpr fun z => e (Value.ref.inj z)
    obtain ⟨cd, h1, h2⟩ := T.m
    obtain ⟨ce, h3, _⟩ := U.m
    unfold PySem.W.kitOne PySem.W.kitCls PySem.W.subIn PySem.W.mroIn
    rw [ne, if_neg Bool.false_ne_true]
    dsimp only
    rw [h1, h3, U.o.tyC]
    have h4 : cd.mro.contains (.ref C) = false := by
      rw [h2]
      simp only [List.contains_cons, PySem.HandSPX.veTail]
      have n1 : (Value.ref C == Value.ref D) = false := beq_eq_false_iff_ne.mpr fun z => e (Value.ref.inj z).symm
      have n2 : (Value.ref C == Value.ref S) = false := beq_eq_false_iff_ne.mpr fun z => h (Value.ref.inj z)
      rw [n1, n2]
      rfl
    have h5 : cd.mro.isEmpty = false := by rw [h2]; rfl
    simp only [Option.isSome_some, beq_self_eq_true, Bool.and_self, if_true, Option.bind_some, h5, Bool.false_eq_true, if_false, h4, decide_eq_false e]
theorem kit_type {K : PySem.W.Frag} {mg : Str → Option Value} {S : Addr} {x : Str} {D : Addr} (T : XC K mg S x D) (n : String) (hm : PySem.W.kitMeta n = true) : PySem.W.kitOne K (.ref D) (.type n) = some (PySem.HandSPX.veTail.contains (.type n)) := by
  obtain ⟨cd, h1, h2⟩ := T.m
  unfold PySem.W.kitOne PySem.W.kitCls PySem.W.subIn PySem.W.mroIn
  rw [if_neg (by intro z; exact nomatch (beq_iff_eq.mp z))]
  dsimp only
  rw [if_pos hm, h1]
  have h5 : cd.mro.isEmpty = false := by rw [h2]; rfl
  simp only [Option.bind_some, h5, Bool.false_eq_true, if_false]
  rw [h2]
  simp only [List.contains_cons]
  rfl
theorem kit_sum {K : PySem.W.Frag} {mg : Str → Option Value} {S : Addr} {x : Str} {D : Addr} (T : XC K mg S x D) {cs : ClassData} (h : PySem.W.clsIn K S = some cs) (t : PySem.W.typeIn K (.ref S) = some (.type "type")) : PySem.W.kitOne K (.ref D) (.ref S) = some true := by
  obtain ⟨cd, h1, h2⟩ := T.m
  by_cases e : D = S
  · subst e
    unfold PySem.W.kitOne
    rw [if_pos (by simp)]
  · have ne : (Value.ref D == Value.ref S) = false := beq_eq_false_iff_ne.mpr fun z => e (Value.ref.inj z)
    unfold PySem.W.kitOne PySem.W.kitCls PySem.W.subIn PySem.W.mroIn
    rw [ne, if_neg Bool.false_ne_true]
    dsimp only
    rw [h1, h, t]
    have h5 : cd.mro.isEmpty = false := by rw [h2]; rfl
    have h4 : cd.mro.contains (.ref S) = true := by rw [h2]; simp
    simp only [Option.isSome_some, beq_self_eq_true, Bool.and_self, if_true, Option.bind_some, h5, Bool.false_eq_true, if_false, h4]

/-- where the helpers stand -/
structure Def (K : PySem.W.Frag) (mg : Str → Option Value) (x : Str) (st : Stmt) (ps : List Str) (f : Addr) (fd : FuncData) : Prop where
  g : mg x = some (.ref f)
  k : PySem.W.keepIn K (.ref f) = true
  b : Binds K fd ps []
  F : Fun K x x st f fd

def hide (p : Addr) (H : Hp) : Hp := fun b => if b = p then none else H b
theorem hide_same {p : Addr} {H : Hp} : Same (hide p H) H := fun b o e => by
  unfold hide at e
  split at e
  · cases e
  · exact e
theorem hide_at {p : Addr} {H : Hp} {b : Addr} {o : HO} (n : b ≠ p) (e : H b = some o) : hide p H b = some o := by
  unfold hide
  rw [if_neg n]
  exact e
theorem hide_keep {p : Addr} {H H' : Hp} (k : Keep p H H') : Same (hide p H) (hide p H') := fun b o e => by
  unfold hide at e
  split at e
  · cases e
  · rename_i n
    exact hide_at n (k b o n e)
theorem hide_mono {p : Addr} {H H' : Hp} (s : Same H H') : Same (hide p H) (hide p H') := hide_keep (Keep.of s)

/-- what stands in H' and not in H -/
def newIn (H H' : Hp) : Hp := fun b => match H b with
  | none => H' b
  | some _ => none
theorem newIn_at {H H' : Hp} {b : Addr} {o : HO} (n : H b = none) (e : H' b = some o) : newIn H H' b = some o := by
  unfold newIn
  rw [n]
  exact e
theorem newIn_of {H H' : Hp} {b : Addr} {o : HO} (e : newIn H H' b = some o) : H b = none ∧ H' b = some o := by
  unfold newIn at e
  cases q : H b with
  | none => rw [q] at e; exact ⟨rfl, e⟩
  | some u => rw [q] at e; cases e
theorem newIn_keep {p : Addr} {H H1 H2 : Hp} {o : HO} (hp : H p = some o) (k : Keep p H1 H2) : Same (newIn H H1) (newIn H H2) := fun b u e => by
  obtain ⟨n, e1⟩ := newIn_of e
  exact newIn_at n (k b u (ne_of_none hp n).symm e1)

/-- of H', what stood in G or was not yet in H -/
def old (G H H' : Hp) : Hp := fun a => if (G a).isSome = true ∨ H a = none then H' a else none
theorem old_at {G H H' : Hp} {a : Addr} {o : HO} (c : (∃ u, G a = some u) ∨ H a = none) (e : H' a = some o) : old G H H' a = some o := by
  unfold old
  rw [if_pos (by
    rcases c with ⟨u, c⟩ | c
    · exact .inl (by rw [c]; rfl)
    · exact .inr c)]
  exact e
theorem old_of {G H H' : Hp} {a : Addr} {o : HO} (e : old G H H' a = some o) : ((∃ u, G a = some u) ∨ H a = none) ∧ H' a = some o := by
  unfold old at e
  split at e
  · rename_i c
    refine ⟨?_, e⟩
    rcases c with c | c
    · exact .inl (Option.isSome_iff_exists.mp c)
    · exact .inr c
  · cases e
theorem old_mono {G H H' H'' : Hp} (s : Same H' H'') : Same (old G H H') (old G H H'') := fun a o e => by
  obtain ⟨c, e⟩ := old_of e
  exact old_at c (s _ _ e)
theorem old_self {G H : Hp} (s : Same G H) : Same G (old G H H) := fun a o e => old_at (.inl ⟨o, e⟩) (s _ _ e)
/-- what depth n of data asks, and what comes back -/
def spK : Nat → Sp
  | 0 => fun _ _ _ _ => False
  | n + 1 => fun vs H Q _ => ∃ (b : Bool) (v : V) (d : PyData) (G : Hp), vs = [v] ∧ Same G H ∧ Dq G n b v d ∧ ∀ (H' : Hp) (v' : V), Same H H' → Dq (old G H H') n b v' d → Q v' H'
structure TxtK (mg : Str → Option Value) : Prop where
  isi : mg "isinstance" = none
  tuple : mg "tuple" = none
  list : mg "list" = none
  dict : mg "dict" = none
  any : mg "any" = none
theorem scKept : FnScope ["value", "part", "key"] ["value"] (defScope sKept) := ⟨rfl, rfl, rfl, by decide +kernel, rfl, by decide +kernel, by decide +kernel⟩
theorem sc_ty {K : PySem.W.Frag} {H : Hp} : ∀ {v : V} {d : PyData}, Sc v d → ∃ t : String, TyX K H v (.type t) ∧ kitB t "tuple" = some false ∧ kitB t "list" = some false ∧ kitB t "dict" = some false
  | .non, .none, _ => ⟨_, .base .non, by decide +kernel, by decide +kernel, by decide +kernel⟩
  | .bl b, .bool _, _ => ⟨_, .base (.bl b), by decide +kernel, by decide +kernel, by decide +kernel⟩
  | .int i, .int _, _ => ⟨_, .base (.int i), by decide +kernel, by decide +kernel, by decide +kernel⟩
  | .str x, .str _, _ => ⟨_, .base (.str x), by decide +kernel, by decide +kernel, by decide +kernel⟩
theorem kit3 {K : PySem.W.Frag} {t : String} {b1 b2 b3 : Bool} (h1 : kitB t "tuple" = some b1) (h2 : kitB t "list" = some b2) (h3 : kitB t "dict" = some b3) : ∃ r, PySem.W.kitAny K (.type t) [.type "tuple", .type "list", .type "dict"] = some r := by
  cases b1 with
  | true => exact ⟨true, kitAny_cons (kit_ty h1) (fun z => nomatch z) (fun _ => rfl)⟩
  | false =>
    cases b2 with
    | true => exact ⟨true, kitAny_cons (kit_ty h1) (fun _ => kitAny_cons (kit_ty h2) (fun z => nomatch z) (fun _ => rfl)) (fun z => nomatch z)⟩
    | false => exact ⟨b3, kitAny_cons (kit_ty h1) (fun _ => kitAny_cons (kit_ty h2) (fun _ => kitAny_cons (kit_ty h3) (fun z => by rw [z]; exact kitAny_nil) (fun z => z)) (fun z => nomatch z)) (fun z => nomatch z)⟩
theorem dq_any {K : PySem.W.Frag} {G H : Hp} (s : Same G H) : ∀ {n : Nat} {b : Bool} {v : V} {d : PyData}, Dq G n b v d → ∃ t r, TyX K H v t ∧ PySem.W.kitAny K t [.type "tuple", .type "list", .type "dict"] = some r := by
  intro n b v d h
  have sc : ∀ {v : V} {d : PyData}, Sc v d → ∃ t r, TyX K H v t ∧ PySem.W.kitAny K t [.type "tuple", .type "list", .type "dict"] = some r := fun h => by
    obtain ⟨t, h0, h1, h2, h3⟩ := sc_ty (K := K) (H := H) h
    obtain ⟨r, e⟩ := kit3 (K := K) h1 h2 h3
    exact ⟨_, r, h0, e⟩
  match n, h with
  | 0, h => exact sc h
  | n + 1, h =>
    rcases h with h | ⟨_, a, xs, ds, rfl, _, ha, _⟩ | ⟨a, xs, ds, rfl, _, ha, _⟩ | ⟨_, a, kvs, kds, rfl, _, ha, _⟩
    · exact sc h
    · obtain ⟨r, e⟩ := kit3 (K := K) (t := "list") (b1 := false) (b2 := true) (b3 := false) (by decide +kernel) (by decide +kernel) (by decide +kernel)
      exact ⟨_, r, .base (.lst (s _ _ ha)), e⟩
    · obtain ⟨r, e⟩ := kit3 (K := K) (t := "tuple") (b1 := true) (b2 := false) (b3 := false) (by decide +kernel) (by decide +kernel) (by decide +kernel)
      exact ⟨_, r, .base (.tup (s _ _ ha)), e⟩
    · obtain ⟨r, e⟩ := kit3 (K := K) (t := "dict") (b1 := false) (b2 := false) (b3 := true) (by decide +kernel) (by decide +kernel) (by decide +kernel)
      exact ⟨_, r, .base (.dK (s _ _ ha)), e⟩
/-- a dict by a comprehension over the items of a locked dict -/
theorem dc_its {dd : Addr} {ob : Obj} {es : List (Key × V)} {g : TG} {tt : TT} {tk tv : TE} {ws : List Nat} {σ : L2.St} {H1 : Hp} {D : Addr} {Z : Hp → Prop} (Pv : Nat → Hp → Prop) (h0 : Pv 0 (upd H1 D (.dK [])))
    (hl : ∀ i G, Pv i G → G dd = some (.frz ob (.dK es)))
    (hs : ∀ i k v T G, es[i]? = some (k, v) → Pv i G → G T = none → g (.ref T) (wipe σ ws) (upd G T (.tup [kV k, v]))
      fun σ2 G2 => wipe σ2 ws = wipe σ ws ∧ tt σ2 G2
        fun b G3 => if b = true then tk σ2 G3 (fun y G4 => tv σ2 G4 (fun z G5 => ∃ ks kk, y = kV kk ∧ G5 D = some (.dK ks) ∧ ks.length < sizeLine ∧ Pv (i + 1) (upd G5 D (.dK (putK ks kk z))))) else Pv (i + 1) G3)
    (hd : ∀ G, Pv es.length G → Z G) :
    ∃ W : Nat → Nat → Hp → Prop, (∃ m, W 0 m (upd H1 D (.dK []))) ∧ ∀ i m G, W i m G →
      ((Iti dd ob es).stop i G ∧ Z G) ∨ ((Iti dd ob es).go i G ∧ ∃ Nx : Hp → Prop, (∀ G', Nx G' → ∃ m', m' < m ∧ W (i + 1) m' G') ∧ ∀ x G', (Iti dd ob es).yld i G x G' → g x (wipe σ ws) G'
        fun σ2 G2 => wipe σ2 ws = wipe σ ws ∧ tt σ2 G2
          fun b G3 => if b = true then tk σ2 G3 (fun y G4 => tv σ2 G4 (fun z G5 => ∃ ks kk, y = kV kk ∧ G5 D = some (.dK ks) ∧ ks.length < sizeLine ∧ Nx (upd G5 D (.dK (putK ks kk z))))) else Nx G3) := by
  refine ⟨fun i m G => m + i = es.length ∧ Pv i G, ⟨es.length, rfl, h0⟩, fun i m G hw => ?_⟩
  obtain ⟨hm, p⟩ := hw
  have q := hl i G p
  cases m with
  | zero =>
    have e : i = es.length := by omega
    subst e
    exact .inl ⟨⟨q, Nat.le_refl _⟩, hd G p⟩
  | succ m =>
    refine .inr ⟨⟨q, by omega⟩, Pv (i + 1), fun G' p' => ⟨m, by omega, by omega, p'⟩, fun x G' y => ?_⟩
    obtain ⟨T, k, v, hk, ex, hT, eG⟩ := y
    subst ex eG
    exact hs i k v T G hk p hT
theorem pr_take {α β : Type} {R : α → β → Prop} {ys : List α} {ds : List β} {i : Nat} {y : α} {d : β} (p : Paired R ys (ds.take i)) (hd : ds[i]? = some d) (r : R y d) : Paired R (ys ++ [y]) (ds.take (i + 1)) := by
  have e : ds.take (i + 1) = ds.take i ++ [d] := by
    rw [List.take_succ, hd]
    rfl
  rw [e]
  have app : ∀ {xs us : List α} {ys vs : List β}, Paired R xs ys → Paired R us vs → Paired R (xs ++ us) (ys ++ vs) := by
    intro xs us ys vs h1 h2
    induction h1 with
    | nil => exact h2
    | cons a _ ih => exact .cons a ih
  exact app p (.cons r .nil)
theorem pr_get {α β : Type} {R : α → β → Prop} : ∀ {xs : List α} {ys : List β} {i : Nat} {x : α}, Paired R xs ys → xs[i]? = some x → ∃ y, ys[i]? = some y ∧ R x y
  | _, _, _, _, .nil, e => by simp at e
  | _, _, 0, _, .cons r _, e => by simp at e; subst e; exact ⟨_, rfl, r⟩
  | _, _, i + 1, x, .cons _ t, e => by
    obtain ⟨y, h1, h2⟩ := pr_get (i := i) (x := x) t (by simpa using e)
    exact ⟨y, by simpa using h1, h2⟩
theorem pr_len {α β : Type} {R : α → β → Prop} : ∀ {xs : List α} {ys : List β}, Paired R xs ys → xs.length = ys.length
  | _, _, .nil => rfl
  | _, _, .cons _ t => congrArg Nat.succ (pr_len t)
theorem line100 {n : Nat} (h : n ≤ 101) : n ≤ sizeLine := Nat.le_trans h (by decide)
theorem line100' {n : Nat} (h : n ≤ 101) : n < sizeLine := Nat.lt_of_le_of_lt h (by decide)
/-- what stands in the list at D while parts are copied -/
def Cop (G H : Hp) (m : Nat) (b : Bool) (D : Addr) (ds : List PyData) (i : Nat) (H' : Hp) : Prop :=
  Same H H' ∧ ∃ ys : List V, H' D = some (.lst ys) ∧ Paired (Dq (hide D (old G H H')) m b) ys (ds.take i)
theorem Cop.nil {G H : Hp} {m : Nat} {b : Bool} {D : Addr} {ds : List PyData} (h : H D = none) : Cop G H m b D ds 0 (upd H D (.lst [])) := ⟨same_new h, [], upd_same, .nil⟩
theorem Cop.put {G H H' H2 : Hp} {m : Nat} {b : Bool} {D : Addr} {ds : List PyData} {i : Nat} {v' : V} {d : PyData} (hD : H D = none) (sG : Same G H) (c : Cop G H m b D ds i H') (hd : ds[i]? = some d) (s2 : Same H' H2) (q : Dq (old G H' H2) m b v' d) :
    ∃ ys : List V, H2 D = some (.lst ys) ∧ ys.length ≤ ds.length ∧ Cop G H m b D ds (i + 1) (upd H2 D (.lst (ys ++ [v']))) := by
  obtain ⟨s1, ys, h1, h2⟩ := c
  have hGD : G D = none := sG.free hD
  refine ⟨ys, s2 _ _ h1, ?_, fun a o e => ?_, ys ++ [v'], upd_same, ?_⟩
  · rw [pr_len h2]
    exact List.length_take_le' _ _
  · rw [upd_ne (ne_of_none e hD)]
    exact s2 _ _ (s1 _ _ e)
  · refine pr_take (L2.Paired.mapP h2 fun _ _ z => Dq.same (fun a o e => ?_) z) hd (Dq.same (fun a o e => ?_) q)
    · have n : a ≠ D := fun z => by rw [z] at e; unfold hide at e; rw [if_pos rfl] at e; cases e
      obtain ⟨c, e1⟩ := old_of (hide_same _ _ e)
      exact hide_at n (old_at c (by rw [upd_ne n]; exact s2 _ _ e1))
    · obtain ⟨c, e1⟩ := old_of e
      have n : a ≠ D := fun z => by
        subst z
        rcases c with ⟨u, c⟩ | c
        · rw [hGD] at c; cases c
        · rw [h1] at c; cases c
      refine hide_at n (old_at ?_ (by rw [upd_ne n]; exact e1))
      rcases c with c | c
      · exact .inl c
      · exact .inr (s1.free c)

section
variable {P : Program} {w : World} {K : PySem.W.Frag} {mg : Str → Option Value} {base : Heap}
theorem okY {σ : L2.St} {H : Hp} {X Y : Hp → Prop} (h : X H) : tYes σ H (fun b H3 => if b = true then X H3 else Y H3) := by
  show (if true = true then X H else Y H)
  rw [if_pos rfl]
  exact h
theorem take_succ1 {α : Type} {xs : List α} {i : Nat} {x : α} (h : xs[i]? = some x) : xs.take (i + 1) = xs.take i ++ [x] := by
  rw [List.take_succ, h]
  rfl
theorem dq_alt {G : Hp} {n : Nat} {b : Bool} {v : V} {d : PyData} (h : Dq G n b v d) : Sc v d ∨
    (∃ (m : Nat) (a : Addr) (xs : List V) (ds : List PyData), n = m + 1 ∧ b = false ∧ v = .ref a ∧ d = .list ds ∧ G a = some (.lst xs) ∧ Paired (Dq G m b) xs ds ∧ xs.length ≤ 100) ∨
    (∃ (m : Nat) (a : Addr) (xs : List V) (ds : List PyData), n = m + 1 ∧ v = .ref a ∧ d = .tuple ds ∧ G a = some (.tup xs) ∧ Paired (Dq G m b) xs ds ∧ xs.length ≤ 100) ∨
    (∃ (m : Nat) (a : Addr) (kvs : List (Key × V)) (kds : List (PyData × PyData)), n = m + 1 ∧ b = false ∧ v = .ref a ∧ d = .dict kds ∧ G a = some (.dK kvs) ∧ Paired (fun (p : Key × V) (q : PyData × PyData) => Sc (kV p.1) q.1 ∧ Dq G m true p.2 q.2) kvs kds ∧ kvs.length ≤ 100 ∧ (kvs.map (·.1)).Nodup) := by
  match n, h with
  | 0, h => exact .inl h
  | m + 1, h =>
    rcases h with h | ⟨e, a, xs, ds, r⟩ | ⟨a, xs, ds, r⟩ | ⟨e, a, kvs, kds, r⟩
    · exact .inl h
    · exact .inr (.inl ⟨m, a, xs, ds, rfl, e, r⟩)
    · exact .inr (.inr (.inl ⟨m, a, xs, ds, rfl, r⟩))
    · exact .inr (.inr (.inr ⟨m, a, kvs, kds, rfl, e, r⟩))
theorem ok_kept {f : Addr} {fd : FuncData} (T : TxtK mg) (U : Def K mg "kept" sKept ["value"] f fd) : ∀ n, FnOk P w K mg base CX0 n f fd ["value"] (spK n)
  | 0 => ⟨fun _ _ _ _ h => h.elim, fun _ _ _ _ _ _ _ _ _ _ _ _ _ h => h.elim⟩
  | n + 1 => by
    have GK : FnOk P w K mg base CX0 n f fd ["value"] (spK n) := ok_kept T U n
    refine U.F.ok scKept (fun vs H Q E h => ?_) (fun cdv A outer s H vs Q E hr h => ?_)
    · obtain ⟨b, v, d, G, rfl, _⟩ := h
      rfl
    · obtain ⟨b, v, d, G, rfl, sG, hq, k⟩ := h
      refine ⟨_, pss_cons (ps_if (pt_val (pe_callB call_isi (by rfl) T.isi (by decide +kernel) (pa_cons (pv 0) (pa_cons (pe_bltn (v := .ty "tuple") rfl T.tuple rfl rfl) pa_nil))))
          (pss_cons (ps_if (pt_not (pt_val (pe_callB (cr_any rfl) (by rfl) T.any (by decide +kernel) (pa_cons
              (pe_lc (own := [("part", 1)]) (g := gName 1) (tt := tYes) (te := tCB (rIsiT K) (tCons (tVar 1) (tCons (tTup (tCons (tC (.ty "tuple")) (tCons (tC (.ty "list")) (tCons (tC (.ty "dict")) tNil)))) tNil))) rfl scKept.nd (pi_tup (pv 0)) (blkOk_by (N := ["value", "part", "key"]) (sc := defScope sKept) (by decide +kernel))
                (fun _ _ _ _ _ => pg_name (i := 1) scKept.nd rfl (Or.inl rfl)) (fun _ _ _ _ _ => pts_nil)
                (fun _ _ _ _ _ => pe_callB call_isiT (by rfl) T.isi (by decide +kernel) (pa_cons (pv 1) (pa_cons (pe_tup (pa_cons (pe_bltn (v := .ty "tuple") rfl T.tuple rfl rfl) (pa_cons (pe_bltn (v := .ty "list") rfl T.list rfl rfl) (pa_cons (pe_bltn (v := .ty "dict") rfl T.dict rfl rfl) pa_nil)))) pa_nil)))) pa_nil))))
              (pss_one (ps_ret (pv 0))) pss_nil)
            (pss_one (ps_ret (pe_callTy call_tuple_of (by rfl) T.tuple (by decide +kernel) (pa_cons
              (pe_lc (own := [("part", 1)]) (g := gName 1) (tt := tYes) (te := tCall (spK n) [] E0 (tCons (tVar 1) tNil)) rfl scKept.nd (pi_tup (pv 0)) (blkOk_by (N := ["value", "part", "key"]) (sc := defScope sKept) (by decide +kernel))
                (fun _ _ _ _ _ => pg_name (i := 1) scKept.nd rfl (Or.inl rfl)) (fun _ _ _ _ _ => pts_nil)
                (fun _ _ _ _ _ => pe_call GK hr rfl U.g U.k U.b .nil pass0 (pa_cons (pv 1) pa_nil))) pa_nil)))))
          pss_nil)
        (pss_cons (ps_if (pt_val (pe_callB call_isi (by rfl) T.isi (by decide +kernel) (pa_cons (pv 0) (pa_cons (pe_bltn (v := .ty "list") rfl T.list rfl rfl) pa_nil))))
          (pss_one (ps_ret (pe_lc (own := [("part", 1)]) (g := gName 1) (tt := tYes) (te := tCall (spK n) [] E0 (tCons (tVar 1) tNil)) rfl scKept.nd (pi_list (pv 0)) (blkOk_by (N := ["value", "part", "key"]) (sc := defScope sKept) (by decide +kernel))
                (fun _ _ _ _ _ => pg_name (i := 1) scKept.nd rfl (Or.inl rfl)) (fun _ _ _ _ _ => pts_nil)
                (fun _ _ _ _ _ => pe_call GK hr rfl U.g U.k U.b .nil pass0 (pa_cons (pv 1) pa_nil)))))
          pss_nil)
        (pss_cons (ps_if (pt_val (pe_callB call_isi (by rfl) T.isi (by decide +kernel) (pa_cons (pv 0) (pa_cons (pe_bltn (v := .ty "dict") rfl T.dict rfl rfl) pa_nil))))
          (pss_one (ps_ret (pe_lock (pe_dc (own := [("key", 2), ("part", 1)]) (g := gTup K 2 (gCons (gName 2) (gCons (gName 1) gNil))) (tt := tYes) (tk := tVar 2) (tv := tCall (spK n) [] E0 (tCons (tVar 1) tNil)) rfl scKept.nd (pi_items (pv 0)) (blkOk_by (N := ["value", "part", "key"]) (sc := defScope sKept) (by decide +kernel))
                (fun _ _ _ _ _ => pg_tup rfl (pgs_cons (pg_name (i := 2) scKept.nd rfl (Or.inl rfl)) (pgs_cons (pg_name (i := 1) scKept.nd rfl (Or.inl rfl)) pgs_nil))) (fun _ _ _ _ _ => pts_nil)
                (fun _ _ _ _ _ => pv 2) (fun _ _ _ _ _ => pe_call GK hr rfl U.g U.k U.b .nil pass0 (pa_cons (pv 1) pa_nil)) (fun _ => rfl)))))
          pss_nil)
        (pss_one (ps_ret (pv 0))))), ?_⟩
      rcases dq_alt hq with hs | ⟨m, a, xs, ds, rfl, rfl, rfl, rfl, ha, hp, hl⟩ | ⟨m, a, xs, ds, rfl, rfl, rfl, ha, hp, hl⟩ | ⟨m, a, kvs, kds, rfl, rfl, rfl, rfl, ha, hp, hl, nd⟩
      · obtain ⟨t, ty, h1, h2, h3⟩ := sc_ty (K := K) (H := H) hs
        have fin : Q v H := k H v (Same.refl H) (Dq.sc hs)
        refine ⟨_, rfl, v, .ty "tuple", .type t, .type "tuple", false, rfl, .ty "tuple", ty, kit_ty h1, _, rfl, iteF ?_⟩
        refine ⟨_, rfl, v, .ty "list", .type t, .type "list", false, rfl, .ty "list", ty, kit_ty h2, _, rfl, iteF ?_⟩
        refine ⟨_, rfl, v, .ty "dict", .type t, .type "dict", false, rfl, .ty "dict", ty, kit_ty h3, _, rfl, iteF ?_⟩
        exact ⟨_, rfl, fin⟩
      · have hH := sG _ _ ha
        have lds : ds.length ≤ 100 := by rw [← pr_len hp]; exact hl
        refine ⟨_, rfl, .ref a, .ty "tuple", .type "list", .type "tuple", false, rfl, .ty "tuple", .base (.lst hH), kit_ty (by decide +kernel), _, rfl, iteF ?_⟩
        refine ⟨_, rfl, .ref a, .ty "list", .type "list", .type "list", true, rfl, .ty "list", .base (.lst hH), kit_ty (by decide +kernel), _, rfl, iteT ?_⟩
        refine ⟨_, rfl, a, rfl, ⟨_, SqL.of hH⟩, fun D hD => lc_list (K := K) (a := a) (xs := xs) (Cop G H m false D ds) (Cop.nil hD) (fun i H' _ c => SqL.of (c.1 _ _ hH)) ?_ ?_⟩
        · intro i x H' hx c
          obtain ⟨dx, hdx, qx⟩ := pr_get hp hx
          refine ⟨rfl, okY ⟨_, rfl, false, x, dx, G, rfl, fun a o e => c.1 _ _ (sG _ _ e), qx, fun H2 v' s2 q2 => ?_⟩⟩
          obtain ⟨ys, e1, e2, c2⟩ := c.put hD sG hdx s2 q2
          exact ⟨ys, e1, line100' (by omega), c2⟩
        · rintro H' ⟨s1, ys, h1, h2⟩
          rw [List.take_of_length_le (by rw [pr_len hp]; exact Nat.le_refl _)] at h2
          refine k H' (.ref D) s1 (.inr (.inl ⟨rfl, D, ys, ds, rfl, rfl, old_at (.inr hD) h1, L2.Paired.mapP h2 fun _ _ z => Dq.same hide_same z, by rw [pr_len h2]; exact lds⟩))
      · have hH := sG _ _ ha
        have lds : ds.length ≤ 100 := by rw [← pr_len hp]; exact hl
        refine ⟨_, rfl, .ref a, .ty "tuple", .type "tuple", .type "tuple", true, rfl, .ty "tuple", .base (.tup hH), kit_ty (by decide +kernel), _, rfl, iteT ?_⟩
        refine ⟨_, rfl, a, rfl, ⟨_, SqT.of hH⟩, fun D hD => lc_tup (K := K) (a := a) (xs := xs) (fun i H' => Same H H' ∧ ∃ bs : List Bool, bs.length = i ∧ H' D = some (.lst (bs.map V.bl))) ⟨same_new hD, [], rfl, upd_same⟩ (fun i H' _ c => SqT.of (c.1 _ _ hH)) ?_ ?_⟩
        · rintro i x H' hx ⟨s1, bs, hb, hD'⟩
          obtain ⟨dx, hdx, qx⟩ := pr_get hp hx
          have ix : i < xs.length := (List.getElem?_eq_some_iff.mp hx).1
          refine ⟨rfl, okY ⟨_, rfl, ⟨by show 3 ≤ sizeLine; decide, fun tp htp => ?_⟩⟩⟩
          have s2 := same_new (o := .tup [.ty "tuple", .ty "list", .ty "dict"]) htp
          obtain ⟨t, r, ty, er⟩ := dq_any (K := K) (G := G) (H := upd H' tp (.tup [.ty "tuple", .ty "list", .ty "dict"])) (fun a o e => s2 _ _ (s1 _ _ (sG _ _ e))) qx
          refine ⟨x, tp, [.ty "tuple", .ty "list", .ty "dict"], t, [.type "tuple", .type "list", .type "dict"], r, rfl, upd_same, .cons (.ty _) (.cons (.ty _) (.cons (.ty _) .nil)), ty, er, ?_⟩
          refine ⟨bs.map V.bl, s2 _ _ hD', line100' (by rw [List.length_map]; omega), fun b o e => ?_, bs ++ [r], by simp [hb], ?_⟩
          · rw [upd_ne (ne_of_none e hD)]
            exact s2 _ _ (s1 _ _ e)
          · rw [upd_same, List.map_append]
            rfl
        · rintro H1 ⟨s1, bs, _, hD'⟩
          refine ⟨D, bs, rfl, SqL.of hD', _, rfl, ?_⟩
          by_cases hany : bs.any id = true
          · rw [hany]
            refine iteF ?_
            have hH1 := s1 _ _ hH
            have sG1 : Same G H1 := fun a o e => s1 _ _ (sG _ _ e)
            refine ⟨_, rfl, a, rfl, ⟨_, SqT.of hH1⟩, fun D2 hD2 => lc_tup (K := K) (a := a) (xs := xs) (Cop G H1 m b D2 ds) (Cop.nil hD2) (fun i H' _ c => SqT.of (c.1 _ _ hH1)) ?_ ?_⟩
            · intro i x H' hx c
              obtain ⟨dx, hdx, qx⟩ := pr_get hp hx
              refine ⟨rfl, okY ⟨_, rfl, b, x, dx, G, rfl, fun a o e => c.1 _ _ (sG1 _ _ e), qx, fun H2 v' s2 q2 => ?_⟩⟩
              obtain ⟨ys, e1, e2, c2⟩ := c.put hD2 sG1 hdx s2 q2
              exact ⟨ys, e1, line100' (by omega), c2⟩
            · rintro H' ⟨s2, ys, h1, h2⟩
              rw [List.take_of_length_le (by rw [pr_len hp]; exact Nat.le_refl _)] at h2
              refine ⟨D2, ys, rfl, .inl ⟨SqL.of h1, fun l hl2 => ?_⟩⟩
              have s3 := same_new (o := .tup ys) hl2
              have s02 : Same H H' := fun a o e => s2 _ _ (s1 _ _ e)
              refine k _ (.ref l) (fun a o e => s3 _ _ (s02 _ _ e)) (.inr (.inr (.inl ⟨l, ys, ds, rfl, rfl, old_at (.inr (s02.free hl2)) upd_same, L2.Paired.mapP h2 fun _ _ z => Dq.same (fun a o e => ?_) z, by rw [pr_len h2]; exact lds⟩)))
              obtain ⟨c, e1⟩ := old_of (hide_same _ _ e)
              refine old_at ?_ (s3 _ _ e1)
              rcases c with c | c
              · exact .inl c
              · exact .inr (s1.free c)
          · have hf : bs.any id = false := by
              cases q : bs.any id
              · rfl
              · exact absurd q hany
            rw [hf]
            exact iteT ⟨_, rfl, k H1 (.ref a) s1 (Dq.same (fun a o e => old_at (.inl ⟨o, e⟩) (s1 _ _ (sG _ _ e))) hq)⟩
      · have hH := sG _ _ ha
        refine ⟨_, rfl, .ref a, .ty "tuple", .type "dict", .type "tuple", false, rfl, .ty "tuple", .base (.dK hH), kit_ty (by decide +kernel), _, rfl, iteF ?_⟩
        refine ⟨_, rfl, .ref a, .ty "list", .type "dict", .type "list", false, rfl, .ty "list", .base (.dK hH), kit_ty (by decide +kernel), _, rfl, iteF ?_⟩
        refine ⟨_, rfl, .ref a, .ty "dict", .type "dict", .type "dict", true, rfl, .ty "dict", .base (.dK hH), kit_ty (by decide +kernel), _, rfl, iteT ?_⟩
        refine ⟨a, .dK kvs, hH, True.intro, fun od => ?_⟩
        generalize hHl : upd H a (.frz od (.dK kvs)) = Hl
        have la : Hl a = some (.frz od (.dK kvs)) := by rw [← hHl]; exact upd_same
        have ln : ∀ {b : Addr}, b ≠ a → Hl b = H b := fun n => by rw [← hHl]; exact upd_ne n
        refine ⟨_, rfl, a, od, kvs, rfl, la, fun D hD => dc_its (fun i H' => Same Hl H' ∧ ∃ ks : List (Key × V), H' D = some (.dK ks) ∧ ks.map (·.1) = (kvs.take i).map (·.1) ∧
          Paired (fun (p : Key × V) (q : PyData × PyData) => Sc (kV p.1) q.1 ∧ Dq (old (hide a G) Hl H') m true p.2 q.2) ks (kds.take i)) ⟨same_new hD, [], upd_same, rfl, .nil⟩ (fun i H' c => c.1 _ _ la) ?_ ?_⟩
        · rintro i kk v T H' hk ⟨s1, ks, hD', hkeys, hp'⟩ hT
          obtain ⟨q, hq1, hsc, hqd⟩ := pr_get hp hk
          refine ⟨T, _, rfl, SqT.of upd_same, rfl, _, _, rfl, _, _, rfl, rfl, rfl, okY ⟨_, rfl, _, rfl, ?_⟩⟩
          have sT := same_new (o := .tup [kV kk, v]) hT
          generalize upd H' T (.tup [kV kk, v]) = H1 at sT
          have s0 : Same (hide a G) H1 := fun b o e => by
            have nb : b ≠ a := fun z => by subst z; unfold hide at e; rw [if_pos rfl] at e; cases e
            exact sT _ _ (s1 _ _ (by rw [ln nb]; exact sG _ _ (hide_same _ _ e)))
          have hqt : Dq (hide a G) m true v q.2 := Dq.tups (fun b xs e => hide_at (fun z => by rw [z, ha] at e; cases e) e) hqd
          refine ⟨true, v, q.2, hide a G, rfl, s0, hqt, fun H2 v' s2 q2 => ?_⟩
          have hD2 : H2 D = some (.dK ks) := s2 _ _ (sT _ _ hD')
          have fresh : valV ks kk = none := by
            unfold valV
            rw [List.find?_eq_none.mpr]
            · rfl
            · intro x hx z
              have z : x.1 = kk := by simpa using z
              have m1 : kk ∈ ks.map (·.1) := List.mem_map.mpr ⟨x, hx, z⟩
              rw [hkeys] at m1
              have e := take_succ1 hk
              have nd2 : ((kvs.take (i + 1)).map (·.1)).Nodup := (nd.sublist ((List.take_sublist _ _).map _))
              rw [e, List.map_append, List.nodup_append] at nd2
              exact nd2.2.2 _ m1 _ (by simp) rfl
          have il : i < kvs.length := (List.getElem?_eq_some_iff.mp hk).1
          have lk : ks.length = i := by
            have := congrArg List.length hkeys
            rw [List.length_map, List.length_map, List.length_take] at this
            omega
          refine ⟨ks, kk, rfl, hD2, line100' (by omega), fun b o e => ?_, ks ++ [(kk, v')], by rw [upd_same, putK_new _ fresh], ?_, ?_⟩
          · rw [upd_ne (ne_of_none e hD)]
            exact s2 _ _ (sT _ _ (s1 _ _ e))
          · rw [take_succ1 hk, List.map_append, List.map_append, hkeys]
            rfl
          · refine pr_take (L2.Paired.mapP hp' fun _ _ z => ⟨z.1, Dq.tups (fun b xs e => ?_) z.2⟩) hq1 ⟨hsc, Dq.tups (fun b xs e => ?_) q2⟩
            · obtain ⟨c, e1⟩ := old_of e
              have nb : b ≠ D := ne_of e1 hD' (fun z => by cases z)
              exact old_at c (by rw [upd_ne nb]; exact s2 _ _ (sT _ _ e1))
            · obtain ⟨c, e1⟩ := old_of e
              have nb : b ≠ D := ne_of e1 hD2 (fun z => by cases z)
              refine old_at ?_ (by rw [upd_ne nb]; exact e1)
              rcases c with c | c
              · exact .inl c
              · exact .inr (Same.free (H := Hl) (H' := H1) (fun b o e => sT _ _ (s1 _ _ e)) c)
        · rintro H' ⟨s1, ks, hD', hkeys, hp'⟩
          have fa : H' a = some (.frz od (.dK kvs)) := s1 _ _ la
          have nDa : D ≠ a := fun z => by rw [z, la] at hD; cases hD
          have hDn : H D = none := by rw [← ln nDa]; exact hD
          rw [List.take_of_length_le (Nat.le_refl _)] at hkeys
          rw [List.take_of_length_le (by rw [pr_len hp]; exact Nat.le_refl _)] at hp'
          have lk : ks.length = kvs.length := by
            have := congrArg List.length hkeys
            rwa [List.length_map, List.length_map] at this
          refine ⟨fa, k _ (.ref D) (fun b o e => ?_) (.inr (.inr (.inr ⟨rfl, D, ks, kds, rfl, rfl, old_at (.inr hDn) (by rw [upd_ne nDa]; exact hD'), L2.Paired.mapP hp' fun _ _ z => ⟨z.1, Dq.tups (fun b xs e => ?_) z.2⟩, by omega, by rw [hkeys]; exact nd⟩)))⟩
          · by_cases z : b = a
            · subst z
              rw [hH] at e
              cases e
              exact upd_same
            · rw [upd_ne z]
              exact s1 _ _ (by rw [ln z]; exact e)
          · obtain ⟨c, e1⟩ := old_of e
            have nb : b ≠ a := ne_of e1 fa (fun z => by cases z)
            refine old_at ?_ (by rw [upd_ne nb]; exact e1)
            rcases c with ⟨u, c⟩ | c
            · exact .inl ⟨u, hide_same _ _ c⟩
            · exact .inr (by rw [← ln nb]; exact c)
end

/-! ### the __init__s -/
def spI1 (K : PySem.W.Frag) (f : Str) : Sp := fun vs H Q _ => ∃ (a C : Addr) (v : V) (d : PyData) (G : Hp), vs = [.ref a, v] ∧ OexC K C ∧ PySem.W.findIn K (.ref C) f = some none ∧ H a = some (exo a C none) ∧ Same G H ∧ G a = none ∧ Dq G 2 false v d ∧
  ∀ (Hf : Hp) (v' : V) (dd : Addr), Same (hide a H) Hf → Hf a = some (exo a C (some dd)) → Hf dd = some (exd dd [(f, v')]) → H dd = none → Dq Hf 2 false v' d → Q .non Hf
def spI2 (K : PySem.W.Frag) (f1 f2 : Str) : Sp := fun vs H Q _ => ∃ (a C : Addr) (v1 v2 : V) (d1 d2 : PyData) (G : Hp), vs = [.ref a, v1, v2] ∧ OexC K C ∧ PySem.W.findIn K (.ref C) f1 = some none ∧ PySem.W.findIn K (.ref C) f2 = some none ∧ H a = some (exo a C none) ∧
  Same G H ∧ G a = none ∧ Dq G 2 false v1 d1 ∧ Dq G 2 false v2 d2 ∧
  ∀ (Hf : Hp) (v1' v2' : V) (dd : Addr), Same (hide a H) Hf → Hf a = some (exo a C (some dd)) → Hf dd = some (exd dd [(f2, v2'), (f1, v1')]) → H dd = none → Dq Hf 2 false v1' d1 → Dq Hf 2 false v2' d2 → Q .non Hf
/-- of what is old in this way, nothing stands at a -/
theorem old_ne {G H H' : Hp} {a b : Addr} {o u : HO} (ha : H a = some u) (hg : G a = none) (e : old G H H' b = some o) : b ≠ a := fun z => by
  subst z
  obtain ⟨c, _⟩ := old_of e
  rcases c with ⟨u, c⟩ | c
  · rw [hg] at c; cases c
  · rw [ha] at c; cases c
section
variable {P : Program} {w : World} {K : PySem.W.Frag} {mg : Str → Option Value} {base : Heap}
theorem ok_init1 {st : Stmt} {f qual : Str} {fI fK : Addr} {fd fdK : FuncData} {p1 p2 p3 p4 p5 p6 : Pos} (F : Fun K "__init__" qual st fI fd) (T : TxtK mg) (U : Def K mg "kept" sKept ["value"] fK fdK) (S : FnScope ["self", f] ["self", f] (defScope st))
    (hB : defBody st = [.Assign [.Attribute (.Name "self" p1) f p2] (.Call (.Name "kept" p5) [.Name f p3] [] p6) p4])
    (h0 : Vis (defScope st) "self") (h1 : Vis (defScope st) f) (hgk : (defScope st).names.lookup ("kept" : Str) = some .globalImplicit) (hd : (f == ("__debug__" : Str)) = false) (hc : (f == ("__classdict__" : Str)) = false) : FnOk P w K mg base CX0 4 fI fd ["self", f] (spI1 K f) := by
  have GK : FnOk P w K mg base CX0 3 fK fdK ["value"] (spK 3) := ok_kept T U 3
  refine F.ok S (fun vs H Q E h => ?_) (fun cdv A outer s H vs Q E hr h => ?_)
  · obtain ⟨a, C, v, d, G, rfl, _⟩ := h
    rfl
  · obtain ⟨a, C, v, d, G, rfl, O, no, ha, sG, ga, hq, k⟩ := h
    rw [hB]
    refine ⟨_, pss_one (ps_ost (pv 0 rfl h0) (pe_call GK hr hgk U.g U.k U.b .nil pass0 (pa_cons (pv 1 rfl h1 hd hc) pa_nil))), ?_⟩
    refine ⟨_, rfl, false, v, d, G, rfl, sG, hq, fun H' v' s q => ⟨_, rfl, a, C, rfl, O, no, .inl ⟨s _ _ ha, fun dd hn ne => ?_⟩⟩⟩
    refine k _ v' dd (fun b o e => ?_) upd_same (by rw [upd_ne ne, upd_same]) (s.free hn) (Dq.same (fun b o e => ?_) q)
    · have nb : b ≠ a := fun z => by subst z; unfold hide at e; rw [if_pos rfl] at e; cases e
      have e1 := s _ _ (hide_same _ _ e)
      rw [upd_ne nb, upd_ne (ne_of_none e1 hn)]
      exact e1
    · have nb := old_ne ha ga e
      obtain ⟨_, e1⟩ := old_of e
      rw [upd_ne nb, upd_ne (ne_of_none e1 hn)]
      exact e1
theorem ok_init2 {st : Stmt} {f1 f2 qual : Str} {fI fK : Addr} {fd fdK : FuncData} {p1 p2 p3 p4 p5 p6 q1 q2 q3 q4 q5 q6 : Pos} (F : Fun K "__init__" qual st fI fd) (T : TxtK mg) (U : Def K mg "kept" sKept ["value"] fK fdK) (S : FnScope ["self", f1, f2] ["self", f1, f2] (defScope st))
    (hB : defBody st = [.Assign [.Attribute (.Name "self" p1) f1 p2] (.Call (.Name "kept" p5) [.Name f1 p3] [] p6) p4, .Assign [.Attribute (.Name "self" q1) f2 q2] (.Call (.Name "kept" q5) [.Name f2 q3] [] q6) q4])
    (h0 : Vis (defScope st) "self") (h1 : Vis (defScope st) f1) (h2 : Vis (defScope st) f2) (hgk : (defScope st).names.lookup ("kept" : Str) = some .globalImplicit) (hd : (f1 == ("__debug__" : Str)) = false) (hc : (f1 == ("__classdict__" : Str)) = false) (hd2 : (f2 == ("__debug__" : Str)) = false) (hc2 : (f2 == ("__classdict__" : Str)) = false) :
    FnOk P w K mg base CX0 4 fI fd ["self", f1, f2] (spI2 K f1 f2) := by
  have GK : FnOk P w K mg base CX0 3 fK fdK ["value"] (spK 3) := ok_kept T U 3
  refine F.ok S (fun vs H Q E h => ?_) (fun cdv A outer s H vs Q E hr h => ?_)
  · obtain ⟨a, C, v1, v2, d1, d2, G, rfl, _⟩ := h
    rfl
  · obtain ⟨a, C, v1, v2, d1, d2, G, rfl, O, no1, no2, ha, sG, ga, hq1, hq2, k⟩ := h
    rw [hB]
    refine ⟨_, pss_cons (ps_ost (pv 0 rfl h0) (pe_call GK hr hgk U.g U.k U.b .nil pass0 (pa_cons (pv 1 rfl h1 hd hc) pa_nil))) (pss_one (ps_ost (pv 0 rfl h0) (pe_call GK hr hgk U.g U.k U.b .nil pass0 (pa_cons (pv 2 rfl h2 hd2 hc2) pa_nil)))), ?_⟩
    refine ⟨_, rfl, false, v1, d1, G, rfl, sG, hq1, fun H1 v1' s1 r1 => ⟨_, rfl, a, C, rfl, O, no1, .inl ⟨s1 _ _ ha, fun dd hn ne => ?_⟩⟩⟩
    have keep1 : ∀ b o, b ≠ a → H1 b = some o → upd (upd H1 dd (exd dd [(f1, v1')])) a (exo a C (some dd)) b = some o := fun b o nb e => by
      rw [upd_ne nb, upd_ne (ne_of_none e hn)]
      exact e
    have ea : upd (upd H1 dd (exd dd [(f1, v1')])) a (exo a C (some dd)) a = some (exo a C (some dd)) := upd_same
    have ed : upd (upd H1 dd (exd dd [(f1, v1')])) a (exo a C (some dd)) dd = some (exd dd [(f1, v1')]) := by rw [upd_ne ne, upd_same]
    generalize upd (upd H1 dd (exd dd [(f1, v1')])) a (exo a C (some dd)) = H2 at keep1 ea ed
    have sG2 : Same G H2 := fun b o e => keep1 b o (fun z => by subst z; rw [ga] at e; cases e) (s1 _ _ (sG _ _ e))
    refine ⟨_, rfl, false, v2, d2, G, rfl, sG2, hq2, fun H3 v2' s3 r3 => ?_⟩
    refine ⟨_, rfl, a, C, rfl, O, no2, .inr ⟨dd, _, s3 _ _ ea, s3 _ _ ed, by show 1 ≤ 900; decide, ?_⟩⟩
    have gd : H dd = none := s1.free hn
    have gG : G dd = none := sG.free gd
    refine k _ v1' v2' dd (fun b o e => ?_) (by rw [upd_ne ne.symm]; exact s3 _ _ ea) upd_same gd (Dq.same (fun b o e => ?_) r1) (Dq.same (fun b o e => ?_) r3)
    · have nb : b ≠ a := fun z => by subst z; unfold hide at e; rw [if_pos rfl] at e; cases e
      have e1 := s1 _ _ (hide_same _ _ e)
      rw [upd_ne (ne_of_none e1 hn)]
      exact s3 _ _ (keep1 _ _ nb e1)
    · have nb := old_ne ha ga e
      obtain ⟨_, e1⟩ := old_of e
      rw [upd_ne (ne_of_none e1 hn)]
      exact s3 _ _ (keep1 _ _ nb e1)
    · have nb := old_ne ed gG e
      obtain ⟨_, e1⟩ := old_of e
      rw [upd_ne nb]
      exact e1
end

def gPos {α : Type} (us ws : List α) : List α := us
def gKey {α : Type} (us ws : List α) : List α := match us, ws with
  | [u], [w] => [u, w]
  | _, _ => []
/-- the class at C has an __init__ of one field f -/
structure I1 (P : Program) (w : World) (K : PySem.W.Frag) (mg : Str → Option Value) (base : Heap) (C : Addr) (f : Str) : Prop where
  ex : ∃ (fI : Addr) (fd : FuncData), PySem.W.findIn K (.ref C) "__init__" = some (some (.ref fI)) ∧ PySem.W.typeIn K (.ref fI) = some (.type "function") ∧ FnOk P w K mg base CX0 4 fI fd ["self", f] (spI1 K f) ∧
    KBinds K fd ["self", f] [] gPos gPos ∧ KBinds K fd ["self", f] [f] gKey gKey
  no : PySem.W.findIn K (.ref C) f = some none

def gKey2 {α : Type} (us ws : List α) : List α := match us, ws with
  | [u], [w1, w2] => [u, w2, w1]
  | _, _ => []
structure I2 (P : Program) (w : World) (K : PySem.W.Frag) (mg : Str → Option Value) (base : Heap) (C : Addr) (f1 f2 : Str) : Prop where
  ex : ∃ (fI : Addr) (fd : FuncData), PySem.W.findIn K (.ref C) "__init__" = some (some (.ref fI)) ∧ PySem.W.typeIn K (.ref fI) = some (.type "function") ∧ FnOk P w K mg base CX0 4 fI fd ["self", f1, f2] (spI2 K f1 f2) ∧
    KBinds K fd ["self", f1, f2] [] gPos gPos ∧ KBinds K fd ["self", f1, f2] [f2, f1] gKey2 gKey2
  n1 : PySem.W.findIn K (.ref C) f1 = some none
  n2 : PySem.W.findIn K (.ref C) f2 = some none

def CK (K : PySem.W.Frag) (S : Addr) (x : Str) (C : Addr) : Prop := ∀ (mg : Str → Option Value) (h : Heap), K.In h → h.Ns mainGlobals mg → XC K mg S x C
theorem ck_mk {K : PySem.W.Frag} {S C : Addr} {x : Str} {nm q : Str} {N : Addr} {bs : List Value} {sn : List Str} {sub : List Value} {ab : Bool} {col : Option Bool} {dd : Option Addr} {k0 k1 k2 k3 k5 : Option Value}
    (a : PySem.W.nsIn K mainGlobals x = some (some (.ref C)))
    (l : K.lookup C = some (excClassObj nm q C N bs [.ref S, .type "ValueError", .type "Exception", .type "BaseException", .type "object"] true sn sub ab col dd k0 k1 k2 k3 k5 "ValueError.__new__"))
    (sa : PySem.W.findIn K (.ref C) "__setattr__" = some (some (.builtin "object.__setattr__"))) (exC : PySem.W.subIn K (.ref C) (.type "BaseException") = some true) (tyC : PySem.W.typeIn K (.ref C) = some (.type "type")) (kC : PySem.W.keepIn K (.ref C) = true)
    (hg : PySem.W.findIn K (.ref C) "__getattribute__" = some (some (.builtin "BaseException.__getattribute__"))) (hk : PySem.W.findIn K (.ref C) "__getattr__" = some none) (hd : PySem.W.hasDictIn K C = true) (ha : PySem.W.findIn K (.ref C) "__class__" = some (some (.builtin "object.__class__")))
    (hn : PySem.W.specialIn K (.builtin "object.__class__") "__get__" = some (some (.builtin "getset_descriptor.__get__"))) (ht : PySem.W.takesIn K (.builtin "object.__class__") = some true) (hm : PySem.W.mroIn K C (.type "object") = some true) : CK K S x C := by
  intro mg h X G
  refine ⟨PySem.W.mg_of X G a, ⟨⟨_, _, _, _, _, _, _, _, _, _, _, _, _, _, _, l, rfl⟩, sa, exC, tyC, kC⟩, ⟨hg, hk, exC, hd, ha, hn, ht, hm⟩, ?_⟩
  unfold PySem.W.clsIn
  rw [l]
  exact ⟨_, rfl, rfl⟩

theorem kb_pos {K : PySem.W.Frag} {fd : FuncData} {ps : List Str} (h : ∀ us : List Value, us.length = ps.length → bindArgs fd ⟨us, []⟩ = pure (ps.zip us)) : KBinds K fd ps [] gPos gPos := by
  refine ⟨fun s us ws X hl => ?_, fun r _ => r⟩
  exact .of_eq (h us hl)
theorem kb_key {K : PySem.W.Frag} {fd : FuncData} {a f : Str} (h : ∀ u w : Value, bindArgs fd ⟨[u], [(f, w)]⟩ = pure [(a, u), (f, w)]) : KBinds K fd [a, f] [f] gKey gKey := by
  constructor
  · intro s us ws X hl
    match us, ws, hl with
    | [u], [w], _ => exact .of_eq (h u w)
    | [], _, hl => exact nomatch hl
    | [_], [], hl => exact nomatch hl
    | [_], _ :: _ :: _, hl => exact nomatch hl
    | _ :: _ :: _, _, hl => exact nomatch hl
  · intro vs us zs ws r q
    match r, q with
    | .cons r1 .nil, .cons q1 .nil => exact .cons r1 (.cons q1 .nil)
    | .nil, _ => exact .nil
    | .cons _ .nil, .nil => exact .nil
    | .cons _ .nil, .cons _ (.cons _ _) => exact .nil
    | .cons _ (.cons _ _), _ => exact .nil
theorem kb_key2 {K : PySem.W.Frag} {fd : FuncData} {a f1 f2 : Str} (h : ∀ u w1 w2 : Value, bindArgs fd ⟨[u], [(f2, w2), (f1, w1)]⟩ = pure [(a, u), (f1, w1), (f2, w2)]) : KBinds K fd [a, f1, f2] [f2, f1] gKey2 gKey2 := by
  constructor
  · intro s us ws X hl
    match us, ws, hl with
    | [u], [w2, w1], _ => exact .of_eq (h u w1 w2)
    | [], _, hl => exact nomatch hl
    | [_], [], hl => exact nomatch hl
    | [_], [_], hl => exact nomatch hl
    | [_], _ :: _ :: _ :: _, hl => exact nomatch hl
    | _ :: _ :: _, _, hl => exact nomatch hl
  · intro vs us zs ws r q
    match r, q with
    | .cons r1 .nil, .cons q1 (.cons q2 .nil) => exact .cons r1 (.cons q2 (.cons q1 .nil))
    | .nil, _ => exact .nil
    | .cons _ .nil, .nil => exact .nil
    | .cons _ .nil, .cons _ .nil => exact .nil
    | .cons _ .nil, .cons _ (.cons _ (.cons _ _)) => exact .nil
    | .cons _ (.cons _ _), _ => exact .nil
/-- the __init__ of one field -/
theorem i1_mk {K : PySem.W.Frag} {C fI : Addr} {f qual : Str} {st : Stmt} {oc : Value} {od an : Option Addr} {sl : Array (Option Value)} {kV dc pm cd ct : Value} {p1 p2 p3 p4 p5 p6 : Pos}
    (S : FnScope ["self", f] ["self", f] (defScope st)) (hB : defBody st = [.Assign [.Attribute (.Name "self" p1) f p2] (.Call (.Name "kept" p5) [.Name f p3] [] p6) p4]) (h0 : Vis (defScope st) "self") (h1 : Vis (defScope st) f) (hgk : (defScope st).names.lookup ("kept" : Str) = some .globalImplicit) (hd : (f == ("__debug__" : Str)) = false) (hc : (f == ("__classdict__" : Str)) = false)
    (b1 : ∀ (kV dc pm : Value) (an : Option Addr) (cd ct : Value) (us : List Value), us.length = 2 → bindArgs (PySem.W.fnOf "__init__" qual (defArgs st) (defBody st) (defScope st) .none kV dc pm an cd ct) ⟨us, []⟩ = pure ((["self", f] : List Str).zip us))
    (b2 : ∀ (kV dc pm : Value) (an : Option Addr) (cd ct : Value) (u w : Value), bindArgs (PySem.W.fnOf "__init__" qual (defArgs st) (defBody st) (defScope st) .none kV dc pm an cd ct) ⟨[u], [(f, w)]⟩ = pure [(("self" : Str), u), (f, w)])
    (a : PySem.W.findIn K (.ref C) "__init__" = some (some (.ref fI))) (t : PySem.W.typeIn K (.ref fI) = some (.type "function"))
    (l : K.lookup fI = some ⟨oc, od, .func (PySem.W.fnOf "__init__" qual (defArgs st) (defBody st) (defScope st) .none kV dc pm an cd ct), sl⟩) (c : PySem.W.codeIn K cd qual = true) (k : PySem.W.keepIn K (.ref fI) = true) (no : PySem.W.findIn K (.ref C) f = some none) :
    ∀ (P : Program) (w : World) (mg : Str → Option Value) (base : Heap), TxtK mg → ∀ {fK : Addr} {fdK : FuncData}, Def K mg "kept" sKept ["value"] fK fdK → I1 P w K mg base C f := fun P w mg base T _ _ U =>
  ⟨⟨fI, _, a, t, ok_init1 (fun_mk (st := st) l c k) T U S hB h0 h1 hgk hd hc, kb_pos (b1 kV dc pm an cd ct), kb_key (b2 kV dc pm an cd ct)⟩, no⟩
theorem i2_mk {K : PySem.W.Frag} {C fI : Addr} {f1 f2 qual : Str} {st : Stmt} {oc : Value} {od an : Option Addr} {sl : Array (Option Value)} {kV dc pm cd ct : Value} {p1 p2 p3 p4 p5 p6 q1 q2 q3 q4 q5 q6 : Pos}
    (S : FnScope ["self", f1, f2] ["self", f1, f2] (defScope st)) (hB : defBody st = [.Assign [.Attribute (.Name "self" p1) f1 p2] (.Call (.Name "kept" p5) [.Name f1 p3] [] p6) p4, .Assign [.Attribute (.Name "self" q1) f2 q2] (.Call (.Name "kept" q5) [.Name f2 q3] [] q6) q4])
    (h0 : Vis (defScope st) "self") (h1 : Vis (defScope st) f1) (h2 : Vis (defScope st) f2) (hgk : (defScope st).names.lookup ("kept" : Str) = some .globalImplicit) (hd : (f1 == ("__debug__" : Str)) = false) (hc : (f1 == ("__classdict__" : Str)) = false) (hd2 : (f2 == ("__debug__" : Str)) = false) (hc2 : (f2 == ("__classdict__" : Str)) = false)
    (b1 : ∀ (kV dc pm : Value) (an : Option Addr) (cd ct : Value) (us : List Value), us.length = 3 → bindArgs (PySem.W.fnOf "__init__" qual (defArgs st) (defBody st) (defScope st) .none kV dc pm an cd ct) ⟨us, []⟩ = pure ((["self", f1, f2] : List Str).zip us))
    (b2 : ∀ (kV dc pm : Value) (an : Option Addr) (cd ct : Value) (u w1 w2 : Value), bindArgs (PySem.W.fnOf "__init__" qual (defArgs st) (defBody st) (defScope st) .none kV dc pm an cd ct) ⟨[u], [(f2, w2), (f1, w1)]⟩ = pure [(("self" : Str), u), (f1, w1), (f2, w2)])
    (a : PySem.W.findIn K (.ref C) "__init__" = some (some (.ref fI))) (t : PySem.W.typeIn K (.ref fI) = some (.type "function"))
    (l : K.lookup fI = some ⟨oc, od, .func (PySem.W.fnOf "__init__" qual (defArgs st) (defBody st) (defScope st) .none kV dc pm an cd ct), sl⟩) (c : PySem.W.codeIn K cd qual = true) (k : PySem.W.keepIn K (.ref fI) = true) (n1 : PySem.W.findIn K (.ref C) f1 = some none) (n2 : PySem.W.findIn K (.ref C) f2 = some none) :
    ∀ (P : Program) (w : World) (mg : Str → Option Value) (base : Heap), TxtK mg → ∀ {fK : Addr} {fdK : FuncData}, Def K mg "kept" sKept ["value"] fK fdK → I2 P w K mg base C f1 f2 := fun P w mg base T _ _ U =>
  ⟨⟨fI, _, a, t, ok_init2 (fun_mk (st := st) l c k) T U S hB h0 h1 h2 hgk hd hc hd2 hc2, kb_pos (b1 kV dc pm an cd ct), kb_key2 (b2 kV dc pm an cd ct)⟩, n1, n2⟩
/-- a def of the module -/
theorem d_mk {K : PySem.W.Frag} {x : Str} {st : Stmt} {ps : List Str} {f : Addr} {oc : Value} {od an : Option Addr} {sl : Array (Option Value)} {kV dc pm cd ct : Value}
    (b : ∀ (kV dc pm : Value) (an : Option Addr) (cd ct : Value) (us : List Value), us.length = ps.length → bindArgs (PySem.W.fnOf x x (defArgs st) (defBody st) (defScope st) .none kV dc pm an cd ct) ⟨us, []⟩ = pure (ps.zip us))
    (a : PySem.W.nsIn K mainGlobals x = some (some (.ref f))) (l : K.lookup f = some ⟨oc, od, .func (PySem.W.fnOf x x (defArgs st) (defBody st) (defScope st) .none kV dc pm an cd ct), sl⟩) (c : PySem.W.codeIn K cd x = true) (k : PySem.W.keepIn K (.ref f) = true) :
    ∀ (mg : Str → Option Value) (h : Heap), K.In h → h.Ns mainGlobals mg → ∃ fd, Def K mg x st ps f fd := fun mg h X G => by
  have F := fun_mk (st := st) l c k
  exact ⟨_, PySem.W.mg_of X G a, k, F.binds b, F⟩
/-- data speaks of lists, tuples and dicts alone -/
def datO : HO → Bool
  | .lst _ => true
  | .tup _ => true
  | .dK _ => true
  | _ => false
theorem Dq.dat {H H' : Hp} (s : ∀ b o, datO o = true → H b = some o → H' b = some o) : ∀ {n : Nat} {b : Bool} {v : V} {d : PyData}, Dq H n b v d → Dq H' n b v d
  | 0, _, _, _, h => h
  | n + 1, b, v, d, h => by
    have ih : ∀ {b v d}, Dq H n b v d → Dq H' n b v d := fun h => Dq.dat s h
    rcases h with h | ⟨e0, a, xs, ds, e1, e2, h1, h2, h3⟩ | ⟨a, xs, ds, e1, e2, h1, h2, h3⟩ | ⟨e0, a, xs, ds, e1, e2, h1, h2, h3⟩
    · exact .inl h
    · exact .inr (.inl ⟨e0, a, xs, ds, e1, e2, s _ _ rfl h1, L2.Paired.mapP h2 fun _ _ z => ih z, h3⟩)
    · exact .inr (.inr (.inl ⟨a, xs, ds, e1, e2, s _ _ rfl h1, L2.Paired.mapP h2 fun _ _ z => ih z, h3⟩))
    · exact .inr (.inr (.inr ⟨e0, a, xs, ds, e1, e2, s _ _ rfl h1, L2.Paired.mapP h2 fun _ _ z => ⟨z.1, ih z.2⟩, h3⟩))
end Kone
namespace Gd
open PySem PySem.Spec PyProof.Rows L2
/-! ### a display of a dict whose keys are tuples of ints and texts -/
def mergeT (kvs more : List (List Key × V)) : List (List Key × V) := more.foldl (fun acc kv => putK acc kv.1 kv.2) kvs
theorem length_mergeT : ∀ (more kvs : List (List Key × V)), (mergeT kvs more).length ≤ kvs.length + more.length
  | [], kvs => by show kvs.length ≤ kvs.length + 0; omega
  | p :: r, kvs => by
    have h1 := length_mergeT r (putK kvs p.1 p.2)
    have h2 := length_putK kvs p.1 p.2
    show (mergeT (putK kvs p.1 p.2) r).length ≤ _
    rw [List.length_cons]; omega
theorem KT.merge {H : Hp} : ∀ {more : List (List Key × V)} {rs : List (List Key × Addr × Value)} {kvs : List (List Key × V)} {xs : List (List Key × Addr × Value)}, KT H more rs → KT H kvs xs → KT H (mergeT kvs more) (storedAllH xs rs) := by
  intro more rs kvs xs r
  unfold KT at r
  induction r generalizing kvs xs with
  | nil => intro q; exact q
  | @cons p q ps qs h t ih =>
    intro r0
    obtain ⟨h1, h2, h3⟩ := h
    have e : KT H (putK kvs p.1 p.2) (storedH xs q.1 q.2.1 q.2.2) := by
      have := r0.put p.1 h2 h3
      rw [← h1]; exact this
    exact ih e
/-- these pairs have these keys and values -/
abbrev KPs (H : Hp) : List (V × V) → List (List Key × V) → Prop := Paired fun x q => ∃ b, x.1 = .ref b ∧ H b = some (.tup (q.1.map kV)) ∧ x.2 = q.2
theorem carriesH_of {P : Program} {w : World} {H : Hp} {h : Heap} (ok : HOk P w H h) : ∀ {ps : List (V × V)} {kvs : List (List Key × V)} {ws : List (Value × Value)}, KPs H ps kvs → VV ps ws → ∃ rs, CarriesH (tupleKind (mixKind P w)) h ws rs ∧ KT H kvs rs
  | _, _, _, .nil, .nil => ⟨[], True.intro, .nil⟩
  | _, _, _, .cons p1 p2, .cons (b := b) v1 v2 => by
    rename_i x q xs qs ys
    obtain ⟨rs, c, k⟩ := carriesH_of ok p2 v2
    obtain ⟨a, e1, e2, e3⟩ := p1
    obtain ⟨r1, r2⟩ := v1
    rw [e1] at r1
    rw [e3] at r2
    obtain ⟨b1, b2⟩ := b
    cases (show b1 = Value.ref a from r1)
    exact ⟨(q.1, a, b2) :: rs, ⟨rfl, rfl, key_of ok e2, c⟩, .cons ⟨rfl, e2, r2⟩ k⟩
def tDispT (trs : List (TE × TE)) : TE := fun σ H Q => ∀ p, H p = none → tPairs trs σ (upd H p (.dT [])) fun ps H2 => H2 p = some (.dT []) ∧ ∃ kvs : List (List Key × V), KPs H2 ps kvs ∧ kvs.length ≤ 15 ∧ Q (.ref p) (upd H2 p (.dT (mergeT [] kvs)))
theorem pe_dispT {X : Cx} {pos : Pos} {keys : List (Option Expr)} {values : List Expr} {trs : List (TE × TE)} (hu : X.A.units + 1 < cLine) (h : PPs X pos keys values trs) (hall : keys.all (·.isSome) = true) (hl : keys.length = values.length) (h0 : keys ≠ [])
    (h15 : keys.length ≤ 15) : PE X (.Dict keys values pos) (tDispT trs) := by
  refine ⟨fun pins s σ H Q I q => ?_⟩
  have hn := I.hok.fresh (Nat.le_refl s.heap.objs.size)
  have I1 := I.laid (a := s.heap.objs.size) (o := .dT []) (h' := s.heap.push { cls := .type "dict", data := .dict #[] }) (t' := s.toks) (fun _ _ q => Heap.get?_push_of_some _ q) (Nat.le_refl _) (dt_empty s.heap I.big)
  have hp := pairTrees_length keys values X.env pos hall hl
  have hne : pairTrees keys values X.env pos ≠ [] := fun he => by
    rw [he] at hp
    exact h0 (List.length_eq_zero_iff.mp hp.symm)
  rw [arm_eval_Dict, zip_pairTrees keys values X.env pos hall hl, dictDisplay_pairs (pairTrees keys values X.env pos) hne (by rw [hp]; omega)]
  refine wpAny_bind (wpAny_standAt (wpAny_bind (wpAny_subDictH (knd := tupleKind (mixKind X.prog X.w)) (Q := fun d s' => wpAny (model X.prog X.w) X.A (pure (Value.ref d)) (EP X pins σ Q) X.xe s') (show X.A.units < cLine by omega) (by rw [hp]; exact h15) ?_)))
  refine thn (h.run pins _ σ _ _ I1 (q _ hn)) fun ws s2 ⟨ps, H2, I2, rel, e, kvs, pr, lk, q2⟩ => ?_
  obtain ⟨rs, c, rk⟩ := carriesH_of I2.hok pr rel
  obtain ⟨z, hd, vs0, r0, dd⟩ := dt_of I2.hok e
  cases r0
  refine ⟨rs, c, dd, fun h' tk dd' hs => wpAny_pure ⟨.ref s.heap.objs.size, _, ?_, rfl, q2⟩⟩
  have hz : (mergeT [] kvs).length ≤ sizeLine := by
    have h1 := length_mergeT kvs []
    rw [List.length_nil] at h1
    rw [sizeLine_eq]; omega
  obtain ⟨qo, es, ep, hq, h2, h3, h4, _, h5⟩ := dd'
  refine d_write I2 (by rw [e]; exact True.intro) hs ⟨qo, hq⟩ ⟨hz, hd, _, L2.KT.keeps (KT.merge rk .nil) fun c ys ec => ?_, qo, es, ep, hq, h2, h3, h4, h5⟩
  rw [upd_ne (ne_of ec e (fun z => nomatch z))]
  exact ec
end Gd
namespace Gd
open PySem PySem.Spec PyProof.Rows L2
/-! ### d.items() of a locked dict whose keys are tuples -/
section
variable {X : Cx} {pins : List (Addr × Obj)} {σ : L2.St} {H : Hp} {s : Shared} {d : Addr} {o : Obj}
theorem frzT2 {kvs : List (List Key × V)} (I : Inv X pins σ H s) (h : H d = some (.frz o (.dT kvs))) :
    (d == sysModules) = false ∧ s.heap.get? d = some o ∧ o.ExactDict ∧ ∃ (es : Array DictEntry) (ep : Nat), o.data = .dict es ep ∧ es.size = kvs.length ∧
      ∀ (i : Nat) (k : List Key) (v : V), kvs[i]? = some (k, v) → ∃ (en : DictEntry) (q : Addr), es[i]? = some en ∧ en.key = .ref q ∧ H q = some (.tup (k.map kV)) ∧ RelV v en.val := by
  obtain ⟨hd, z, hs, xs, pr, o', es, ep, ho, hx, hdt, he, _⟩ := I.hok d _ h
  rw [hd] at ho
  cases ho
  refine ⟨hs, hd, hx, es, ep, hdt, ?_, fun i k v e => ?_⟩
  · have l1 : es.size = xs.length := size_of_entries he
    have l2 : kvs.length = xs.length := Paired.length pr
    omega
  · obtain ⟨b, hb, e1, e2, e3⟩ := paired_get pr e
    have q := entry_at he i
    rw [hb] at q
    exact ⟨_, b.2.1, q, rfl, e2, e3⟩
end
/-- the pairs, each a new tuple of the key's own tuple and the value -/
def Itit (d : Addr) (o : Obj) (kvs : List (List Key × V)) : It :=
  ⟨fun i H => H d = some (.frz o (.dT kvs)) ∧ i < kvs.length, fun i H x H' => ∃ (T q : Addr) (k : List Key) (v : V), kvs[i]? = some (k, v) ∧ x = .ref T ∧ H q = some (.tup (k.map kV)) ∧ H T = none ∧ H' = upd H T (.tup [.ref q, v]), fun i H => H d = some (.frz o (.dT kvs)) ∧ kvs.length ≤ i⟩
section
variable {P : Program} {w : World} {K : PySem.W.Frag} {d : Addr} {o : Obj} {es : Array DictEntry} {ep : Nat}
theorem turn_itemsT {kvs : List (List Key × V)} {elts : List Expr} {kk : Nat} {tpos : Pos} (it : Addr) (hod : o.data = .dict es ep) :
    Turn P w K (.Tuple elts kk tpos) (Itit d o kvs) [it] it (fun i h => ∃ ok ov, IsItemIter h it d i kvs.length ep ok ov) where
  mem := by simp
  obj := fun i h st b hb => by
    have e : b = it := by simpa using hb
    subst e
    obtain ⟨ok, ov, e⟩ := st
    exact ⟨_, e, fun v z => nomatch z⟩
  keep := fun i h h' st k => let ⟨ok, ov, e⟩ := st; ⟨ok, ov, k it (by simp) _ e⟩
  item := by
    intro X hP hw hK hc i pins s σ H E I hf st hg
    subst hP hw hK
    obtain ⟨hd, hi⟩ := hg
    obtain ⟨hs, hgd, hx, es', ep', hdt, hsz, ent⟩ := frzT2 I hd
    obtain ⟨rfl, rfl⟩ := dict_ep hod hdt
    obtain ⟨⟨k, v⟩, hkv⟩ : ∃ p, kvs[i]? = some p := ⟨kvs[i], List.getElem?_eq_getElem hi⟩
    obtain ⟨en, q, hen, hkey, hq, rv⟩ := ent i k v hkv
    have hi' : i < es'.size := by omega
    have een : es'[i] = en := by
      rw [Array.getElem?_eq_getElem hi'] at hen
      exact Option.some.inj hen
    obtain ⟨ok, ov, he⟩ := st
    rw [← hsz] at he
    have hlt : it < s.heap.objs.size := Heap.lt_size he
    refine wpAny_pyNext_items_item_raw he ⟨o, hgd, hx, hdt⟩ hi' fun h' ho hT hz hk => ?_
    rw [een] at hT ho
    refine ⟨_, rfl, wpAny_letOwnedTupleGo_items (s := { s with heap := h' }) ho fun h'' he' sb => ?_⟩
    have hT2 : h''.get? s.heap.objs.size = some { cls := .type "tuple", data := .seq #[en.key, en.val] } := (sb.2 _ (Nat.ne_of_gt hlt)).trans hT
    have new : ObjOk X.prog X.w (upd H s.heap.objs.size (.tup [.ref q, v])) h'' s.heap.objs.size (.tup [.ref q, v]) :=
      ⟨by show 2 ≤ sizeLine; decide, [en.key, en.val], .cons (show en.key = Value.ref q from hkey) (.cons rv .nil), ⟨_, hT2, rfl, _, rfl⟩⟩
    have I1 : Inv X pins σ (upd H s.heap.objs.size (.tup [.ref q, v])) { s with heap := h'' } :=
      I.turnedNew (t' := s.toks) (ch := [it]) (fun b ob hb e => (sb.2 b (by simpa using hb)).trans (hk b ob (by simpa using hb) e)) hf (Nat.le_refl _) new
    refine ⟨.ref s.heap.objs.size, _, I1, rfl, ⟨_, q, k, v, hkv, rfl, hq, I.hok.fresh (Nat.le_refl _), rfl⟩, ⟨en.key, en.val, ?_⟩, fun b hb => ?_⟩
    · rw [← hsz]; exact he'
    · have e : b = it := by simpa using hb
      rw [e, upd_ne (Nat.ne_of_lt hlt)]
      exact (hf it (by simp)).1
  done := by
    intro X hP hw hK hc i pins s σ H E I hf st hg
    subst hP hw hK
    obtain ⟨hd, hi⟩ := hg
    obtain ⟨f0, f1, f2, f3, f4, f5⟩ := hf it (by simp)
    obtain ⟨hs, hgd, hx, es', ep', hdt, hsz, ent⟩ := frzT2 I hd
    obtain ⟨rfl, rfl⟩ := dict_ep hod hdt
    obtain ⟨ok, ov, he⟩ := st
    rw [← hsz] at he
    exact wpAny_pyNext_items_end_raw (I.ok.hd hc) he ⟨o, hgd, hx, hdt⟩ (by omega) fun h' eb => ⟨rfl, I.turned (t' := s.toks) (fun b ob hb e => eb b ob hb e) f0 f1 f3 f4 f5⟩
  self := fun A i s Q E st h => let ⟨_, _, e⟩ := st; PySem.W.kcp_self e h
end
def iItemsT (td : TE) : TI := fun σ H R => td σ H fun x H1 => ∃ d o kvs, x = .ref d ∧ H1 d = some (.frz o (.dT kvs)) ∧ R (Itit d o kvs) H1
theorem pi_itemsT {X : Cx} {e : Expr} {td : TE} {apos cpos : Pos} {elts : List Expr} {kk : Nat} {tpos : Pos} (he : PE X e td) (hbase : attributeBase e "items" X.env (eval e X.env) = eval e X.env := by rfl) (hline : (apos.endLine == cpos.line) = true := by rfl) :
    PI X (.Tuple elts kk tpos) (.Call (.Attribute e "items" apos) [] [] cpos) (iItemsT td) := by
  refine ⟨fun pins s σ H R I h => ?_⟩
  refine wpAny_Call_method (T := "dict") (id := "dict.items") hbase rfl hline F.plainAttrs_dict F.slot_dict_items F.type_dict_items (thn (he.run pins s σ H _ I h) fun u s1 ⟨x, H1, I1, rx, d, o, kvs, ex, hd, q⟩ => ?_)
  subst ex
  obtain rfl : u = Value.ref d := rx
  obtain ⟨hs, hgd, hx, es, ep, hdt, hsz, ent⟩ := frzT2 I1 hd
  have raw : s1.heap.DictRaw d es ep := ⟨o, hgd, hx, hdt⟩
  refine ⟨raw.typeIs, ?_, ?_⟩
  · intro b e
    cases e
    exact ⟨o, hgd, hx.2.1⟩
  have I2 : Inv X pins σ H1 { s1 with heap := s1.heap.push { cls := .type "dict_items", data := .fields #[.ref d] } } := I1.kept (t' := s1.toks) fun b ob q => Heap.get?_push_of_some _ q
  have fin : wpAny (model X.prog X.w) X.A (pyIter (.ref s1.heap.objs.size)) (PIE X pins σ (.Tuple elts kk tpos) R) X.xe { s1 with heap := s1.heap.push { cls := .type "dict_items", data := .fields #[.ref d] } } := by
    refine wpAny_pyIter_items_raw (d := d) (es := es) (ep := ep) ⟨_, Heap.get?_push_size _ rfl, rfl, rfl⟩ (raw.at fun ob e => Heap.get?_push_of_some _ e) (pi_one (tk := s1.toks) I2 _ (turn_itemsT _ hdt) ⟨.none, .none, ?_⟩ q)
    rw [← hsz]
    exact Heap.get?_push_size _ rfl
  show wpAny _ _ (callWith cpos (.builtin "dict.items") [.ref d] [] []) _ X.xe s1
  exact method_meetsIn F.slot_dict_items F.entry_dict_items rfl (PySem.evalArgs_none ⟨rfl, raw.typeIs, F.args_dict_items_1 _, _, meets_dict_items_raw d hs, ⟨⟨es, ep, raw⟩, fin⟩⟩)
end Gd
namespace Gd
open PySem PySem.Spec PyProof.Rows L2
/-! ### a dict comprehension whose keys are tuples -/
section
variable {X : Cx} {pins : List (Addr × Obj)} {σ : L2.St} {H : Hp} {s : Shared}
/-- one pair is stored -/
theorem put_pairT {E : Value → Shared → Prop} {D b : Addr} {kvs : List (List Key × V)} {k : List Key} {v : V} {u r : Value} {Q : Unit → Shared → Prop} (hu : X.A.units + 1 < cLine) (I : Inv X pins σ H s) (hD : H D = some (.dT kvs)) (room : kvs.length < sizeLine)
    (hb : H b = some (.tup (k.map kV))) (ru : RelV (.ref b) u) (rv : RelV v r) (fin : ∀ s', Inv X pins σ (upd H D (.dT (putK kvs k v))) s' → Q () s') : wpAny (model X.prog X.w) X.A (dictSet D u r) Q E s := by
  cases (show u = Value.ref b from ru)
  obtain ⟨_, nsys, xs, kt, dict⟩ := dt_of I.hok hD
  have few : xs.length ≤ sizeLine := by
    rw [← Paired.length kt]
    exact Nat.le_of_lt room
  refine wpAny_dictSet_heap (hsz := few) (show X.A.units < cLine by omega) (key_of I.hok hb) dict fun hp dict2 but => fin _ ?_
  obtain ⟨ob, es, ep, g1, g2, g3, g4, _, g6⟩ := dict2
  refine d_write I (by rw [hD]; exact True.intro) but ⟨ob, g1⟩ ⟨?_, nsys, _, L2.KT.keeps (L2.KT.put kt k hb rv) (fun c ys ec => (upd_ne (ne_of ec hD (fun z => nomatch z))).trans ec), ob, es, ep, g1, g2, g3, g4, g6⟩
  exact Nat.le_trans (length_putK kvs k v) room
end
/-- {k: v for target in iter if ..}, keys tuples of ints and texts: D the new dict -/
def tDcT (wi : TI) (g : TG) (tt : TT) (tk tv : TE) (ws : List Nat) : TE := fun σ H Q => wi σ H fun J H1 => ∀ D, H1 D = none → ∃ W : Nat → Nat → Hp → Prop, (∃ m, W 0 m (upd H1 D (.dT []))) ∧ ∀ i m G, W i m G →
  (J.stop i G ∧ Q (.ref D) G) ∨ (J.go i G ∧ ∃ Nx : Hp → Prop, (∀ G', Nx G' → ∃ m', m' < m ∧ W (i + 1) m' G') ∧ ∀ x G', J.yld i G x G' → g x (wipe σ ws) G' fun σ2 G2 => wipe σ2 ws = wipe σ ws ∧ tt σ2 G2 fun b G3 =>
    if b = true then tk σ2 G3 fun y G4 => tv σ2 G4 fun z G5 => ∃ kvs k c, y = .ref c ∧ G5 c = some (.tup (k.map kV)) ∧ G5 D = some (.dT kvs) ∧ kvs.length < sizeLine ∧ Nx (upd G5 D (.dT (putK kvs k z))) else Nx G3)
theorem pe_dcT {X : Cx} {kx vx tg iter : Expr} {ifs : List Expr} {scope : Scope} {own : List (Str × Nat)} {pos : Pos} {wi : TI} {g : TG} {tt : TT} {tk tv : TE} (hu : X.A.units + 1 < cLine) (calm : X.calm = true) (nd : X.N.Nodup) (pi : PI X tg iter wi) (ok : BlkOk X.N X.env.scope scope own)
    (pg : ∀ (s : Shared) (H : Hp) (C : Addr) (cl : List (Str × Addr)) (fp : List Addr), PG (X.blk s H scope (compEnvC scope cl C X.env) fp) tg g)
    (pt : ∀ (s : Shared) (H : Hp) (C : Addr) (cl : List (Str × Addr)) (fp : List Addr), PTs (X.blk s H scope (compEnvC scope cl C X.env) fp) ifs tt)
    (pk : ∀ (s : Shared) (H : Hp) (C : Addr) (cl : List (Str × Addr)) (fp : List Addr), PE (X.blk s H scope (compEnvC scope cl C X.env) fp) kx tk)
    (pv : ∀ (s : Shared) (H : Hp) (C : Addr) (cl : List (Str × Addr)) (fp : List Addr), PE (X.blk s H scope (compEnvC scope cl C X.env) fp) vx tv) (fold : ∀ x, foldedSetIterable iter X.env x = pure x := by intro _; rfl) :
    PE X (.DictComp kx vx [⟨tg, iter, ifs, 0⟩] scope pos) (tDcT wi g tt tk tv (own.map (·.2))) := by
  refine ⟨fun pins s σ H Q I want => ?_⟩
  rw [arm_eval_DictComp]
  have cells : ∀ y ∈ scope.names, y.2 = .free → ∃ c, X.env.cells.lookup y.1 = some c := fun y hy e => I.ok.has _ (ok.free y hy e)
  refine wpAny_comprehension_free (use := none) rfl fold (closure_ok cells) ok.kind (fun y hy e => by rw [ok.uniq y hy, e]) ?_
  refine thn (pi.run pins s σ H _ I want) fun iv sa hiv => thn hiv fun jv sb hjv => ?_
  obtain ⟨it, fp, tn, J, G, rfl, Ib, T, at0, fok, walk⟩ := hjv
  refine wpAny_newObj_type (newEnv_comp ?_)
  -- the new dict
  obtain ⟨D, eD⟩ : ∃ D, D = sb.heap.objs.size := ⟨_, rfl⟩
  have newD : G D = none := Ib.hok.fresh (Nat.le_of_eq eD.symm)
  obtain ⟨W, ⟨m0, w0⟩, turn⟩ := walk D newD
  obtain ⟨sc, esc⟩ : ∃ sc : Shared, sc = { sb with heap := sb.heap.push { cls := .type "dict", data := .dict #[] } } := ⟨_, rfl⟩
  obtain ⟨Gc, eGc⟩ : ∃ Gc, Gc = upd G D (.dT []) := ⟨_, rfl⟩
  have hsc : sc.heap = sb.heap.push { cls := .type "dict", data := .dict #[] } := by rw [esc]
  have Ic : Inv X pins σ Gc sc := by
    rw [esc, eGc]
    refine Ib.laid (t' := sb.toks) (fun _ _ e => Heap.get?_push_of_some _ e) (Nat.le_of_eq eD.symm) ?_
    rw [eD]
    exact dt_empty sb.heap Ib.big
  have low : ∀ b ∈ fp, b < D := fun b hb => by
    obtain ⟨o, e, _⟩ := T.obj _ _ at0 b hb
    rw [eD]
    exact Heap.lt_size e
  have fokc : ∀ b ∈ fp, FpOk X pins Gc b ∧ b < sc.heap.objs.size := fun b hb => by
    have l := low b hb
    refine ⟨⟨?_, (fok b hb).2⟩, ?_⟩
    · rw [eGc, upd_ne (Nat.ne_of_lt l)]
      exact (fok b hb).1
    · rw [hsc, Heap.size_push, ← eD]
      exact Nat.lt_succ_of_lt l
  have atc : tn 0 sc.heap := T.keep _ _ _ at0 fun b _ o e => by
    rw [hsc]
    exact Heap.get?_push_of_some _ e
  -- the block
  have Id0 := block_start Ic ok nd fokc
  obtain ⟨cl, ecl⟩ : ∃ cl, cl = cellsFrom (sc.heap.objs.size + 1) scope.names (cloFrom X.env.cells scope.names []) := ⟨_, rfl⟩
  rw [← ecl] at Id0
  have pg' := pg sc Gc sc.heap.objs.size cl fp
  have pt' := pt sc Gc sc.heap.objs.size cl fp
  have pk' := pk sc Gc sc.heap.objs.size cl fp
  have pv' := pv sc Gc sc.heap.objs.size cl fp
  have go : codeAny (model X.prog X.w) X.A (.compStart (.DictComp kx vx [⟨tg, iter, ifs, 0⟩] scope pos) 0 (.ref it) (.ref D) (compEnvC scope cl sc.heap.objs.size X.env))
      (compPost (model X.prog X.w) X.A X.xe none (EP X pins σ Q) (.ref D) sc.heap.objs.size) { sc with heap := pushCells (sc.heap.push { cls := .type "dict", data := .dict #[] }) scope.names } := by
    have eloc : (compEnvC scope cl sc.heap.objs.size X.env).locals = sc.heap.objs.size := rfl
    have w1 : W 0 m0 Gc := by rw [eGc]; exact w0
    have none_at : ∀ b ∈ fp, Gc b = none := fun b hb => (fokc b hb).1.1
    obtain ⟨ce, ece⟩ : ∃ ce, ce = compEnvC scope cl sc.heap.objs.size X.env := ⟨_, rfl⟩
    obtain ⟨sd, esd⟩ : ∃ sd : Shared, sd = { sc with heap := pushCells (sc.heap.push { cls := .type "dict", data := .dict #[] }) scope.names } := ⟨_, rfl⟩
    rw [← ece, ← esd] at Id0
    rw [← ece] at pg' pt' pk' pv' eloc
    rw [← ece, ← esd]
    have atd : tn 0 sd.heap := T.keep _ _ _ atc fun b _ o e => by
      rw [esd]
      exact pushCells_keeps _ _ _ _ (Heap.get?_push_of_some _ e)
    obtain ⟨Y, eY⟩ : ∃ Y, Y = X.blk sc Gc scope ce fp := ⟨_, rfl⟩
    -- what the block may not touch
    have still : ∀ {σ' : L2.St} {G' : Hp} {s' : Shared}, Inv (X.blk sc Gc scope ce fp) [] σ' G' s' → (∀ b ∈ fp, G' b = none) → ∀ b ∈ fp, FpOk (X.blk sc Gc scope ce fp) [] G' b := by
      intro σ' G' s' J' n b hb
      obtain ⟨k1, k2⟩ := J'.ok.exf b hb
      exact ⟨n b hb, k1, J'.ok.exfs b hb, .inl hb, fun x c e => k2 x c e, fun p hp => (nomatch hp)⟩
    have loop : codeAny (model X.prog X.w) X.A (.compLoop (.DictComp kx vx [⟨tg, iter, ifs, 0⟩] scope pos) 0 (.ref it) (.ref D) ce) (compPost (model X.prog X.w) X.A X.xe none (EP X pins σ Q) (.ref D) sc.heap.objs.size) sd := by
      refine compLoop_anyD (fun n s' => ∃ i G', Inv (X.blk sc Gc scope ce fp) [] (wipe σ (own.map (·.2))) G' s' ∧ tn i s'.heap ∧ (∀ b ∈ fp, G' b = none) ∧ W i n G') ?_ m0 ⟨0, Gc, Id0, atd, none_at, w1⟩
      rintro n s1 ⟨i, G1, I1, at1, n1, wi1⟩
      rcases turn i n G1 wi1 with ⟨stop, post⟩ | ⟨go, Nx, small, step⟩
      · refine thnF (T.done (X.blk sc Gc scope ce fp) rfl rfl rfl calm i [] s1 _ G1 (fun _ _ => False) I1 (still I1 n1) at1 stop) fun r s2 ⟨er, I2⟩ => ?_
        subst er
        -- the def goes on
        have I3 : Inv X pins σ G1 s2 := Ic.call' (ch := fp) I2.os I2.base I2.hok I2.bare fun b hb => by
          obtain ⟨_, z1, z2, z3, z4⟩ := (fokc b hb).1
          exact ⟨z3, z1, z4.1, z4.2⟩
        have nloc : G1 sc.heap.objs.size = none := by
          have z : G1 ce.locals = none := I2.free
          rw [eloc] at z
          exact z
        obtain ⟨m, ns, _⟩ := I2.loc
        have ns : s2.heap.Ns ce.locals m := ns
        rw [eloc] at ns
        obtain ⟨y0, y1, y2, y3, y4, y5⟩ := Ic.fpOk (Nat.le_refl _) nloc
        exact ⟨m, ns, fun h2 but => ⟨.ref D, G1, I3.turned (t' := s2.toks) (fun b o hb e => (but.2 b hb).trans e) y0 y1 y3 y4 y5, rfl, post⟩⟩
      · refine thnF (T.item (X.blk sc Gc scope ce fp) rfl rfl rfl calm i [] s1 _ G1 (fun _ _ => False) I1 (still I1 n1) at1 go) fun r s2 ⟨u, er, got⟩ => ?_
        subst er
        refine thnF got fun _ s3 ⟨x, G3, I3, rx, yx, at3, n3⟩ => ?_
        have I3p := I3.pinned (still I3 n3) (T.obj _ _ at3)
        refine thnF (pg'.run _ s3 _ G3 x u _ I3p rx (step x G3 yx)) fun _ s4 ⟨σ4, G4, I4, same4, q4⟩ => ?_
        refine thnF (pt'.run _ s4 σ4 G4 _ I4 q4) fun b s5 ⟨G5, I5, q5⟩ => ?_
        have next : ∀ {s' : Shared} {G' : Hp}, Inv (X.blk sc Gc scope ce fp) ([] ++ pinsAt fp s3.heap) σ4 G' s' → Nx G' → ∃ m, m < n ∧ ∃ i G', Inv (X.blk sc Gc scope ce fp) [] (wipe σ (own.map (·.2))) G' s' ∧ tn i s'.heap ∧ (∀ b ∈ fp, G' b = none) ∧ W i m G' := by
          intro s' G' J' nx
          obtain ⟨m', less, w'⟩ := small G' nx
          have pin : ∀ b ∈ fp, ∀ o, s3.heap.get? b = some o → s'.heap.get? b = some o ∧ G' b = none := fun b hb o e => by
            have z := J'.pin (b, o) (List.mem_append_right _ (List.mem_append_right _ (mem_pinsAt hb e)))
            exact ⟨z.1, z.2.1⟩
          have len : (wipe σ (own.map (·.2))).length = σ4.length := by rw [← same4, wipe_length]
          refine ⟨m', less, i + 1, G', (J'.unpinned (pins := [])).weak len (fun j v e => ?_), T.keep _ _ _ at3 fun b hb o e => (pin b hb o e).1, fun b hb => ?_, w'⟩
          · rw [← same4] at e
            exact (wipe_some e).1
          · obtain ⟨o, e, _⟩ := T.obj _ _ at3 b hb
            exact (pin b hb o e).2
        cases b with
        | false => exact next I5 (by simpa using q5)
        | true =>
          rw [if_pos rfl] at q5 ⊢
          refine thnF (pk'.run _ s5 σ4 G5 _ I5 q5) fun z s6 ⟨yk, G6, I6, r6, q6⟩ => ?_
          refine thnF (pv'.run _ s6 σ4 G6 _ I6 q6) fun z2 s7 ⟨yv, G7, I7, r7, kvs, k, c, ek, ec, eD7, few, nx⟩ => ?_
          subst ek
          exact put_pairT (X := X.blk sc Gc scope ce fp) hu I7 eD7 few ec r6 r7 fun s8 I8 => next I8 nx
    exact codeAny_compStart_dict loop (T.self X.A 0 _ _ _ atd loop)
  rw [ecl, esc, eD] at go
  rw [eD] at *
  exact go
end Gd
namespace Kone
open PySem L2 Gd
/-- a body that is not come to -/
theorem pss_no {X : Cx} {b : List Stmt} : PSs X b (fun _ _ _ => False) := ⟨fun _ _ _ _ _ _ h => h.elim⟩
/-- a dict of one tuple key and a tuple of tuples -/
def spKT (n : Nat) : Sp := fun vs H Q _ => ∃ (a : Addr) (v : V) (k : List Key) (d : PyData), vs = [.ref a] ∧ H a = some (.dT [(k, v)]) ∧ Dq H n true v d ∧
  ∀ (H' : Hp) (a' : Addr) (v' : V), Same H H' → H' a' = some (.dT [(k, v')]) → Dq H' n true v' d → Q (.ref a') H'
section
variable {P : Program} {w : World} {K : PySem.W.Frag} {mg : Str → Option Value} {base : Heap}
theorem ok_keptT {f : Addr} {fd : FuncData} (T : TxtK mg) (U : Def K mg "kept" sKept ["value"] f fd) (n : Nat) : FnOk P w K mg base CX0 (n + 2) f fd ["value"] (spKT n) := by
  have GK : FnOk P w K mg base CX0 (n + 1) f fd ["value"] (spK (n + 1)) := ok_kept T U (n + 1)
  refine U.F.ok scKept (fun vs H Q E h => ?_) (fun cdv A outer s H vs Q E hr h => ?_)
  · obtain ⟨a, v, k, d, rfl, _⟩ := h
    rfl
  · obtain ⟨a, v, k, d, rfl, ha, hq, post⟩ := h
    refine ⟨_, pss_cons (ps_if (pt_val (pe_callB call_isi (by rfl) T.isi (by decide +kernel) (pa_cons (pv 0) (pa_cons (pe_bltn (v := .ty "tuple") rfl T.tuple rfl rfl) pa_nil)))) pss_no pss_nil)
      (pss_cons (ps_if (pt_val (pe_callB call_isi (by rfl) T.isi (by decide +kernel) (pa_cons (pv 0) (pa_cons (pe_bltn (v := .ty "list") rfl T.list rfl rfl) pa_nil)))) pss_no pss_nil)
      (pss_cons (ps_if (pt_val (pe_callB call_isi (by rfl) T.isi (by decide +kernel) (pa_cons (pv 0) (pa_cons (pe_bltn (v := .ty "dict") rfl T.dict rfl rfl) pa_nil))))
        (pss_one (ps_ret (pe_lock (pe_dcT (own := [("key", 2), ("part", 1)]) (g := gTup K 2 (gCons (gName 2) (gCons (gName 1) gNil))) (tt := tYes) (tk := tVar 2) (tv := tCall (spK (n + 1)) [] E0 (tCons (tVar 1) tNil)) (Nat.lt_of_le_of_lt (Nat.add_le_add_left (by decide) _) hr.units) rfl scKept.nd (pi_itemsT (pv 0)) (blkOk_by (N := ["value", "part", "key"]) (sc := defScope sKept) (by decide +kernel))
                (fun _ _ _ _ _ => pg_tup rfl (pgs_cons (pg_name (i := 2) scKept.nd rfl (Or.inl rfl)) (pgs_cons (pg_name (i := 1) scKept.nd rfl (Or.inl rfl)) pgs_nil))) (fun _ _ _ _ _ => pts_nil)
                (fun _ _ _ _ _ => pv 2) (fun _ _ _ _ _ => pe_call GK hr rfl U.g U.k U.b .nil pass0 (pa_cons (pv 1) pa_nil)) (fun _ => rfl)))))
        pss_nil)
      (pss_one (ps_ret (pv 0))))), ?_⟩
    refine ⟨_, rfl, .ref a, .ty "tuple", .type "dict", .type "tuple", false, rfl, .ty "tuple", .base (.dT ha), kit_ty (by decide +kernel), _, rfl, iteF ?_⟩
    refine ⟨_, rfl, .ref a, .ty "list", .type "dict", .type "list", false, rfl, .ty "list", .base (.dT ha), kit_ty (by decide +kernel), _, rfl, iteF ?_⟩
    refine ⟨_, rfl, .ref a, .ty "dict", .type "dict", .type "dict", true, rfl, .ty "dict", .base (.dT ha), kit_ty (by decide +kernel), _, rfl, iteT ?_⟩
    refine ⟨a, .dT [(k, v)], ha, True.intro, fun od => ?_⟩
    have la : upd H a (.frz od (.dT [(k, v)])) a = some (.frz od (.dT [(k, v)])) := upd_same
    have ln : ∀ {b : Addr}, b ≠ a → upd H a (.frz od (.dT [(k, v)])) b = H b := fun n => upd_ne n
    have tl : ∀ b xs, H b = some (.tup xs) → upd H a (.frz od (.dT [(k, v)])) b = some (.tup xs) := fun b xs e => (ln (ne_of e ha (fun z => nomatch z))).trans e
    have back : ∀ b xs, upd H a (.frz od (.dT [(k, v)])) b = some (.tup xs) → H b = some (.tup xs) := fun b xs e => by
      rwa [ln (ne_of e la (fun z => nomatch z))] at e
    generalize upd H a (.frz od (.dT [(k, v)])) = Hl at la ln tl back
    refine ⟨_, rfl, a, od, [(k, v)], rfl, la, fun D hD => ⟨fun i m G => Same Hl G ∧ ((i = 0 ∧ m = 1 ∧ G D = some (.dT [])) ∨ (i = 1 ∧ m = 0 ∧ ∃ v', G D = some (.dT [(k, v')]) ∧ Dq G n true (v') d)), ⟨1, same_new hD, .inl ⟨rfl, rfl, upd_same⟩⟩, ?_⟩⟩
    rintro i m G ⟨sm, ⟨rfl, rfl, hDe⟩ | ⟨rfl, rfl, v', hDe, hq'⟩⟩
    · refine .inr ⟨⟨sm _ _ la, by show 0 < 1; decide⟩, fun G' => Same Hl G' ∧ ∃ v', G' D = some (.dT [(k, v')]) ∧ Dq G' n true (v') d, fun G' ⟨z1, v', z2, z3⟩ => ⟨0, by decide, z1, .inr ⟨rfl, rfl, v', z2, z3⟩⟩, ?_⟩
      rintro x G' ⟨t, q, k1, v1, ek, rfl, hk, ht, rfl⟩
      simp at ek
      obtain ⟨rfl, rfl⟩ := ek
      have st := same_new (o := .tup [.ref q, v]) ht
      refine ⟨t, _, rfl, SqT.of upd_same, rfl, _, _, rfl, _, _, rfl, rfl, rfl, okY ⟨_, rfl, _, rfl, ?_⟩⟩
      have tupG : ∀ b xs, H b = some (.tup xs) → upd G t (.tup [.ref q, v]) b = some (.tup xs) := fun b xs e => st _ _ (sm _ _ (tl _ _ e))
      refine ⟨true, v, d, _, rfl, Same.refl _, Dq.tups tupG hq, fun H2 v' s2 q2 => ⟨[], k, q, rfl, s2 _ _ (st _ _ hk), s2 _ _ (st _ _ hDe), by show 0 < sizeLine; decide, ?_, v', upd_same, ?_⟩⟩
      · exact fun b o e => (upd_ne (ne_of_none e hD)).trans (s2 _ _ (st _ _ (sm _ _ e)))
      · refine Dq.tups (fun b xs e => ?_) q2
        have e1 := (old_of e).2
        exact (upd_ne (ne_of e1 (s2 _ _ (st _ _ hDe)) (fun z => nomatch z))).trans e1
    · have fa : G a = some (.frz od (.dT [(k, v)])) := sm _ _ la
      have nDa : D ≠ a := fun z => by
        rw [z, la] at hD
        cases hD
      refine .inl ⟨⟨fa, Nat.le_refl _⟩, fa, post _ D v' (fun b o e => ?_) ((upd_ne nDa).trans hDe) (Dq.tups (fun b xs e => (upd_ne (ne_of e fa (fun z => nomatch z))).trans e) hq')⟩
      by_cases z : b = a
      · subst z
        rw [ha] at e
        cases e
        exact upd_same
      · exact (upd_ne z).trans (sm _ _ ((ln z).trans e))
end
end Kone
namespace Kpp
open PySem PySem.Spec PyProof.Rows L2 Gd
/-! ### the eleven values of the law -/
abbrev zk : List Key := [Sum.inl 0, Sum.inr "0"]
def zD : Nat → PyData
  | 0 => .none
  | 1 => .int (-1)
  | 2 => .int 2
  | 3 => .int (10 ^ 40)
  | 4 => .str ""
  | 5 => .str "012"
  | 6 => .tuple []
  | 7 => .tuple [.tuple [], .tuple [.str "1"]]
  | 8 => .list []
  | 9 => .dict []
  | _ => .dict [(.tuple [.int 0, .str "0"], .tuple [.int 1, .tuple [.int 1]])]
def Zv (H : Hp) : Nat → V → Prop
  | 0, v => v = .non
  | 1, v => v = .int (-1)
  | 2, v => v = .int 2
  | 3, v => v = .int (10 ^ 40)
  | 4, v => v = .str ""
  | 5, v => v = .str "012"
  | 6, v => ∃ a, v = .ref a ∧ H a = some (.tup [])
  | 7, v => ∃ a b c, v = .ref a ∧ H a = some (.tup [.ref b, .ref c]) ∧ H b = some (.tup []) ∧ H c = some (.tup [.str "1"])
  | 8, v => ∃ a, v = .ref a ∧ H a = some (.lst [])
  | 9, v => ∃ a, v = .ref a ∧ H a = some (.dK [])
  | 10, v => ∃ a p q, v = .ref a ∧ H a = some (.dT [(zk, .ref p)]) ∧ H p = some (.tup [.int 1, .ref q]) ∧ H q = some (.tup [.int 1])
  | _, _ => False
theorem Zv.same {H H' : Hp} (s : Same H H') : ∀ {k : Nat} {v : V}, Zv H k v → Zv H' k v
  | 0, _, h | 1, _, h | 2, _, h | 3, _, h | 4, _, h | 5, _, h => h
  | 6, _, ⟨a, e, h⟩ => ⟨a, e, s _ _ h⟩
  | 7, _, ⟨a, b, c, e, h1, h2, h3⟩ => ⟨a, b, c, e, s _ _ h1, s _ _ h2, s _ _ h3⟩
  | 8, _, ⟨a, e, h⟩ => ⟨a, e, s _ _ h⟩
  | 9, _, ⟨a, e, h⟩ => ⟨a, e, s _ _ h⟩
  | 10, _, ⟨a, p, q, e, h1, h2, h3⟩ => ⟨a, p, q, e, s _ _ h1, s _ _ h2, s _ _ h3⟩
  | _ + 11, _, h => h.elim
section
variable {X : Cx} {pins : List (Addr × Obj)} {σ : L2.St} {H : Hp} {s : Shared}
theorem tup_reads (I : Inv X pins σ H s) {a : Addr} {xs : List V} {ds : List PyData} (h : H a = some (.tup xs)) (f : ∀ us, Vals xs us → ∃ as, ReadsAll s.heap us ds as ∧ as = []) : Reads s.heap (.ref a) (.tuple ds) [] := by
  obtain ⟨_, its, rv, ob, hg, hc, m, hd⟩ := (show ObjOk X.prog X.w H s.heap a (.tup xs) from I.hok a _ h)
  obtain ⟨as, x, e⟩ := f its rv
  subst e
  exact .tuple hg hc hd x
theorem nil_reads {h : Heap} {us : List Value} (r : Vals [] us) : ∃ as, ReadsAll h us [] as ∧ as = [] := by
  cases r
  exact ⟨[], .nil, rfl⟩
theorem cons_reads {h : Heap} {v : V} {vs : List V} {d : PyData} {ds : List PyData} {us : List Value} (r : Vals (v :: vs) us) (f : ∀ u, RelV v u → Reads h u d []) (g : ∀ us, Vals vs us → ∃ as, ReadsAll h us ds as ∧ as = []) : ∃ as, ReadsAll h us (d :: ds) as ∧ as = [] := by
  cases r with
  | cons r1 r2 =>
    obtain ⟨as, x, e⟩ := g _ r2
    subst e
    exact ⟨_, .cons (f _ r1) x, rfl⟩
theorem zv_reads (I : Inv X pins σ H s) : ∀ (k : Nat) (v : V) (u : Value), Zv H k v → RelV v u → ∃ as, Reads s.heap u (zD k) as ∧ ((zD k).hasDict = true → sysModules ∉ as)
  | 0, v, u, h, r | 1, v, u, h, r | 2, v, u, h, r | 3, v, u, h, r | 4, v, u, h, r | 5, v, u, h, r => by
    cases (show v = _ from h)
    exact ⟨[], sc_reads (v := _) (by first | exact True.intro | rfl) r, fun _ z => nomatch z⟩
  | 6, v, u, h, r => by
    obtain ⟨a, rfl, ha⟩ := h
    cases (show u = Value.ref a from r)
    exact ⟨[], tup_reads I ha fun us r => nil_reads r, fun _ z => nomatch z⟩
  | 7, v, u, h, r => by
    obtain ⟨a, b, c, rfl, ha, hb, hc⟩ := h
    cases (show u = Value.ref a from r)
    refine ⟨[], tup_reads I ha fun us r => cons_reads r (fun u r => ?_) fun us r => cons_reads r (fun u r => ?_) fun us r => nil_reads r, fun _ z => nomatch z⟩
    · cases (show u = Value.ref b from r)
      exact tup_reads I hb fun us r => nil_reads r
    · cases (show u = Value.ref c from r)
      exact tup_reads I hc fun us r => cons_reads r (fun u r => sc_reads (v := .str "1") rfl r) fun us r => nil_reads r
  | 8, v, u, h, r => by
    obtain ⟨a, rfl, ha⟩ := h
    cases (show u = Value.ref a from r)
    obtain ⟨_, its, m, rv, hg⟩ := (show ObjOk X.prog X.w H s.heap a (.lst []) from I.hok a _ ha)
    cases rv
    exact ⟨_, .list hg rfl rfl .nil, fun z => nomatch z⟩
  | 9, v, u, h, r => by
    obtain ⟨a, rfl, ha⟩ := h
    cases (show u = Value.ref a from r)
    obtain ⟨_, hs, vs, kv, ob, es, ep, hg, hx, hd, _, hpr, _⟩ := (show ObjOk X.prog X.w H s.heap a (.dK []) from I.hok a _ ha)
    cases kv
    have he : es.toList = [] := by
      cases h : es.toList with
      | nil => rfl
      | cons x r => rw [h] at hpr; cases hpr
    refine ⟨_, .dict hg hx.1 hd (kvs := []) (as := []) (bs := []) (by rw [he]; exact .nil) (by rw [he]; exact .nil), fun _ z => ?_⟩
    have z := List.mem_singleton.mp z
    rw [← z] at hs
    exact absurd hs (by decide)
  | 10, v, u, h, r => by
    obtain ⟨a, p, q, rfl, ha, hp, hq⟩ := h
    cases (show u = Value.ref a from r)
    obtain ⟨_, hs, xs, kt, ob, es, ep, hg, hx, hd, he, _, _⟩ := dt_of I.hok ha
    cases kt with
    | @cons _ y _ ys k1 k2 =>
      cases k2
      obtain ⟨e1, e2, e3⟩ := k1
      obtain ⟨y1, y2, y3⟩ := y
      have e3 : y3 = Value.ref p := e3
      subst e3
      have hk : Reads s.heap (.ref y2) (.tuple [.int 0, .str "0"]) [] := tup_reads I e2 fun us r => cons_reads r (fun u r => sc_reads (v := .int 0) rfl r) fun us r => cons_reads r (fun u r => sc_reads (v := .str "0") rfl r) fun us r => nil_reads r
      have hv : Reads s.heap (.ref p) (.tuple [.int 1, .tuple [.int 1]]) [] := tup_reads I hp fun us r => cons_reads r (fun u r => sc_reads (v := .int 1) rfl r) fun us r => cons_reads r (fun u r => by
        cases (show u = Value.ref q from r)
        exact tup_reads I hq fun us r => cons_reads r (fun u r => sc_reads (v := .int 1) rfl r) fun us r => nil_reads r) fun us r => nil_reads r
      refine ⟨_, .dict hg hx.1 hd (kvs := [(.tuple [.int 0, .str "0"], .tuple [.int 1, .tuple [.int 1]])]) (as := []) (bs := []) (by rw [he]; exact .cons (as := []) (bs := []) hk .nil) (by rw [he]; exact .cons (as := []) (bs := []) hv .nil), fun _ z => ?_⟩
      have z := List.mem_singleton.mp z
      rw [← z] at hs
      exact absurd hs (by decide)
  | _ + 11, _, _, h, _ => h.elim
end
end Kpp
namespace Kpp
open PySem PySem.Spec PyProof.Rows L2 Gd
/-! ### repr of such values, and of lists of such, of lists of lists -/
mutual
inductive Zt (H : Hp) : V → PyData → Prop
  | leaf {k : Nat} {v : V} : Zv H k v → Zt H v (zD k)
  | list {a : Addr} {v : V} {vs : List V} {ds : List PyData} : H a = some (.lst (v :: vs)) → ZtAll H (v :: vs) ds → Zt H (.ref a) (.list ds)
inductive ZtAll (H : Hp) : List V → List PyData → Prop
  | nil : ZtAll H [] []
  | cons {v : V} {vs : List V} {d : PyData} {ds : List PyData} : Zt H v d → ZtAll H vs ds → ZtAll H (v :: vs) (d :: ds)
end
theorem zd_fine : ∀ k : Nat, (zD k).showable = true ∧ (zD k).shown.length ≤ 100 ∧ (zD k).depth ≤ 3
  | 0 | 1 | 2 | 3 | 4 | 5 | 6 | 7 | 8 | 9 | 10 => by decide +kernel
  | _ + 11 => by
    show (zD 10).showable = true ∧ (zD 10).shown.length ≤ 100 ∧ (zD 10).depth ≤ 3
    decide +kernel
/-- read, and shown by itself -/
def Rs (P : Program) (w : World) (h : Heap) (u : Value) (d : PyData) : Prop := (∃ as, Reads h u d as) ∧ ∃ bs, ReadAtMost h d.depth bs ∧ ReprK P w bs h d.depth u d.shown
section
variable {X : Cx} {pins : List (Addr × Obj)} {σ : L2.St} {H : Hp} {s : Shared}
theorem rs_all {P : Program} {w : World} {h : Heap} : ∀ {us : List Value} {ds : List PyData}, Paired (Rs P w h) us ds → (∃ as, ReadsAll h us ds as) ∧ ∃ bs, ReadAtMost h (PyData.depthAll ds) bs ∧ ReprAllK P w bs h (PyData.depthAll ds) us (PyData.shownAll ds)
  | _, _, .nil => ⟨⟨[], .nil⟩, [], (fun _ z => nomatch z), .nil⟩
  | _, _, .cons (b := d) (l₂ := ds) p ps => by
    obtain ⟨⟨as, r⟩, b1, m1, k1⟩ := p
    obtain ⟨⟨as2, r2⟩, b2, m2, k2⟩ := rs_all ps
    have l1 : d.depth ≤ PyData.depthAll (d :: ds) := by rw [PyData.depthAll]; exact Nat.le_max_left _ _
    have l2 : PyData.depthAll ds ≤ PyData.depthAll (d :: ds) := by rw [PyData.depthAll]; exact Nat.le_max_right _ _
    refine ⟨⟨_, .cons r r2⟩, b1 ++ b2, (m1.mono l1).append (m2.mono l2), ?_⟩
    rw [PyData.shownAll]
    exact .cons ((k1.more fun b q => List.mem_append_left _ q).level_le l1) (k2.more_le (fun b q => List.mem_append_right _ q) l2)
/-- a list of things that are shown by themselves -/
theorem rs_list {P : Program} {w : World} {h : Heap} {a : Addr} {u : Value} {us : List Value} {ds : List PyData} {m : Nat} (hg : h.get? a = some { cls := .type "list", data := .seq (u :: us).toArray m }) (p : Paired (Rs P w h) (u :: us) ds) :
    Rs P w h (.ref a) (.list ds) ∧ ∃ bs as, Reads h (.ref a) (.list ds) as ∧ a ∉ bs ∧ ReprAllK P w bs h (PyData.depthAll ds) (u :: us) (PyData.shownAll ds) := by
  obtain ⟨⟨as, r⟩, bs, hm, hk⟩ := rs_all p
  have whole : Reads h (.ref a) (.list ds) _ := .list hg rfl rfl (by simpa using r)
  have dp : (PyData.list ds).depth = PyData.depthAll ds + 1 := by rw [PyData.depth]
  have away : a ∉ bs := not_mem_of_deeper whole (by rw [dp]; omega) hm
  refine ⟨⟨⟨_, whole⟩, a :: bs, fun b hb => ?_, ?_⟩, bs, _, whole, away, hk⟩
  · rcases List.mem_cons.mp hb with e | e
    · exact ⟨_, _, by rw [e]; exact whole, Nat.le_refl _⟩
    · obtain ⟨d, as, q, l⟩ := hm b e
      exact ⟨d, as, q, by rw [dp]; omega⟩
  · rw [dp, PyData.shown]
    exact ReprK.list hg rfl rfl away (by simpa using hk.length_eq) (fun i y e => hk.item i y (by simpa using e))
theorem zt_rs (I : Inv X pins σ H s) : ∀ {v : V} {d : PyData} {u : Value}, Zt H v d → RelV v u → Rs X.prog X.w s.heap u d
  | _, _, u, .leaf (k := k) h, r => by
    obtain ⟨as, rd, no⟩ := zv_reads I _ _ u h r
    obtain ⟨f1, f2, f3⟩ := zd_fine k
    obtain ⟨bs, hb, hk⟩ := ReprK.of_reads (prog := X.prog) (w := X.w) rd f1 no (Nat.le_trans f2 (by decide))
    exact ⟨⟨as, rd⟩, bs, hb, hk⟩
  | _, _, u, .list (a := a) ha hp, r => by
    cases (show u = Value.ref a from r)
    obtain ⟨_, its, m, rv, hg⟩ := (show ObjOk X.prog X.w H s.heap a (.lst _) from I.hok a _ ha)
    cases rv with
    | cons r1 r2 => exact (rs_list hg (all hp (.cons r1 r2))).1
where all : ∀ {vs : List V} {ds : List PyData} {us : List Value}, ZtAll H vs ds → Vals vs us → Paired (Rs X.prog X.w s.heap) us ds
  | _, _, _, .nil, .nil => .nil
  | _, _, _, .cons h hs, .cons r rs => .cons (zt_rs I h r) (all hs rs)
/-- repr(x) -/
def rReprZ : List V → Hp → VK → Prop := fun xs H Q => ∃ (x : V) (d : PyData), xs = [x] ∧ Zt H x d ∧ d.shown.length ≤ sizeLine ∧ d.depth ≤ 60 ∧ Q (.str d.shown) H
theorem call_reprZ (hG : X.A.guards = some []) (hu : X.A.units + 64 < cLine) : CallR X (.builtin "repr") rReprZ := by
  intro pins s σ H xs us Q I r h
  obtain ⟨x, d, rfl, hd, hz, hp, q⟩ := h
  cases r with
  | @cons _ u _ _ r1 r2 =>
    cases r2
    have out : ∀ (h' : Heap) (t : Tok) (tk : Nat), (∀ b o, s.heap.get? b = some o → h'.get? b = some o) → EP X pins σ Q (.str d.shown t) { s with heap := h', toks := tk } := fun h' t tk hk => ⟨.str d.shown, H, I.kept (t' := tk) hk, ⟨t, rfl⟩, q⟩
    cases hd with
    | @leaf k _ hv =>
      obtain ⟨hs, _, _⟩ := zd_fine k
      obtain ⟨as, rd, no⟩ := zv_reads I k x u hv r1
      generalize zD k = d at rd hs no hz hp out
      cases rd with
      | none => exact PySem.P.repr_of_none (out s.heap _ _ fun _ _ e => e)
      | bool b => exact PySem.P.repr_of_bool (by simpa only [PyData.shown] using out s.heap _ _ fun _ _ e => e)
      | int i t => exact PySem.P.repr_of_int (by simpa only [PyData.showable, decide_eq_true_eq] using hs) (by simpa only [PyData.shown] using out s.heap s.toks (s.toks + 1) fun _ _ e => e)
      | str z t => exact PySem.P.repr_of_str (by simpa only [PyData.shown] using out s.heap s.toks (s.toks + 1) fun _ _ e => e) (by simpa only [PyData.shown] using hz)
      | list a b c e => exact repr_of_reads' (.list a b c e) hs no hG (by omega) (fun _ _ e => e) (fun h' t tk hk => out h' t tk hk) hz
      | tuple a b c e => exact repr_of_reads' (.tuple a b c e) hs no hG (by omega) (fun _ _ e => e) (fun h' t tk hk => out h' t tk hk) hz
      | dict a b c e f => exact repr_of_reads' (.dict a b c e f) hs no hG (by omega) (fun _ _ e => e) (fun h' t tk hk => out h' t tk hk) hz
    | @list a v vs ds ha hp2 =>
      cases (show u = Value.ref a from r1)
      obtain ⟨_, its, m, rv, hg⟩ := (show ObjOk X.prog X.w H s.heap a (.lst _) from I.hok a _ ha)
      cases rv with
      | @cons _ u1 _ us w1 w2 =>
        obtain ⟨_, bs, as, whole, away, hk⟩ := rs_list hg (zt_rs.all I hp2 (.cons w1 w2))
        have dp : (PyData.list ds).depth = PyData.depthAll ds + 1 := by rw [PyData.depth]
        have hz2 : (listText (PyData.shownAll ds)).length ≤ sizeLine := by simpa only [PyData.shown] using hz
        refine call_repr_slot (by omega) (show s.TypeIs (.ref a) "list" from ⟨_, hg, rfl⟩) F.slot_list_repr.toG ?_
        refine call_list_reprK hg rfl rfl away (by simpa using hk.length_eq) (fun i y e => hk.item i y (by simpa using e)) hG (fun b _ => Clear.nil b) (by rw [dp] at hp; show X.A.units + 1 + _ < cLine; omega) (fun _ _ e => e) (fun h' t tk hk => ?_) hz2
        exact ⟨_, _, rfl, by simpa only [PyData.shown] using out h' t tk hk⟩
end
end Kpp
namespace Kpp
open PySem PySem.Spec PyProof.Rows PySem.SeqAt
open AutoSeq1 (wpAny_loadPart')
open MeetsSeq
/-! ### a dict beside what is no dict -/
theorem int_no_dict (b : Int) (u : Tok) (l : Addr) (c : Value) (es : Array DictEntry) (n : Nat) (dd : Option Addr) (sl : Array (Option Value)) :
    Meets (Builtin.«int.__eq__» ⟨[.int b u, .ref l], []⟩) (fun _ R s => s.heap.get? l = some { cls := c, dict := dd, data := .dict es n, slots := sl } ∧ R (.ok (.ret .notImplemented)) s) :=
  .of_wp fun prog w A R s h => by obtain ⟨hp, g, d, tk, os⟩ := s; obtain ⟨hl, h⟩ := h; wp_walk using wpAny_loadPart' hl, wpAny_load hl; exact ⟨_, rfl, h⟩
theorem str_no_dict (b : Str) (u : Tok) (l : Addr) (c : Value) (es : Array DictEntry) (n : Nat) (dd : Option Addr) (sl : Array (Option Value)) :
    Meets (Builtin.«str.__eq__» ⟨[.str b u, .ref l], []⟩) (fun _ R s => s.heap.get? l = some { cls := c, dict := dd, data := .dict es n, slots := sl } ∧ R (.ok (.ret .notImplemented)) s) :=
  .of_wp fun prog w A R s h => by obtain ⟨hp, g, d, tk, os⟩ := s; obtain ⟨hl, h⟩ := h; wp_walk using wpAny_loadPart' hl, wpAny_load hl; exact ⟨_, rfl, h⟩
theorem list_no_dict (l b : Addr) (items : Array Value) (es : Array DictEntry) (n n2 : Nat) (dd dd2 : Option Addr) (sl sl2 : Array (Option Value)) :
    Meets (Builtin.«list.__eq__» ⟨[.ref l, .ref b], []⟩) (fun _ R s => s.heap.get? l = some { cls := .type "list", dict := dd, data := .seq items n, slots := sl } ∧ s.heap.get? b = some { cls := .type "dict", dict := dd2, data := .dict es n2, slots := sl2 } ∧ R (.ok (.ret .notImplemented)) s) :=
  .of_wp fun prog w A R s h => by
    obtain ⟨hp, g, d, tk, os⟩ := s
    obtain ⟨hl, hb, h⟩ := h
    have f1 := F.sub_dict_list
    have t1 : Shared.TypeIs ⟨hp, g, d, tk, os⟩ (.ref b) "dict" := ⟨_, hb, rfl⟩
    wp_walk using wpAny_loadPart' hl
    exact ⟨_, rfl, h⟩
theorem tuple_no_dict (l b : Addr) (items : Array Value) (es : Array DictEntry) (n n2 : Nat) (dd dd2 : Option Addr) (sl sl2 : Array (Option Value)) :
    Meets (Builtin.«tuple.__eq__» ⟨[.ref l, .ref b], []⟩) (fun _ R s => s.heap.get? l = some { cls := .type "tuple", dict := dd, data := .seq items n, slots := sl } ∧ s.heap.get? b = some { cls := .type "dict", dict := dd2, data := .dict es n2, slots := sl2 } ∧ R (.ok (.ret .notImplemented)) s) :=
  .of_wp fun prog w A R s h => by
    obtain ⟨hp, g, d, tk, os⟩ := s
    obtain ⟨hl, hb, h⟩ := h
    have f1 := F.sub_dict_tuple
    have t1 : Shared.TypeIs ⟨hp, g, d, tk, os⟩ (.ref b) "dict" := ⟨_, hb, rfl⟩
    wp_walk using wpAny_loadPart' hl
    exact ⟨_, rfl, h⟩
section
variable {prog : Program} {w : World} {A : Around} {E : Value → Shared → Prop} {s : Shared}
/-- dict.__eq__ of what is no dict -/
theorem dict_no {d : Addr} {u : Value} {T : String} {Q : Value → Shared → Prop} (hd : s.TypeIs (.ref d) "dict") (hu : s.TypeIs u T) (sub : isSubtype (.type T) (.type "dict") = pure false) (hq : Q .notImplemented s) :
    wpAny (model prog w) A (call (.builtin "dict.__eq__") [.ref d, u]) Q E s := by
  refine wpAny_call_entry PySem.F.slot_dict_eq hd PySem.F.entry_dict_eq ?_ (PySem.F.args_dict_eq_2 _ _)
  show wpAny _ _ (Builtin.Dict.dictSlotArgs "__eq__" ⟨[.ref d, u], []⟩ >>= _) _ _ s
  refine wpAny_bind ?_
  unfold Builtin.Dict.dictSlotArgs
  refine wpAny_bind (wpAny_notOrdered_dict hd ?_)
  show wpAny _ _ (pure (Value.ref d, u)) _ _ s
  refine wpAny_pure ?_
  refine wpAny_bind (wpAny_isInstance (T := T) hu sub ?_)
  simp only [Bool.not_false, if_true]
  exact wpAny_bind (wpAny_rule (wpAny_pure ⟨_, rfl, hq⟩))
end
end Kpp
namespace Kpp
open PySem PySem.Spec PyProof.Rows PySem.SeqAt
section
variable {prog : Program} {w : World} {A : Around} {E : Value → Shared → Prop} {s : Shared} {d l : Addr} {es : Array DictEntry} {ep : Nat} {items : Array Value} {Q : Value → Shared → Prop}
theorem rc_dn (h : s.heap.DictRaw d es ep) (hu : A.units < cLine) (q : Q (.bool false) s) : wpAny (model prog w) A (richCompare .Eq (.ref d) .none) Q E s :=
  rc_eq_decline_or (k := false) h.typeIs rfl (by decide) F.sub_NoneType_dict F.slot_dict_eq F.slot_NoneType_eq_refl (fun _ hq => dict_no h.typeIs rfl F.sub_NoneType_dict hq)
    (fun _ hq => call_gives F.slot_NoneType_eq_refl rfl F.entry_NoneType_eq (F.args_NoneType_eq_2 _ _) (NoneType___eq___none_ref_0 d) hq)
    (fun _ hq => wpAny_of_eq (rfl : isSame (.ref d) .none = pure false) hq) (.inr hu) q
theorem rc_nd (h : s.heap.DictRaw d es ep) (hu : A.units < cLine) (q : Q (.bool false) s) : wpAny (model prog w) A (richCompare .Eq .none (.ref d)) Q E s :=
  rc_eq_decline_or (k := false) rfl h.typeIs (by decide) F.sub_dict_NoneType F.slot_NoneType_eq F.slot_dict_eq_refl
    (fun _ hq => call_gives F.slot_NoneType_eq rfl F.entry_NoneType_eq (F.args_NoneType_eq_2 _ _) (NoneType___eq___none_ref_0 d) hq)
    (fun _ hq => dict_no h.typeIs rfl F.sub_NoneType_dict hq) (fun _ hq => wpAny_of_eq (rfl : isSame .none (.ref d) = pure false) hq) (.inr hu) q
theorem rc_di {i : Int} {t : Tok} (h : s.heap.DictRaw d es ep) (hu : A.units < cLine) (q : Q (.bool false) s) : wpAny (model prog w) A (richCompare .Eq (.ref d) (.int i t)) Q E s := by
  obtain ⟨⟨cls, dd, data, sl⟩, ho, hx, hd⟩ := id h
  simp only at hd
  subst hd
  exact rc_eq_decline_or (k := false) h.typeIs rfl (by decide) F.sub_int_dict F.slot_dict_eq F.slot_int_eq_refl (fun _ hq => dict_no h.typeIs rfl F.sub_int_dict hq)
    (fun _ hq => call_meets F.slot_int_eq_refl rfl F.entry_int_eq (F.args_int_eq_2 _ _) (int_no_dict i t d cls es ep dd sl) ⟨ho, hq⟩)
    (fun _ hq => wpAny_of_eq (rfl : isSame (.ref d) (.int i t) = pure false) hq) (.inr hu) q
theorem rc_id {i : Int} {t : Tok} (h : s.heap.DictRaw d es ep) (hu : A.units < cLine) (q : Q (.bool false) s) : wpAny (model prog w) A (richCompare .Eq (.int i t) (.ref d)) Q E s := by
  obtain ⟨⟨cls, dd, data, sl⟩, ho, hx, hd⟩ := id h
  simp only at hd
  subst hd
  exact rc_eq_decline_or (k := false) rfl h.typeIs (by decide) F.sub_dict_int F.slot_int_eq F.slot_dict_eq_refl
    (fun _ hq => call_meets F.slot_int_eq rfl F.entry_int_eq (F.args_int_eq_2 _ _) (int_no_dict i t d cls es ep dd sl) ⟨ho, hq⟩)
    (fun _ hq => dict_no h.typeIs rfl F.sub_int_dict hq) (fun _ hq => wpAny_of_eq (rfl : isSame (.int i t) (.ref d) = pure false) hq) (.inr hu) q
theorem rc_ds {x : Str} {t : Tok} (h : s.heap.DictRaw d es ep) (hu : A.units < cLine) (q : Q (.bool false) s) : wpAny (model prog w) A (richCompare .Eq (.ref d) (.str x t)) Q E s := by
  obtain ⟨⟨cls, dd, data, sl⟩, ho, hx, hd⟩ := id h
  simp only at hd
  subst hd
  exact rc_eq_decline_or (k := false) h.typeIs rfl (by decide) F.sub_str_dict F.slot_dict_eq F.slot_str_eq_refl (fun _ hq => dict_no h.typeIs rfl F.sub_str_dict hq)
    (fun _ hq => call_meets F.slot_str_eq_refl rfl F.entry_str_eq (F.args_str_eq_2 _ _) (str_no_dict x t d cls es ep dd sl) ⟨ho, hq⟩)
    (fun _ hq => wpAny_of_eq (rfl : isSame (.ref d) (.str x t) = pure false) hq) (.inr hu) q
theorem rc_sd {x : Str} {t : Tok} (h : s.heap.DictRaw d es ep) (hu : A.units < cLine) (q : Q (.bool false) s) : wpAny (model prog w) A (richCompare .Eq (.str x t) (.ref d)) Q E s := by
  obtain ⟨⟨cls, dd, data, sl⟩, ho, hx, hd⟩ := id h
  simp only at hd
  subst hd
  exact rc_eq_decline_or (k := false) rfl h.typeIs (by decide) F.sub_dict_str F.slot_str_eq F.slot_dict_eq_refl
    (fun _ hq => call_meets F.slot_str_eq rfl F.entry_str_eq (F.args_str_eq_2 _ _) (str_no_dict x t d cls es ep dd sl) ⟨ho, hq⟩)
    (fun _ hq => dict_no h.typeIs rfl F.sub_str_dict hq) (fun _ hq => wpAny_of_eq (rfl : isSame (.str x t) (.ref d) = pure false) hq) (.inr hu) q
theorem far {o : Obj} {T : String} (h : s.heap.DictRaw d es ep) (hl : s.heap.get? l = some o) (hc : o.cls = .type T) (n : T ≠ "dict") : d ≠ l := fun z => by
  obtain ⟨od, ho, hx, _⟩ := h
  rw [z, hl] at ho
  cases ho
  have := hx.1.symm.trans hc
  cases this
  exact n rfl
theorem rc_dl (h : s.heap.DictRaw d es ep) (hl : s.heap.IsList l items) (hu : A.units < cLine) (q : Q (.bool false) s) : wpAny (model prog w) A (richCompare .Eq (.ref d) (.ref l)) Q E s := by
  obtain ⟨⟨cls, dd, data, sl⟩, ho, hx, hd⟩ := id h
  obtain ⟨⟨cls2, dd2, data2, sl2⟩, ho2, hc2, n2, hd2⟩ := id hl
  simp only at hd hc2 hd2
  subst hd hc2 hd2
  have hx1 : cls = .type "dict" := hx.1
  subst hx1
  exact rc_eq_decline_or (k := false) h.typeIs ⟨_, ho2, rfl⟩ (by decide) F.sub_list_dict F.slot_dict_eq F.slot_list_eq_refl (fun _ hq => dict_no h.typeIs ⟨_, ho2, rfl⟩ F.sub_list_dict hq)
    (fun _ hq => call_meets F.slot_list_eq_refl ⟨_, ho2, rfl⟩ F.entry_list_eq (F.args_list_eq_2 _ _) (list_no_dict l d items es n2 ep dd2 dd sl2 sl) ⟨ho2, ho, hq⟩)
    (fun _ hq => wpAny_isSame_ref_other' (far h ho2 rfl (by decide)) ho ho2 (by simp) hq) (.inr hu) q
theorem rc_ld (h : s.heap.DictRaw d es ep) (hl : s.heap.IsList l items) (hu : A.units < cLine) (q : Q (.bool false) s) : wpAny (model prog w) A (richCompare .Eq (.ref l) (.ref d)) Q E s := by
  obtain ⟨⟨cls, dd, data, sl⟩, ho, hx, hd⟩ := id h
  obtain ⟨⟨cls2, dd2, data2, sl2⟩, ho2, hc2, n2, hd2⟩ := id hl
  simp only at hd hc2 hd2
  subst hd hc2 hd2
  have hx1 : cls = .type "dict" := hx.1
  subst hx1
  exact rc_eq_decline_or (k := false) ⟨_, ho2, rfl⟩ h.typeIs (by decide) F.sub_dict_list F.slot_list_eq F.slot_dict_eq_refl
    (fun _ hq => call_meets F.slot_list_eq ⟨_, ho2, rfl⟩ F.entry_list_eq (F.args_list_eq_2 _ _) (list_no_dict l d items es n2 ep dd2 dd sl2 sl) ⟨ho2, ho, hq⟩)
    (fun _ hq => dict_no h.typeIs ⟨_, ho2, rfl⟩ F.sub_list_dict hq) (fun _ hq => wpAny_isSame_ref_other' (far h ho2 rfl (by decide)).symm ho2 ho (by simp) hq) (.inr hu) q
theorem rc_dt (h : s.heap.DictRaw d es ep) (hl : s.heap.IsTuple l items) (hu : A.units < cLine) (q : Q (.bool false) s) : wpAny (model prog w) A (richCompare .Eq (.ref d) (.ref l)) Q E s := by
  obtain ⟨⟨cls, dd, data, sl⟩, ho, hx, hd⟩ := id h
  obtain ⟨⟨cls2, dd2, data2, sl2⟩, ho2, hc2, n2, hd2⟩ := id hl
  simp only at hd hc2 hd2
  subst hd hc2 hd2
  have hx1 : cls = .type "dict" := hx.1
  subst hx1
  exact rc_eq_decline_or (k := false) h.typeIs ⟨_, ho2, rfl⟩ (by decide) F.sub_tuple_dict F.slot_dict_eq F.slot_tuple_eq_refl (fun _ hq => dict_no h.typeIs ⟨_, ho2, rfl⟩ F.sub_tuple_dict hq)
    (fun _ hq => call_meets F.slot_tuple_eq_refl ⟨_, ho2, rfl⟩ F.entry_tuple_eq (F.args_tuple_eq_2 _ _) (tuple_no_dict l d items es n2 ep dd2 dd sl2 sl) ⟨ho2, ho, hq⟩)
    (fun _ hq => wpAny_isSame_ref_other (far h ho2 rfl (by decide)) ho ho2 (by simp) hq) (.inr hu) q
theorem rc_td (h : s.heap.DictRaw d es ep) (hl : s.heap.IsTuple l items) (hu : A.units < cLine) (q : Q (.bool false) s) : wpAny (model prog w) A (richCompare .Eq (.ref l) (.ref d)) Q E s := by
  obtain ⟨⟨cls, dd, data, sl⟩, ho, hx, hd⟩ := id h
  obtain ⟨⟨cls2, dd2, data2, sl2⟩, ho2, hc2, n2, hd2⟩ := id hl
  simp only at hd hc2 hd2
  subst hd hc2 hd2
  have hx1 : cls = .type "dict" := hx.1
  subst hx1
  exact rc_eq_decline_or (k := false) ⟨_, ho2, rfl⟩ h.typeIs (by decide) F.sub_dict_tuple F.slot_tuple_eq F.slot_dict_eq_refl
    (fun _ hq => call_meets F.slot_tuple_eq ⟨_, ho2, rfl⟩ F.entry_tuple_eq (F.args_tuple_eq_2 _ _) (tuple_no_dict l d items es n2 ep dd2 dd sl2 sl) ⟨ho2, ho, hq⟩)
    (fun _ hq => dict_no h.typeIs ⟨_, ho2, rfl⟩ F.sub_tuple_dict hq) (fun _ hq => wpAny_isSame_ref_other' (far h ho2 rfl (by decide)).symm ho2 ho (by simp) hq) (.inr hu) q
end
end Kpp
namespace Kpp
open PySem PySem.Spec PyProof.Rows PySem.SeqAt
open L2 (Key)
section
variable {prog : Program} {w : World} {A : Around} {E : Value → Shared → Prop} {s : Shared} {a b : Addr} {es es' : Array DictEntry} {ep ep' : Nat} {nm : String} {Q : Bool → Shared → Prop}
/-- dicts of other sizes -/
theorem same_len (na : (a == sysModules) = false) (nb : (b == sysModules) = false) (ha : s.heap.DictRaw a es ep) (hb : s.heap.DictRaw b es' ep') (n : es.size ≠ es'.size) (q : Q false s) : wpAny (model prog w) A (Builtin.Dict.samePairs nm a b) Q E s := by
  obtain ⟨oa, ga, _, da⟩ := ha
  obtain ⟨ob, gb, _, db⟩ := hb
  unfold Builtin.Dict.samePairs Builtin.Dict.showsAll
  rw [if_neg (by rw [na]; decide), if_neg (by rw [nb]; decide)]
  refine wpAny_bind (wpAny_pure (wpAny_bind (wpAny_pure (wpAny_bind (wpAny_dictEntries ga da ?_)))))
  refine wpAny_bind (wpAny_dictEntries gb db ?_)
  rw [if_pos (by simpa using n)]
  exact wpAny_bind (wpAny_rule (wpAny_pure q))
/-- empty dicts -/
theorem same_nil (na : (a == sysModules) = false) (nb : (b == sysModules) = false) (ha : s.heap.DictRaw a #[] ep) (hb : s.heap.DictRaw b #[] ep') (q : Q true s) : wpAny (model prog w) A (Builtin.Dict.samePairs nm a b) Q E s := by
  obtain ⟨oa, ga, _, da⟩ := ha
  obtain ⟨ob, gb, _, db⟩ := hb
  unfold Builtin.Dict.samePairs Builtin.Dict.showsAll
  rw [if_neg (by rw [na]; decide), if_neg (by rw [nb]; decide)]
  refine wpAny_bind (wpAny_pure (wpAny_bind (wpAny_pure (wpAny_bind (wpAny_dictEntries ga da ?_)))))
  refine wpAny_bind (wpAny_dictEntries gb db ?_)
  rw [if_neg (by decide)]
  refine wpAny_bind (wpAny_dictEpoch ga da ?_)
  refine wpAny_bind ?_
  rw [Std.Legacy.Range.forIn_eq_forIn_range']
  exact wpAny_pure (wpAny_pure q)
/-- dicts of one tuple key each, the same key -/
theorem same_one {k : List Key} {a1 b1 : Addr} {v1 v2 : Value} (hu : A.units < cLine) (na : (a == sysModules) = false) (nb : (b == sysModules) = false) (ha : s.heap.DictOfH (tupleKind (L2.mixKind prog w)) a [(k, a1, v1)]) (hb : s.heap.DictOfH (tupleKind (L2.mixKind prog w)) b [(k, b1, v2)])
    (eq : ∀ R : Bool → Shared → Prop, R true s → wpAny (model prog w) A (eqBool v1 v2) R E s) (q : Q true s) : wpAny (model prog w) A (Builtin.Dict.samePairs nm a b) Q E s := by
  obtain ⟨oa, es, ep, ga, _, da, ea, ia, _⟩ := ha
  obtain ⟨ob, es', ep', gb, _, db, eb, ib, nb2⟩ := hb
  have sa : es.size = 1 := size_of_entries ea
  have sb : es'.size = 1 := size_of_entries eb
  have e0 : es[0]? = some ⟨(tupleKind (L2.mixKind prog w)).hash k, .ref a1, v1⟩ := by rw [entry_at ea 0]; rfl
  have e1 : es'[0]? = some ⟨(tupleKind (L2.mixKind prog w)).hash k, .ref b1, v2⟩ := by rw [entry_at eb 0]; rfl
  unfold Builtin.Dict.samePairs Builtin.Dict.showsAll
  rw [if_neg (by rw [na]; decide), if_neg (by rw [nb]; decide)]
  refine wpAny_bind (wpAny_pure (wpAny_bind (wpAny_pure (wpAny_bind (wpAny_dictEntries ga da ?_)))))
  refine wpAny_bind (wpAny_dictEntries gb db ?_)
  rw [sa, sb, if_neg (by decide)]
  refine wpAny_bind (wpAny_dictEpoch ga da ?_)
  refine wpAny_bind ?_
  rw [Std.Legacy.Range.forIn_eq_forIn_range']
  show wpAny _ _ (forIn [0] _ _) _ _ _
  rw [List.forIn_cons]
  refine wpAny_bind (wpAny_bind (wpAny_dictEntries ga da ?_))
  rw [e0]
  refine wpAny_bind (wpAny_holding (wpAny_bind (wpAny_dictFind_heap hu (ia (k, a1, v1) (List.mem_singleton.mpr rfl)) gb db eb ib nb2 (fun none => absurd rfl (none 0 (b1, v2))) fun j p hj => ?_)))
  have j0 : j = 0 := by
    cases j with
    | zero => rfl
    | succ j => simp at hj
  subst j0
  refine wpAny_bind (wpAny_dictEntries gb db ?_)
  rw [e1]
  refine wpAny_holding (eq _ ?_)
  show wpAny _ _ (if (!true) = true then _ else _) _ _ _
  rw [if_neg (by decide)]
  refine wpAny_bind (wpAny_dictEpoch ga da ?_)
  rw [if_neg (by simp)]
  refine wpAny_pure ?_
  exact wpAny_pure (wpAny_pure q)
end
end Kpp
namespace Kpp
open PySem PySem.Spec PyProof.Rows L2 Gd
/-! ### two such values compared -/
section
variable {prog : Program} {w : World} {A : Around} {E : Value → Shared → Prop} {s : Shared} {a b : Addr} {r : Bool} {Q : Value → Shared → Prop}
theorem rc_dd (ta : s.TypeIs (.ref a) "dict") (tb : s.TypeIs (.ref b) "dict") (hu : A.units < cLine) (same : ∀ (E : Value → Shared → Prop) (R : Bool → Shared → Prop), R r s → wpAny (model prog w) A.in1 (Builtin.Dict.samePairs "dict.__eq__" a b) R E s) (q : Q (.bool r) s) :
    wpAny (model prog w) A (compareOp .Eq (.ref a) (.ref b)) Q E s := by
  refine wpAny_richCompare_same_room (op := .Eq) ta tb PySem.F.slot_dict_eq (wpAny_call_entry PySem.F.slot_dict_eq ta PySem.F.entry_dict_eq ?_ (PySem.F.args_dict_eq_2 _ _)) hu
  show wpAny _ _ (Builtin.Dict.dictSlotArgs "__eq__" ⟨[.ref a, .ref b], []⟩ >>= _) _ _ s
  refine wpAny_bind ?_
  unfold Builtin.Dict.dictSlotArgs
  refine wpAny_bind (wpAny_notOrdered_dict ta ?_)
  show wpAny _ _ (pure (Value.ref a, Value.ref b)) _ _ s
  refine wpAny_pure (wpAny_bind (wpAny_isInstance (T := "dict") tb PySem.F.sub_dict_dict ?_))
  simp only [Bool.not_true, Bool.false_eq_true, if_false]
  refine wpAny_bind (wpAny_pure (wpAny_bind (wpAny_pure (wpAny_bind (same _ _ ?_)))))
  refine wpAny_pure ⟨_, rfl, (fun x => nomatch x), ?_⟩
  simpa using q
end
theorem eq_low : ∀ k l : Fin 9, (zD k).eqv (zD l) = decide (k.val = l.val) ∧ SeqAt.shaped (zD k) = true := by decide +kernel
section
variable {X : Cx} {pins : List (Addr × Obj)} {σ : L2.St} {H : Hp} {s : Shared}
def rEqZ : R2 := fun x y H Q => ∃ k l, Zv H k x ∧ Zv H l y ∧ Q (.bl (decide (k = l))) H
/-- what stands at a value below the dicts -/
theorem low_kind (I : Inv X pins σ H s) : ∀ (k : Nat) (v : V) (u : Value), k < 9 → Zv H k v → RelV v u → u = .none ∨ (∃ i t, u = .int i t) ∨ (∃ x t, u = .str x t) ∨ (∃ a its, u = .ref a ∧ s.heap.IsTuple a its) ∨ (∃ a its, u = .ref a ∧ s.heap.IsList a its)
  | 0, v, u, _, h, r => by
    cases (show v = _ from h)
    exact .inl r
  | 1, v, u, _, h, r | 2, v, u, _, h, r | 3, v, u, _, h, r => by
    cases (show v = _ from h)
    obtain ⟨t, e⟩ := r
    exact .inr (.inl ⟨_, t, e⟩)
  | 4, v, u, _, h, r | 5, v, u, _, h, r => by
    cases (show v = _ from h)
    obtain ⟨t, e⟩ := r
    exact .inr (.inr (.inl ⟨_, t, e⟩))
  | 6, v, u, _, h, r => by
    obtain ⟨a, rfl, ha⟩ := h
    obtain ⟨_, its, rv, ob, hg, hc, m, hd⟩ := (show ObjOk X.prog X.w H s.heap a (.tup _) from I.hok a _ ha)
    exact .inr (.inr (.inr (.inl ⟨a, _, r, ob, hg, hc, m, hd⟩)))
  | 7, v, u, _, h, r => by
    obtain ⟨a, b, c, rfl, ha, _⟩ := h
    obtain ⟨_, its, rv, ob, hg, hc, m, hd⟩ := (show ObjOk X.prog X.w H s.heap a (.tup _) from I.hok a _ ha)
    exact .inr (.inr (.inr (.inl ⟨a, _, r, ob, hg, hc, m, hd⟩)))
  | 8, v, u, _, h, r => by
    obtain ⟨a, rfl, ha⟩ := h
    obtain ⟨_, its, m, rv, hg⟩ := (show ObjOk X.prog X.w H s.heap a (.lst []) from I.hok a _ ha)
    exact .inr (.inr (.inr (.inr ⟨a, _, r, _, hg, rfl, m, rfl⟩)))
  | _ + 9, _, _, l, _, _ => absurd l (by omega)
/-- the two dicts -/
theorem nine (I : Inv X pins σ H s) {v : V} {u : Value} (h : Zv H 9 v) (r : RelV v u) : ∃ a ep, u = .ref a ∧ (a == sysModules) = false ∧ s.heap.DictRaw a #[] ep := by
  obtain ⟨a, rfl, ha⟩ := h
  obtain ⟨_, hs, vs, kv, ob, es, ep, hg, hx, hd, _, hpr, _⟩ := (show ObjOk X.prog X.w H s.heap a (.dK []) from I.hok a _ ha)
  cases kv
  have he : es = #[] := by
    cases h : es.toList with
    | nil => exact Array.toList_inj.mp h
    | cons x r => rw [h] at hpr; cases hpr
  subst he
  exact ⟨a, ep, r, hs, ob, hg, hx, hd⟩
theorem ten (I : Inv X pins σ H s) {v : V} {u : Value} (h : Zv H 10 v) (r : RelV v u) : ∃ a c p, u = .ref a ∧ (a == sysModules) = false ∧ s.heap.DictOfH (tupleKind (mixKind X.prog X.w)) a [(zk, c, .ref p)] ∧ ∃ as, Reads s.heap (.ref p) (.tuple [.int 1, .tuple [.int 1]]) as := by
  obtain ⟨a, p, q, rfl, ha, hp, hq⟩ := h
  obtain ⟨_, hs, xs, kt, dd⟩ := dt_of I.hok ha
  cases kt with
  | @cons _ y _ ys k1 k2 =>
    cases k2
    obtain ⟨e1, e2, e3⟩ := k1
    obtain ⟨y1, y2, y3⟩ := y
    have e3 : y3 = Value.ref p := e3
    have e1 : zk = y1 := e1
    subst e3 e1
    refine ⟨a, y2, p, r, hs, dd, [], tup_reads I hp fun us r => cons_reads r (fun u r => sc_reads (v := .int 1) rfl r) fun us r => cons_reads r (fun u r => ?_) fun us r => nil_reads r⟩
    cases (show u = Value.ref q from r)
    exact tup_reads I hq fun us r => cons_reads r (fun u r => sc_reads (v := .int 1) rfl r) fun us r => nil_reads r
theorem raw_of {h : Heap} {a : Addr} {xs : List (List Key × Addr × Value)} {P : Program} {w : World} (d : h.DictOfH (tupleKind (mixKind P w)) a xs) : ∃ es ep, es.size = xs.length ∧ h.DictRaw a es ep := by
  obtain ⟨o, es, ep, g, x, d, e, _⟩ := d
  exact ⟨es, ep, size_of_entries e, o, g, x, d⟩
theorem dict_low (I : Inv X pins σ H s) {d : Addr} {es : Array DictEntry} {ep l : Nat} {v : V} {u : Value} {A : Around} {E : Value → Shared → Prop} {Q : Value → Shared → Prop} (h : s.heap.DictRaw d es ep) (hl : l < 9) (hz : Zv H l v) (r : RelV v u) (hu : A.units < cLine) (q : Q (.bool false) s) :
    wpAny (model X.prog X.w) A (compareOp .Eq (.ref d) u) Q E s ∧ wpAny (model X.prog X.w) A (compareOp .Eq u (.ref d)) Q E s := by
  rcases low_kind I l v u hl hz r with rfl | ⟨i, t, rfl⟩ | ⟨x, t, rfl⟩ | ⟨a, its, rfl, ht⟩ | ⟨a, its, rfl, ht⟩
  · exact ⟨rc_dn h hu q, rc_nd h hu q⟩
  · exact ⟨rc_di h hu q, rc_id h hu q⟩
  · exact ⟨rc_ds h hu q, rc_sd h hu q⟩
  · exact ⟨rc_dt h ht hu q, rc_td h ht hu q⟩
  · exact ⟨rc_dl h ht hu q, rc_ld h ht hu q⟩
theorem z_top {k : Nat} {v : V} (h : Zv H k v) (n : ¬ k < 9) : k = 9 ∨ k = 10 := by
  match k, h with
  | 9, _ => exact .inl rfl
  | 10, _ => exact .inr rfl
  | k + 11, h => exact h.elim
  | 0, _ | 1, _ | 2, _ | 3, _ | 4, _ | 5, _ | 6, _ | 7, _ | 8, _ => exact absurd (by decide) n
theorem z_raw (I : Inv X pins σ H s) {k : Nat} {v : V} {u : Value} (h : Zv H k v) (n : ¬ k < 9) (r : RelV v u) : ∃ a es ep, u = .ref a ∧ (a == sysModules) = false ∧ es.size + 9 = k ∧ s.heap.DictRaw a es ep := by
  rcases z_top h n with rfl | rfl
  · obtain ⟨a, ep, e, hs, d⟩ := nine I h r
    exact ⟨a, _, ep, e, hs, rfl, d⟩
  · obtain ⟨a, c, p, e, hs, d, _⟩ := ten I h r
    obtain ⟨es, ep, z, d⟩ := raw_of d
    exact ⟨a, es, ep, e, hs, by rw [z]; rfl, d⟩
theorem op_eqZ (hu : X.A.units + 128 < cLine) : OpR X (compareOp .Eq) rEqZ := by
  intro pins s σ H x y v u Q I rx ry h
  obtain ⟨k, l, hk, hl, q⟩ := h
  have fin : ∀ {b : Bool}, b = decide (k = l) → EP X pins σ Q (.bool b) s := fun e => ⟨.bl _, H, I, by rw [e]; rfl, q⟩
  have u0 : X.A.units < cLine := by omega
  by_cases n1 : k < 9
  · by_cases n2 : l < 9
    · obtain ⟨as, r1, _⟩ := zv_reads I k x v hk rx
      obtain ⟨bs, r2, _⟩ := zv_reads I l y u hl ry
      have e := eq_low ⟨k, n1⟩ ⟨l, n2⟩
      exact SeqAt.compareEq_shaped r1 r2 e.2 (eq_low ⟨l, n2⟩ ⟨k, n1⟩).2 (by omega) (by rw [e.1]; exact fin rfl)
    · obtain ⟨a, es, ep, rfl, _, z, d⟩ := z_raw I hl n2 ry
      exact (dict_low I d n1 hk rx u0 (fin (by rw [decide_eq_false (by omega)]))).2
  · obtain ⟨a, es, ep, rfl, na, z, d⟩ := z_raw I hk n1 rx
    by_cases n2 : l < 9
    · exact (dict_low I d n2 hl ry u0 (fin (by rw [decide_eq_false (by omega)]))).1
    · obtain ⟨b, es', ep', rfl, nb, z', d'⟩ := z_raw I hl n2 ry
      by_cases e : k = l
      · refine rc_dd d.typeIs d'.typeIs u0 (r := true) (fun E R h => ?_) (fin (by rw [decide_eq_true e]))
        subst e
        rcases z_top hk n1 with rfl | rfl
        · obtain ⟨a', ep1, e1, _, d1⟩ := nine I hk rx
          obtain ⟨b', ep2, e2, _, d2⟩ := nine I hl ry
          cases e1
          cases e2
          exact same_nil na nb d1 d2 h
        · obtain ⟨a', c1, p1, e1, _, d1, as, r1⟩ := ten I hk rx
          obtain ⟨b', c2, p2, e2, _, d2, bs, r2⟩ := ten I hl ry
          cases e1
          cases e2
          refine same_one (show X.A.units + 1 < cLine by omega) na nb d1 d2 (fun R hR => ?_) h
          exact W.keq_at r1 r2 (by decide +kernel) (by decide +kernel) (show X.A.units + 1 + 64 < cLine by omega) X.prog X.w _ _ hR
      · exact rc_dd d.typeIs d'.typeIs u0 (r := false) (fun E R h => same_len na nb d d' (by omega) h) (fin (by rw [decide_eq_false e]))
end
end Kpp
namespace Kpp
open PySem PySem.Spec PyProof.Rows L2 Gd
open Kone (spK spKT old_of old_at)
/-! ### kept, of the eleven values -/
theorem fn_or {P : Program} {w : World} {K : PySem.W.Frag} {mg : Str → Option Value} {base : Heap} {CX : CXT} {k : Nat} {f : Addr} {fd : FuncData} {ps : List Str} {sp sp' sq : Sp} (F : FnOk P w K mg base CX k f fd ps sp) (G : FnOk P w K mg base CX k f fd ps sp') (h : ∀ vs H Q E, sq vs H Q E → sp vs H Q E ∨ sp' vs H Q E) : FnOk P w K mg base CX k f fd ps sq :=
  ⟨fun vs H Q E q => (h vs H Q E q).elim (F.len vs H Q E) (G.len vs H Q E), fun A o s H ar us vs Q E a b c d q => (h vs H Q E q).elim (F.run A o s H ar us vs Q E a b c d) (G.run A o s H ar us vs Q E a b c d)⟩
theorem fn_lev {P : Program} {w : World} {K : PySem.W.Frag} {mg : Str → Option Value} {base : Heap} {CX : CXT} {k j : Nat} {f : Addr} {fd : FuncData} {ps : List Str} {sp : Sp} (F : FnOk P w K mg base CX k f fd ps sp) (l : k ≤ j) : FnOk P w K mg base CX j f fd ps sp :=
  ⟨F.len, fun A o s H ar us vs Q E a b c d q => F.run A o s H ar us vs Q E (a.mono l) b c d q⟩
theorem zv_dq {H : Hp} : ∀ {k : Nat} {v : V}, k < 10 → Zv H k v → Dq H 4 false v (zD k)
  | 0, _, _, h => by cases (show _ = _ from h); exact .inl True.intro
  | 1, _, _, h | 2, _, _, h | 3, _, _, h | 4, _, _, h | 5, _, _, h => by cases (show _ = _ from h); exact .inl rfl
  | 6, _, _, ⟨a, e, h⟩ => .inr (.inr (.inl ⟨a, _, _, e, rfl, h, .nil, by decide⟩))
  | 7, _, _, ⟨a, b, c, e, h1, h2, h3⟩ => .inr (.inr (.inl ⟨a, _, _, e, rfl, h1, .cons (.inr (.inr (.inl ⟨b, _, _, rfl, rfl, h2, .nil, by decide⟩))) (.cons (.inr (.inr (.inl ⟨c, _, _, rfl, rfl, h3, .cons (.inl rfl) .nil, by decide⟩))) .nil), by show 2 ≤ 100; decide⟩))
  | 8, _, _, ⟨a, e, h⟩ => .inr (.inl ⟨rfl, a, _, _, e, rfl, h, .nil, by decide⟩)
  | 9, _, _, ⟨a, e, h⟩ => .inr (.inr (.inr ⟨rfl, a, _, _, e, rfl, h, .nil, by decide, .nil⟩))
  | _ + 10, _, l, _ => absurd l (by omega)
theorem sc_int {v : V} {i : Int} (h : Sc v (.int i)) : v = .int i := by
  cases v <;> first | exact congrArg V.int h | exact h.elim
theorem sc_str {v : V} {x : Str} (h : Sc v (.str x)) : v = .str x := by
  cases v <;> first | exact congrArg V.str h | exact h.elim
theorem sc_non {v : V} (h : Sc v .none) : v = .non := by
  cases v <;> first | rfl | exact h.elim
theorem sc_no {v : V} {d : PyData} (n : flat d = false) (h : Sc v d) : False := by
  cases v <;> cases d <;> first | exact h | exact nomatch n
theorem dq_flat {H : Hp} {n : Nat} {b : Bool} {v : V} {d : PyData} (f : flat d = true) (h : Dq H n b v d) : Sc v d := by
  match n, h with
  | 0, h => exact h
  | n + 1, .inl h => exact h
  | n + 1, .inr (.inl ⟨_, a, xs, ds, _, e, _⟩) => rw [e] at f; cases f
  | n + 1, .inr (.inr (.inl ⟨a, xs, ds, _, e, _⟩)) => rw [e] at f; cases f
  | n + 1, .inr (.inr (.inr ⟨_, a, xs, ds, _, e, _⟩)) => rw [e] at f; cases f
theorem dq_tup {H : Hp} {n : Nat} {b : Bool} {v : V} {ds : List PyData} (h : Dq H (n + 1) b v (.tuple ds)) : ∃ a xs, v = .ref a ∧ H a = some (.tup xs) ∧ Paired (Dq H n b) xs ds := by
  rcases h with h | ⟨_, a, xs, ds', e1, e, _⟩ | ⟨a, xs, ds', e1, e, h1, h2, _⟩ | ⟨_, a, xs, ds', e1, e, _⟩
  · exact (sc_no rfl h).elim
  · cases e
  · cases e
    exact ⟨a, xs, e1, h1, h2⟩
  · cases e
theorem dq_zv {H : Hp} : ∀ {k : Nat} {v : V}, k < 10 → Dq H 4 false v (zD k) → Zv H k v
  | 0, _, _, h => sc_non (dq_flat rfl h)
  | 1, _, _, h | 2, _, _, h | 3, _, _, h => sc_int (dq_flat rfl h)
  | 4, _, _, h | 5, _, _, h => sc_str (dq_flat rfl h)
  | 6, _, _, h => by
    obtain ⟨a, xs, e, h1, h2⟩ := dq_tup h
    cases h2
    exact ⟨a, e, h1⟩
  | 7, _, _, h => by
    obtain ⟨a, xs, e, h1, h2⟩ := dq_tup h
    cases h2 with
    | cons p1 p2 =>
      cases p2 with
      | cons p2 p3 =>
        cases p3
        obtain ⟨b, ys, rfl, h3, h4⟩ := dq_tup p1
        cases h4
        obtain ⟨c, zs, rfl, h5, h6⟩ := dq_tup p2
        cases h6 with
        | cons p4 p5 =>
          cases p5
          cases sc_str (dq_flat rfl p4)
          exact ⟨a, b, c, e, h1, h3, h5⟩
  | 8, _, _, h => by
    rcases h with h | ⟨_, a, xs, ds', e1, e, h1, h2, _⟩ | ⟨a, xs, ds', e1, e, _⟩ | ⟨_, a, xs, ds', e1, e, _⟩
    · exact (sc_no rfl h).elim
    · cases e
      cases h2
      exact ⟨a, e1, h1⟩
    · cases e
    · cases e
  | 9, _, _, h => by
    rcases h with h | ⟨_, a, xs, ds', e1, e, _⟩ | ⟨a, xs, ds', e1, e, _⟩ | ⟨_, a, xs, ds', e1, e, h1, h2, _⟩
    · exact (sc_no rfl h).elim
    · cases e
    · cases e
    · cases e
      cases h2
      exact ⟨a, e1, h1⟩
  | _ + 10, _, l, _ => absurd l (by omega)
def spZ : Sp := fun vs H Q _ => ∃ (k : Nat) (v : V), vs = [v] ∧ Zv H k v ∧ ∀ (H' : Hp) (v' : V), Same H H' → Zv H' k v' → Q v' H'
theorem ok_keptZ {P : Program} {w : World} {K : PySem.W.Frag} {mg : Str → Option Value} {base : Heap} {f : Addr} {fd : FuncData} (T : Kone.TxtK mg) (U : Kone.Def K mg "kept" Kone.sKept ["value"] f fd) : FnOk P w K mg base CX0 5 f fd ["value"] spZ := by
  refine fn_or (Kone.ok_kept T U 5) (Kone.ok_keptT T U 3) fun vs H Q E h => ?_
  obtain ⟨k, v, rfl, hz, post⟩ := h
  by_cases n : k < 10
  · refine .inl ⟨false, v, zD k, H, rfl, Same.refl _, zv_dq n hz, fun H' v' s q => post H' v' s (dq_zv n (Dq.same (fun b o e => (old_of e).2) q))⟩
  · rcases z_top hz (by omega) with rfl | rfl
    · exact absurd (by decide) n
    · obtain ⟨a, p, q, rfl, ha, hp, hq⟩ := hz
      refine .inr ⟨a, .ref p, zk, .tuple [.int 1, .tuple [.int 1]], rfl, ha, .inr (.inr (.inl ⟨p, _, _, rfl, rfl, hp, .cons (.inl rfl) (.cons (.inr (.inr (.inl ⟨q, _, _, rfl, rfl, hq, .cons (.inl rfl) .nil, by decide⟩))) .nil), by show 2 ≤ 100; decide⟩)), fun H' a' v' s ha' hd => ?_⟩
      obtain ⟨p', xs, rfl, h1, h2⟩ := dq_tup hd
      cases h2 with
      | cons p1 p2 =>
        cases p2 with
        | cons p2 p3 =>
          cases p3
          cases sc_int (dq_flat rfl p1)
          obtain ⟨q', ys, rfl, h3, h4⟩ := dq_tup p2
          cases h4 with
          | cons p4 p5 =>
            cases p5
            cases sc_int (dq_flat rfl p4)
            exact post H' _ s ⟨a', p', q', rfl, ha', h1, h3⟩
end Kpp
namespace Gd
open PySem PySem.Spec PyProof.Rows L2
/-! ### x == y by the own __eq__ of x's class, whatever it answers -/
/-- what kind of thing y is -/
def YT (H : Hp) (y : V) (tb : Value) : Prop := (∃ (b C dx : Addr) (fs : List (Str × V)), y = .ref b ∧ H b = some (.ins C dx fs) ∧ tb = .ref C) ∨ (∃ (b : Addr) (xs : List V), y = .ref b ∧ H b = some (.tup xs) ∧ tb = .type "tuple")
def rOwn (K : PySem.W.Frag) (C : Addr) (sp : Sp) (E : XK) : R2 := fun x y H Q => ∃ (a dx : Addr) (fs : List (Str × V)) (tb : Value), x = .ref a ∧ H a = some (.ins C dx fs) ∧ YT H y tb ∧ PySem.W.notFirst K C tb = true ∧ sp [x, y] H (fun v H' => ∃ r, v = .bl r ∧ Q v H') E
section
variable {X : Cx} {CX : CXT} {k : Nat} {C f : Addr} {fd : FuncData} {ps : List Str} {sp : Sp} {E : XK}
theorem op_own (F : FnOk X.prog X.w X.K X.mg X.base CX k f fd ps sp) (hs : PySem.W.findIn X.K (.ref C) "__eq__" = some (some (.ref f))) (hf : PySem.W.isFn X.K (.ref f) = true) (hb : Binds X.K fd ps []) (hx : Passes CX X E) (hr : Room k X.A) : OpR X (compareOp .Eq) (rOwn X.K C sp E) := by
  intro pins s σ H x y v u Q I rx ry h
  obtain ⟨a, dx, fs, tb, rfl, ha, yt, nf, q⟩ := h
  cases rx
  obtain ⟨mA, J, _⟩ := ins_get I.hok ha
  obtain ⟨od, J, _⟩ := J.look
  obtain ⟨m, fr⟩ := I.fr
  have lk : PySem.W.Looks (model X.prog X.w) s.heap (typeOf u) tb := by
    rcases yt with ⟨b, C', dy, gs, rfl, hb', rfl⟩ | ⟨b, xs, rfl, hb', rfl⟩
    · cases ry
      obtain ⟨_, J', _⟩ := ins_get I.hok hb'
      obtain ⟨_, J', _⟩ := J'.look
      exact J'.type
    · cases ry
      obtain ⟨_, its, _, ob, hg, hc, _⟩ := (show ObjOk X.prog X.w H s.heap b (.tup xs) from I.hok b _ hb')
      exact fun A Q E s' k q => wpAny_typeOf (show s'.TypeIs (.ref b) "tuple" from ⟨ob, k _ _ hg, hc⟩) q
  refine PySem.W.cmp_K (op := .Eq) (tb := tb) hr.units0 fr I.ok.mod.kin J lk nf hs hf ?_
  have len := F.len _ _ _ _ q
  have vals : Vals [V.ref a, y] [Value.ref a, u] := .cons rfl (.cons ry .nil)
  have bind : BindsTo s fd ⟨[.ref a, u], []⟩ (ps.zip [.ref a, u]) := by
    have z := hb s [.ref a, u] I.kIn (by simpa using len)
    simpa using z
  refine wpAny_call (codeAny_mono (F.run X.A X.stack s H ⟨[.ref a, u], []⟩ [.ref a, u] [.ref a, y] _ E hr I.env0 bind vals q) fun r s' post => ?_)
  match r, post with
  | .error e, post => exact hx pins σ H s e s' I post
  | .ok (.ret z), post =>
    obtain ⟨zv, H', I', rz, b, eb, qb⟩ := I.after post
    subst eb
    cases (show z = Value.bool b from rz)
    exact ⟨.bl b, H', I', rfl, qb⟩
  | .ok .next, post => exact False.elim post
  | .ok .brk, post => exact False.elim post
  | .ok .cont, post => exact False.elim post
end
end Gd
namespace Kpp
open PySem PySem.Spec PyProof.Rows L2 Gd
/-! ### __init__: each field a kept argument -/
structure Ps6 where
  (p1 p2 p3 p4 p5 p6 : Pos)
def fdV (f : Str) (p : Ps6) : Expr := .Call (.Name "kept" p.p5) [.Name f p.p3] [] p.p6
def fdS (f : Str) (p : Ps6) : Stmt := .Assign [.Attribute (.Name "self" p.p1) f p.p2] (fdV f p) p.p4
/-- the fields f1, .. of a thing of class C, the values by their numbers -/
def Flds (H : Hp) : List (Str × V) → List Nat → Prop
  | [], [] => True
  | (_, v) :: r, k :: ks => Zv H k v ∧ Flds H r ks
  | _, _ => False
theorem Zv.keep {H H' : Hp} {a : Addr} {C dx : Addr} {fs : List (Str × V)} (ha : H a = some (.ins C dx fs)) (s : ∀ b o, b ≠ a → H b = some o → H' b = some o) : ∀ {k : Nat} {v : V}, Zv H k v → Zv H' k v
  | 0, _, h | 1, _, h | 2, _, h | 3, _, h | 4, _, h | 5, _, h => h
  | 6, _, ⟨a, e, h⟩ => ⟨a, e, s _ _ (ne_of h ha (fun z => nomatch z)) h⟩
  | 7, _, ⟨a, b, c, e, h1, h2, h3⟩ => ⟨a, b, c, e, s _ _ (ne_of h1 ha (fun z => nomatch z)) h1, s _ _ (ne_of h2 ha (fun z => nomatch z)) h2, s _ _ (ne_of h3 ha (fun z => nomatch z)) h3⟩
  | 8, _, ⟨a, e, h⟩ => ⟨a, e, s _ _ (ne_of h ha (fun z => nomatch z)) h⟩
  | 9, _, ⟨a, e, h⟩ => ⟨a, e, s _ _ (ne_of h ha (fun z => nomatch z)) h⟩
  | 10, _, ⟨a, p, q, e, h1, h2, h3⟩ => ⟨a, p, q, e, s _ _ (ne_of h1 ha (fun z => nomatch z)) h1, s _ _ (ne_of h2 ha (fun z => nomatch z)) h2, s _ _ (ne_of h3 ha (fun z => nomatch z)) h3⟩
  | _ + 11, _, h => h.elim
theorem Flds.keep {H H' : Hp} {a : Addr} {C dx : Addr} {fs : List (Str × V)} (ha : H a = some (.ins C dx fs)) (s : ∀ b o, b ≠ a → H b = some o → H' b = some o) : ∀ {gs : List (Str × V)} {ks : List Nat}, Flds H gs ks → Flds H' gs ks
  | [], [], _ => True.intro
  | _ :: _, _ :: _, ⟨h, r⟩ => ⟨Zv.keep ha s h, Flds.keep ha s r⟩
  | [], _ :: _, h => h.elim
  | _ :: _, [], h => h.elim
theorem Flds.same {H H' : Hp} (s : Same H H') : ∀ {gs : List (Str × V)} {ks : List Nat}, Flds H gs ks → Flds H' gs ks
  | [], [], _ => True.intro
  | _ :: _, _ :: _, ⟨h, r⟩ => ⟨Zv.same s h, Flds.same s r⟩
  | [], _ :: _, h => h.elim
  | _ :: _, [], h => h.elim
theorem Flds.snoc {H : Hp} {f : Str} {v : V} {k : Nat} (h : Zv H k v) : ∀ {gs : List (Str × V)} {ks : List Nat}, Flds H gs ks → Flds H (gs ++ [(f, v)]) (ks ++ [k])
  | [], [], _ => ⟨h, True.intro⟩
  | _ :: _, _ :: _, ⟨h1, r⟩ => ⟨h1, Flds.snoc h r⟩
  | [], _ :: _, h => h.elim
  | _ :: _, [], h => h.elim
theorem putF_new {f : Str} {v : V} : ∀ {gs : List (Str × V)}, f ∉ gs.map (·.1) → putF f v gs = gs ++ [(f, v)]
  | [], _ => rfl
  | (g, x) :: r, h => by
    have n : g ≠ f := fun z => h (by rw [z]; exact List.mem_cons_self ..)
    show (if g = f then _ else (g, x) :: putF f v r) = _
    rw [if_neg n, putF_new (fun z => h (List.mem_cons_of_mem _ z))]
    rfl
/-- the statements, read one after another -/
def tIni (K : PySem.W.Frag) : List (Str × Nat × Ps6) → TS
  | [] => tNext
  | x :: r => tSeq (sFld K (tVar 0) (tCall spZ [] E0 (tCons (tVar x.2.1) tNil)) x.1) (tIni K r)
theorem ini_pss {X : Cx} (self : ∀ p, PE X (.Name "self" p) (tVar 0)) (kept : ∀ (f : Str) (i : Nat) (p : Ps6), PE X (.Name f p.p3) (tVar i) → PE X (fdV f p) (tCall spZ [] E0 (tCons (tVar i) tNil))) :
    ∀ l : List (Str × Nat × Ps6), (∀ x ∈ l, (∀ p, PE X (.Name x.1 p) (tVar x.2.1)) ∧ swapsWith (fdV x.1 x.2.2) (some (.Attribute (.Name "self" x.2.2.p1) x.1 x.2.2.p2)) x.2.2.p4.line X.env = pure false) → PSs X (l.map fun x => fdS x.1 x.2.2) (tIni X.K l)
  | [], _ => pss_nil
  | x :: r, h => by
    obtain ⟨h1, h2⟩ := h x (List.mem_cons_self ..)
    exact pss_cons (ps_fld (self _) (kept _ _ _ (h1 _)) h2) (ini_pss self kept r fun y hy => h y (List.mem_cons_of_mem _ hy))
end Kpp
namespace Kpp
open PySem PySem.Spec PyProof.Rows L2 Gd
/-- the arguments that are left, by their numbers -/
def Left (σ : L2.St) (H : Hp) : List (Str × Nat × Ps6) → List Nat → Prop
  | [], [] => True
  | x :: r, k :: ks => (∃ v, σ[x.2.1]? = some (some v) ∧ Zv H k v) ∧ Left σ H r ks
  | _, _ => False
theorem Left.keep {σ : L2.St} {H H' : Hp} {a : Addr} {C dx : Addr} {fs : List (Str × V)} (ha : H a = some (.ins C dx fs)) (s : ∀ b o, b ≠ a → H b = some o → H' b = some o) : ∀ {l : List (Str × Nat × Ps6)} {ks : List Nat}, Left σ H l ks → Left σ H' l ks
  | [], [], _ => True.intro
  | _ :: _, _ :: _, ⟨⟨v, e, h⟩, r⟩ => ⟨⟨v, e, Zv.keep ha s h⟩, Left.keep ha s r⟩
  | [], _ :: _, h => h.elim
  | _ :: _, [], h => h.elim
theorem ini_read {K : PySem.W.Frag} {C a dx : Addr} {σ : L2.St} {D : Ends} (c : Cls K C) (h0 : σ[0]? = some (some (.ref a))) : ∀ (l : List (Str × Nat × Ps6)) (gs : List (Str × V)) (ks js : List Nat) (H : Hp),
    H a = some (.ins C dx gs) → Flds H gs ks → Left σ H l js → (∀ x ∈ l, NoAttr K C x.1) → (gs.map (·.1) ++ l.map (·.1)).Nodup → gs.length + l.length ≤ 100 →
    (∀ (H' : Hp) (gs' : List (Str × V)), (∀ b o, b ≠ a → H b = some o → H' b = some o) → H' a = some (.ins C dx gs') → gs'.map (·.1) = gs.map (·.1) ++ l.map (·.1) → Flds H' gs' (ks ++ js) → D.nx σ H') → tIni K l D σ H
  | [], gs, ks, js, H, ha, hf, hl, _, _, _, post => by
    cases js with
    | nil => exact post H gs (fun _ _ _ e => e) ha (by simp) (by rw [List.append_nil]; exact hf)
    | cons => exact hl.elim
  | x :: r, gs, ks, js, H, ha, hf, hl, na, nd, few, post => by
    cases js with
    | nil => exact hl.elim
    | cons j js =>
      obtain ⟨⟨v, ev, hz⟩, hl⟩ := hl
      refine ⟨_, ev, j, v, rfl, hz, fun H1 v' s1 hz' => ⟨_, h0, a, C, dx, gs, rfl, s1 _ _ ha, c, na x (List.mem_cons_self ..), by rw [List.length_cons] at few; omega, ?_⟩⟩
      have new : x.1 ∉ gs.map (·.1) := fun z => by
        rw [List.map_cons, List.nodup_append] at nd
        exact nd.2.2 _ z _ (List.mem_cons_self ..) rfl
      rw [putF_new new]
      have keep1 : ∀ b o, b ≠ a → H b = some o → upd H1 a (.ins C dx (gs ++ [(x.1, v')])) b = some o := fun b o n e => (upd_ne n).trans (s1 _ _ e)
      have keep2 : ∀ b o, b ≠ a → H1 b = some o → upd H1 a (.ins C dx (gs ++ [(x.1, v')])) b = some o := fun b o n e => (upd_ne n).trans e
      refine ini_read c h0 r (gs ++ [(x.1, v')]) (ks ++ [j]) js _ upd_same (Flds.snoc (Zv.keep (s1 _ _ ha) keep2 hz') (Flds.keep ha keep1 hf)) (Left.keep ha keep1 hl) (fun y hy => na y (List.mem_cons_of_mem _ hy)) ?_ ?_ fun H' gs' k1 e1 e2 e3 => ?_
      · rw [List.map_append, List.append_assoc]
        exact nd
      · rw [List.length_append]
        rw [List.length_cons] at few
        show gs.length + 1 + r.length ≤ 100
        omega
      · refine post H' gs' (fun b o n e => k1 b o n (keep1 b o n e)) e1 (by rw [e2, List.map_append, List.append_assoc]; rfl) (by rw [List.append_assoc] at e3; exact e3)
end Kpp
namespace Kpp
open PySem PySem.Spec PyProof.Rows L2 Gd
def Each {α : Type} (F : α → Prop) : List α → Prop
  | [] => True
  | x :: r => F x ∧ Each F r
theorem Each.at {α : Type} {F : α → Prop} : ∀ {l : List α}, Each F l → ∀ x ∈ l, F x
  | _ :: _, ⟨h, r⟩, x, hx => by
    rcases List.mem_cons.mp hx with e | e
    · rw [e]; exact h
    · exact Each.at r x e
/-- what the text of an __init__ must be, at one field -/
structure Fdx (sc : Scope) (N : List Str) (x : Str × Nat × Ps6) : Prop where
  n : N[x.2.1]? = some x.1
  v : Vis sc x.1
  d : (x.1 == ("__debug__" : Str)) = false
  c : (x.1 == ("__classdict__" : Str)) = false
  s : ∀ env, swapsWith (fdV x.1 x.2.2) (some (.Attribute (.Name "self" x.2.2.p1) x.1 x.2.2.p2)) x.2.2.p4.line env = pure false
def spIni (C : Addr) (N : List Str) (l : List (Str × Nat × Ps6)) : Sp := fun vs H Q _ => ∃ (a dx : Addr) (js : List Nat), vs.length = N.length ∧ (start N vs)[0]? = some (some (.ref a)) ∧ H a = some (.ins C dx []) ∧ Left (start N vs) H l js ∧
  ∀ (H' : Hp) (gs' : List (Str × V)), (∀ b o, b ≠ a → H b = some o → H' b = some o) → H' a = some (.ins C dx gs') → gs'.map (·.1) = l.map (·.1) → Flds H' gs' js → Q .non H'
section
variable {P : Program} {w : World} {K : PySem.W.Frag} {mg : Str → Option Value} {base : Heap}
theorem ok_ini {C : Addr} {st : Stmt} {qual : Str} {fI fK : Addr} {fd fdK : FuncData} {N : List Str} {l : List (Str × Nat × Ps6)} (F : Fun K "__init__" qual st fI fd) (T : Kone.TxtK mg) (U : Kone.Def K mg "kept" Kone.sKept ["value"] fK fdK) (S : FnScope N N (defScope st))
    (hB : defBody st = l.map fun x => fdS x.1 x.2.2) (n0 : N[0]? = some ("self" : Str)) (h0 : Vis (defScope st) "self") (hgk : (defScope st).names.lookup ("kept" : Str) = some .globalImplicit) (each : Each (Fdx (defScope st) N) l) (c : Cls K C) (na : Each (fun x => NoAttr K C x.1) l) (nd : (l.map (·.1)).Nodup) (few : l.length ≤ 100) :
    FnOk P w K mg base CX0 6 fI fd N (spIni C N l) := by
  have GK : FnOk P w K mg base CX0 5 fK fdK ["value"] spZ := ok_keptZ T U
  refine F.ok S (fun vs H Q E h => ?_) (fun cdv A outer s H vs Q E hr h => ?_)
  · obtain ⟨_, _, _, e, _⟩ := h
    exact e
  · obtain ⟨a, dx, js, _, e0, ha, left, post⟩ := h
    rw [hB]
    refine ⟨tIni K l, ?_, ?_⟩
    · refine ini_pss (fun p => pv 0 n0 h0) (fun f i p q => ?_) l fun x hx => ?_
      · exact pe_call GK hr hgk U.g U.k U.b .nil pass0 (pa_cons q pa_nil)
      · obtain ⟨z1, z2, z3, z4, z5⟩ := each.at x hx
        exact ⟨fun p => pv _ z1 z2 z3 z4, z5 _⟩
    · exact ini_read c e0 l [] [] js H ha True.intro left na.at nd (by simpa using few) fun H' gs' k e1 e2 e3 => post H' gs' k e1 e2 e3
end
end Kpp
namespace Kpp
open PySem PySem.Spec PyProof.Rows L2 Gd
/-! ### __eq__: isinstance, then each field -/
structure Ps5 where
  (p1 p2 p3 p4 p5 : Pos)
def cmpE (f : Str) (p : Ps5) : Expr := .Compare (.Attribute (.Name "self" p.p1) f p.p2) [.Eq] [.Attribute (.Name "other" p.p3) f p.p4] p.p5
def tEq1 (K : PySem.W.Frag) (f : Str) : TE := tOp rEqZ (tFld K (tVar 0) f) (tFld K (tVar 1) f)
def tAll (K : PySem.W.Frag) (t : TE) : List Str → TE
  | [] => t
  | f :: r => tAndV t (tAll K (tEq1 K f) r)
theorem pe_all {X : Cx} {pos : Pos} (cmp : ∀ (f : Str) (p : Ps5), PE X (cmpE f p) (tEq1 X.K f)) : ∀ (l : List (Str × Ps5)) (e : Expr) (t : TE), PE X e t → PE X (.BoolOp .And (e :: l.map fun x => cmpE x.1 x.2) pos) (tAll X.K t (l.map (·.1)))
  | [], e, t, h => pe_one h
  | x :: r, e, t, h => pe_and h (pe_all cmp r _ _ (cmp x.1 x.2))
/-- pair by pair the same -/
def Same2 : List Nat → List Nat → Bool
  | [], [] => true
  | k :: ks, j :: js => decide (k = j) && Same2 ks js
  | _, _ => false
theorem same2_eq : ∀ (ks js : List Nat), Same2 ks js = decide (ks = js)
  | [], [] => rfl
  | [], _ :: _ => rfl
  | _ :: _, [] => rfl
  | k :: ks, j :: js => by
    show (decide (k = j) && Same2 ks js) = _
    rw [same2_eq ks js, Bool.eq_iff_iff]
    simp
theorem lookup_in {f : Str} {v : V} : ∀ {gs : List (Str × V)}, (gs.map (·.1)).Nodup → (f, v) ∈ gs → gs.lookup f = some v
  | (g, x) :: r, nd, h => by
    rw [List.map_cons, List.nodup_cons] at nd
    rcases List.mem_cons.mp h with e | e
    · cases e
      simp [List.lookup]
    · have n : (f == g) = false := by
        rw [beq_eq_false_iff_ne]
        intro z
        exact nd.1 (by rw [← z]; exact List.mem_map.mpr ⟨_, e, rfl⟩)
      simp only [List.lookup, n]
      exact lookup_in nd.2 e
/-- what is read of a comparison field by field -/
theorem all_read {K : PySem.W.Frag} {C a b dx dy : Addr} {gs0 hs0 : List (Str × V)} {σ : L2.St} {H : Hp} {Q : VK} (c : Cls K C) (e0 : σ[0]? = some (some (.ref a))) (e1 : σ[1]? = some (some (.ref b))) (ha : H a = some (.ins C dx gs0)) (hb : H b = some (.ins C dy hs0)) (n1 : (gs0.map (·.1)).Nodup) (n2 : (hs0.map (·.1)).Nodup) :
    ∀ (gs hs : List (Str × V)) (ks js : List Nat) (t : TE) (k : Bool), (∀ p ∈ gs, p ∈ gs0) → (∀ p ∈ hs, p ∈ hs0) → gs.map (·.1) = hs.map (·.1) → (∀ p ∈ gs, NoAttr K C p.1) → Flds H gs ks → Flds H hs js → (∀ Q' : VK, Q' (.bl k) H → t σ H Q') → Q (.bl (k && Same2 ks js)) H → tAll K t (gs.map (·.1)) σ H Q
  | [], [], ks, js, t, k, _, _, _, _, f1, f2, ht, q => by
    cases ks with
    | cons => exact f1.elim
    | nil =>
      cases js with
      | cons => exact f2.elim
      | nil => exact ht Q (by rw [show Same2 [] [] = true from rfl, Bool.and_true] at q; exact q)
  | [], _ :: _, _, _, _, _, _, _, e, _, _, _, _, _ => nomatch e
  | _ :: _, [], _, _, _, _, _, _, e, _, _, _, _, _ => nomatch e
  | (f, v) :: gs, (g, u) :: hs, ks, js, t, k, m1, m2, e, na, f1, f2, ht, q => by
    cases ks with
    | nil => exact f1.elim
    | cons x ks =>
      cases js with
      | nil => exact f2.elim
      | cons y js =>
        obtain ⟨z1, r1⟩ := f1
        obtain ⟨z2, r2⟩ := f2
        rw [List.map_cons, List.map_cons, List.cons.injEq] at e
        obtain ⟨eg, er⟩ := e
        have eg : f = g := eg
        subst eg
        refine ht _ ⟨k, rfl, ?_⟩
        cases k with
        | false => exact q
        | true =>
          rw [if_pos rfl]
          refine all_read c e0 e1 ha hb n1 n2 gs hs ks js (tEq1 K f) (decide (x = y)) (fun p h => m1 p (List.mem_cons_of_mem _ h)) (fun p h => m2 p (List.mem_cons_of_mem _ h)) er (fun p h => na p (List.mem_cons_of_mem _ h)) r1 r2 (fun Q' q' => ?_) (by rw [Bool.true_and] at q; exact q)
          have no := na _ (List.mem_cons_self ..)
          exact ⟨_, e0, a, C, dx, gs0, v, rfl, ha, c, no, lookup_in n1 (m1 _ (List.mem_cons_self ..)), _, e1, b, C, dy, hs0, u, rfl, hb, c, no, lookup_in n2 (m2 _ (List.mem_cons_self ..)), x, y, z1, z2, q'⟩
end Kpp
namespace Kpp
open PySem PySem.Spec PyProof.Rows L2 Gd
structure Ps4 where
  (q1 q2 q3 q4 : Pos)
def isE (x : Str) (q : Ps4) : Expr := .Call (.Name "isinstance" q.q1) [.Name "other" q.q2, .Name x q.q3] [] q.q4
/-- what == of a thing of class C with these fields answers -/
def spEqC (K : PySem.W.Frag) (C : Addr) (names : List Str) : Sp := fun vs H Q _ => ∃ (a dx : Addr) (y : V) (gs : List (Str × V)) (ks : List Nat), vs = [.ref a, y] ∧ H a = some (.ins C dx gs) ∧ gs.map (·.1) = names ∧ Flds H gs ks ∧
  ((∃ (b dy : Addr) (hs : List (Str × V)) (js : List Nat), y = .ref b ∧ H b = some (.ins C dy hs) ∧ hs.map (·.1) = names ∧ Flds H hs js ∧ Q (.bl (decide (ks = js))) H) ∨ (∃ t, TyX K H y t ∧ PySem.W.kitOne K t (.ref C) = some false ∧ Q (.bl false) H))
theorem tAll_false {K : PySem.W.Frag} {t : TE} {σ : L2.St} {H : Hp} {Q : VK} : ∀ l : List Str, (∀ Q' : VK, Q' (.bl false) H → t σ H Q') → Q (.bl false) H → tAll K t l σ H Q
  | [], h, q => h Q q
  | _ :: _, h, q => h _ ⟨false, rfl, q⟩
section
variable {P : Program} {w : World} {K : PySem.W.Frag} {mg : Str → Option Value} {base : Heap}
theorem ok_eqC {C : Addr} {x qual : Str} {st : Stmt} {fE : Addr} {fd : FuncData} {l : List (Str × Ps5)} {q : Ps4} {p1 p2 : Pos} (F : Fun K "__eq__" qual st fE fd) (S : FnScope ["self", "other"] ["self", "other"] (defScope st))
    (hB : defBody st = [.Return (some (.BoolOp .And (isE x q :: l.map fun x => cmpE x.1 x.2) p1)) p2] ∨ (l = [] ∧ defBody st = [.Return (some (isE x q)) p2]))
    (h0 : Vis (defScope st) "self") (h1 : Vis (defScope st) "other") (hgi : (defScope st).names.lookup ("isinstance" : Str) = some .globalImplicit) (hgx : (defScope st).names.lookup x = some .globalImplicit) (hdx : (x == ("__debug__" : Str)) = false)
    (isi : mg "isinstance" = none) (hx : mg x = some (.ref C)) (c : Cls K C) (tyC : ∀ (H : Hp) (b dy : Addr) (hs : List (Str × V)), H b = some (.ins C dy hs) → TyOf K H (.ref b) (.ref C)) (kC : PySem.W.kitOne K (.ref C) (.ref C) = some true) (na : ∀ f ∈ l.map (·.1), NoAttr K C f) (nd : (l.map (·.1)).Nodup) :
    FnOk P w K mg base CX0 1 fE fd ["self", "other"] (spEqC K C (l.map (·.1))) := by
  refine F.ok S (fun vs H Q E h => ?_) (fun cdv A outer s H vs Q E hr h => ?_)
  · obtain ⟨a, dx, y, gs, ks, rfl, _⟩ := h
    rfl
  · obtain ⟨a, dx, y, gs, ks, rfl, ha, en, fl, alt⟩ := h
    have big : ∃ t, PSs (cxOf CX0 P w K mg base ["self", "other"] qual (defScope st) fE cdv A outer s H E).nox (defBody st) t ∧ t = tRet (tAll K (tCB (rIsi K) (tCons (tVar 1) (tCons (tC (.ref C)) tNil))) (l.map (·.1))) := by
      have is : PE (cxOf CX0 P w K mg base ["self", "other"] qual (defScope st) fE cdv A outer s H E).nox (isE x q) (tCB (rIsi K) (tCons (tVar 1) (tCons (tC (.ref C)) tNil))) :=
        pe_callB call_isi hgi isi (by decide +kernel) (pa_cons (pv 1 rfl h1) (pa_cons (pe_glob (v := .ref C) hgx hx rfl hdx) pa_nil))
      rcases hB with hB | ⟨el, hB⟩
      · rw [hB]
        exact ⟨_, pss_one (ps_ret (pe_all (fun f p => pe_cmpR (op_eqZ (Nat.lt_of_le_of_lt (Nat.add_le_add_left (show 128 ≤ 200 by decide) _) hr.un)) (pe_fld (pv 0 rfl h0) rfl) (pe_fld (pv 1 rfl h1) rfl) (nomark _)) l _ _ is)), rfl⟩
      · rw [hB]
        subst el
        exact ⟨_, pss_one (ps_ret is), rfl⟩
    obtain ⟨t, ht, rfl⟩ := big
    refine ⟨_, ht, ?_⟩
    have isr : ∀ {t : Value} {b : Bool}, TyX K H y t → PySem.W.kitOne K t (.ref C) = some b → ∀ Q' : VK, Q' (.bl b) H → tCB (rIsi K) (tCons (tVar 1) (tCons (tC (.ref C)) tNil)) (start ["self", "other"] [.ref a, y]) H Q' := fun ty k Q' q' => ⟨_, rfl, y, .ref C, _, .ref C, _, rfl, .own _, ty, k, q'⟩
    rcases alt with ⟨b, dy, hs, js, rfl, hb, en2, fl2, q⟩ | ⟨t, ty, kt, q⟩
    · rw [← en]
      refine all_read c rfl rfl ha hb (by rw [en]; exact nd) (by rw [en2]; exact nd) gs hs ks js _ true (fun _ h => h) (fun _ h => h) (en.trans en2.symm) (fun p hp => na _ (by rw [← en]; exact List.mem_map.mpr ⟨p, hp, rfl⟩)) fl fl2 (isr (.base (tyC _ _ _ _ hb)) kC) ?_
      rw [Bool.true_and, same2_eq]
      exact q
    · exact tAll_false _ (isr ty kt) q
end
end Kpp
namespace Gd
open PySem PySem.Spec PyProof.Rows
/-! ### x != y where object.__ne__ asks the own __eq__ of x's class -/
section
variable {prog : Program} {w : World} {A : Around} {E : Value → Shared → Prop} {s : Shared} {K : PySem.W.Frag} {x C f L : Addr} {u : Value} {ox : Obj} {od : Option Obj} {h0 : Heap} {m : Str → Option Value}
/-- object.__ne__, the own __eq__ answering a bool -/
theorem obj_ne {Q : Value → Shared → Prop} (hu : A.units + 1 < cLine) (X : K.In s.heap) (I : PySem.W.InstAt s.heap x ox C od) (hm : PySem.W.mroIn K C (.type "object") = some true) (hs : PySem.W.findIn K (.ref C) "__eq__" = some (some (.ref f))) (hf : PySem.W.isFn K (.ref f) = true)
    (h : wpAny (model prog w) A.in1 (call (.ref f) [.ref x, u]) (fun v s' => ∃ b, v = .bool b ∧ Q (.bool (!b)) s') E s) : wpAny (model prog w) A (call (.builtin "object.__ne__") [.ref x, u]) Q E s := by
  refine wpAny_call (codeAny_call_builtin F.cmp_object.ne.plain F.cmpEntry_ne (PySem.W.check_slot F.cmpKind_ne F.cmpSplit_ne (I.type.andThen (PySem.W.looks_mroIn X hm)) (F.cmpArgs_ne _ _) ?_))
  unfold Builtin.«object.__ne__»
  show wpAny _ _ (cRoomFor "comparison" [Value.ref x, u] >>= fun _ => _) _ _ s
  refine wpAny_bind (wpAny_cRoomFor (show A.units + 1 < cLine from hu) ?_)
  refine wpAny_bind (PySem.W.ifBound_K X I hs hf (wpAny_mono h (fun v s' z => ?_) fun _ _ e => e))
  obtain ⟨b, rfl, q⟩ := z
  exact wpAny_bind (wpAny_truthy_bool (wpAny_pure q))
/-- __ne__ of x -/
theorem if_ne {Q : Option Value → Shared → Prop} (X : K.In s.heap) (I : PySem.W.InstAt s.heap x ox C od) (hn : PySem.W.findIn K (.ref C) "__ne__" = some (some (.builtin "object.__ne__")))
    (h : wpAny (model prog w) A (call (.builtin "object.__ne__") [.ref x, u]) (fun v => Q (some v)) E s) : wpAny (model prog w) A (callSpecialIfBound? (.ref x) "__ne__" [u]) Q E s := by
  simp only [callSpecialIfBound?, bindSpecialIfBound?]
  refine wpAny_holding (wpAny_bind (wpAny_bind (wpAny_bind (I.type.here ((PySem.W.looks_findIn X hn).here ?_)))))
  refine wpAny_bind (wpAny_askSetting (wpAny_ite ?_))
  have last : wpAny (model prog w) A (call (.builtin "object.__ne__") ([.ref x] ++ [u]) >>= fun v => pure (some v)) Q E s := wpAny_bind (wpAny_mono h (fun _ _ z => wpAny_pure z) fun _ _ e => e)
  split
  · exact wpAny_bind (wpAny_of_eq (F.cmp_object.ne.bind _) (wpAny_pure (by exact last)))
  · exact wpAny_tryCatch (wpAny_bind (wpAny_of_eq (F.cmp_object.ne.bind _) (wpAny_pure (by exact last))))
theorem cmp_ne {tb : Value} {Q : Value → Shared → Prop} (hu : A.units + 1 < cLine) (X : K.In s.heap) (I : PySem.W.InstAt s.heap x ox C od) (hb : PySem.W.Looks (model prog w) s.heap (typeOf u) tb) (nf : PySem.W.notFirst K C tb = true)
    (hm : PySem.W.mroIn K C (.type "object") = some true) (hn : PySem.W.findIn K (.ref C) "__ne__" = some (some (.builtin "object.__ne__"))) (hs : PySem.W.findIn K (.ref C) "__eq__" = some (some (.ref f))) (hf : PySem.W.isFn K (.ref f) = true)
    (h : wpAny (model prog w) A.in1 (call (.ref f) [.ref x, u]) (fun v s' => ∃ b, v = .bool b ∧ Q (.bool (!b)) s') E s) : wpAny (model prog w) A (richCompare .NotEq (.ref x) u) Q E s := by
  have one : wpAny (model prog w) A (tryCompare (.ref x) (cmpInfo .NotEq).2.1 u) (fun r s' => ∃ v, r = some v ∧ Q v s') E s := by
    unfold tryCompare
    refine wpAny_bind (if_ne X I hn (obj_ne hu X I hm hs hf (wpAny_mono h (fun v s' z => ?_) fun _ _ e => e)))
    obtain ⟨b, eb, q⟩ := z
    exact ⟨b, eb, wpAny_pure ⟨_, rfl, q⟩⟩
  unfold richCompare
  simp only [oneThing_ref]
  refine wpAny_holding (wpAny_bind (wpAny_cRoomFor (show A.units < cLine by omega) ?_))
  refine wpAny_bind (I.type.here (wpAny_bind (hb.here ?_)))
  split
  · rename_i q
    have e : PySem.W.subIn K tb (.ref C) = some false := by
      rcases Bool.or_eq_true_iff.mp nf with e | e
      · rw [beq_iff_eq.mp e] at q
        simp at q
      · exact beq_iff_eq.mp e
    refine wpAny_bind ((PySem.W.looks_subIn X e).here ?_)
    simp only [Bool.false_eq_true, if_false]
    refine wpAny_bind (wpAny_mono one (fun r s' z => ?_) fun _ _ e => e)
    obtain ⟨v, rfl, hq⟩ := z
    exact wpAny_pure hq
  · refine wpAny_bind (wpAny_pure ?_)
    simp only [Bool.false_eq_true, if_false]
    refine wpAny_bind (wpAny_mono one (fun r s' z => ?_) fun _ _ e => e)
    obtain ⟨v, rfl, hq⟩ := z
    exact wpAny_pure hq
end
end Gd
namespace Gd
open PySem PySem.Spec PyProof.Rows L2
def rOwnN (K : PySem.W.Frag) (C : Addr) (sp : Sp) (E : XK) : R2 := fun x y H Q => ∃ (a dx : Addr) (fs : List (Str × V)) (tb : Value), x = .ref a ∧ H a = some (.ins C dx fs) ∧ YT H y tb ∧ PySem.W.notFirst K C tb = true ∧ sp [x, y] H (fun v H' => ∃ r, v = .bl r ∧ Q (.bl (!r)) H') E
section
variable {X : Cx} {CX : CXT} {k : Nat} {C f : Addr} {fd : FuncData} {ps : List Str} {sp : Sp} {E : XK}
theorem yt_looks {pins : List (Addr × Obj)} {σ : L2.St} {H : Hp} {s : Shared} {y : V} {u tb : Value} (I : Inv X pins σ H s) (yt : YT H y tb) (ry : RelV y u) : PySem.W.Looks (model X.prog X.w) s.heap (typeOf u) tb := by
  rcases yt with ⟨b, C', dy, gs, rfl, hb', rfl⟩ | ⟨b, xs, rfl, hb', rfl⟩
  · cases ry
    obtain ⟨_, J', _⟩ := ins_get I.hok hb'
    obtain ⟨_, J', _⟩ := J'.look
    exact J'.type
  · cases ry
    obtain ⟨_, its, _, ob, hg, hc, _⟩ := (show ObjOk X.prog X.w H s.heap b (.tup xs) from I.hok b _ hb')
    exact fun A Q E s' k q => wpAny_typeOf (show s'.TypeIs (.ref b) "tuple" from ⟨ob, k _ _ hg, hc⟩) q
theorem op_ownN (F : FnOk X.prog X.w X.K X.mg X.base CX k f fd ps sp) (hm : PySem.W.mroIn X.K C (.type "object") = some true) (hn : PySem.W.findIn X.K (.ref C) "__ne__" = some (some (.builtin "object.__ne__"))) (hs : PySem.W.findIn X.K (.ref C) "__eq__" = some (some (.ref f))) (hf : PySem.W.isFn X.K (.ref f) = true) (hb : Binds X.K fd ps []) (hx : Passes CX X E) (hr : Room (k + 1) X.A) : OpR X (compareOp .NotEq) (rOwnN X.K C sp E) := by
  intro pins s σ H x y v u Q I rx ry h
  obtain ⟨a, dx, fs, tb, rfl, ha, yt, nf, q⟩ := h
  cases rx
  obtain ⟨mA, J, _⟩ := ins_get I.hok ha
  obtain ⟨od, J, _⟩ := J.look
  refine cmp_ne (f := f) (show X.A.units + 1 < cLine by have := hr.un; omega) I.kIn J (yt_looks I yt ry) nf hm hn hs hf ?_
  have len := F.len _ _ _ _ q
  have vals : Vals [V.ref a, y] [Value.ref a, u] := .cons rfl (.cons ry .nil)
  have bind : BindsTo s fd ⟨[.ref a, u], []⟩ (ps.zip [.ref a, u]) := by
    have z := hb s [.ref a, u] I.kIn (by simpa using len)
    simpa using z
  have e0 : Env0 X.prog X.w X.K X.mg X.base X.A.in1 X.stack s H := by
    have e := I.env0
    exact ⟨e.frames, e.mod, e.bs, e.bsz, e.funs, e.frf, e.hok, e.bare⟩
  refine wpAny_call (codeAny_mono (F.run X.A.in1 X.stack s H ⟨[.ref a, u], []⟩ [.ref a, u] [.ref a, y] _ E hr.in1 e0 bind vals q) fun r s' post => ?_)
  match r, post with
  | .error e, post => exact hx pins σ H s e s' I post
  | .ok (.ret z), post =>
    obtain ⟨zv, H', I', rz, b, eb, qb⟩ := I.after post
    subst eb
    cases (show z = Value.bool b from rz)
    exact ⟨b, rfl, .bl (!b), H', I', rfl, qb⟩
  | .ok .next, post => exact False.elim post
  | .ok .brk, post => exact False.elim post
  | .ok .cont, post => exact False.elim post
end
end Gd
namespace GQ
open PySem PySem.SeqAt
open AutoSeq1 (wpAny_loadPart')
open MeetsSeq MeetsSeq2 MeetsSeq3 SeqRoads2
/-! ### xs != ys of two lists, item by item equal: False -/
section
variable {prog : Program} {w : World} {A : Around} {R : Result → Shared → Prop}
theorem ne_walk (l b : Addr) (N : Nat) (I : Nat → Shared → Prop) (two : ListI prog w A (fun e s' => R (.error e) s') l b N I) (last : ∀ s, I N s → R (.ok (.ret (.bool false))) s) :
    ∀ (k i : Nat), N - i = k → i ≤ N → ∀ s, I i s → wpAny (model prog w) A.in1 (Builtin.«list.__eq__.loop» ⟨[.ref l, .ref b, rawInt i, rawInt 3], []⟩) (FinOf prog w A R) (fun e s' => R (.error e) s') s
  | 0, i, ek, hi, s, h => by
    obtain ⟨xs, ys, n, m, gl, gb, sx, sy, _⟩ := two _ _ h
    have e : i = N := by omega
    have done : R (.ok (.ret (.bool false))) s := last s (e ▸ h)
    obtain ⟨hp, g, d, tk, os⟩ := s
    wp_walk using wpAny_loadPart' gl, wpAny_loadPart' gb
    have ox : xs[((i : Nat) : Int).toNat]? = none := by simp; omega
    have oy : ys[((i : Nat) : Int).toNat]? = none := by simp; omega
    rw [ox, oy]
    wp_walk using wpAny_loadPart' gl, wpAny_loadPart' gb
    show R (.ok (.ret (.bool (xs.size != ys.size)))) _
    rw [sx, sy]
    simpa using done
  | k + 1, i, ek, hi, s, h => by
    obtain ⟨xs, ys, n, m, gl, gb, sx, sy, turn⟩ := two _ _ h
    have ix : i < xs.size := by omega
    have iy : i < ys.size := by omega
    have same := turn ix iy
    obtain ⟨hp, g, d, tk, os⟩ := s
    wp_walk using wpAny_loadPart' gl, wpAny_loadPart' gb
    have ox : xs[((i : Nat) : Int).toNat]? = some xs[i] := by simp [ix]
    have oy : ys[((i : Nat) : Int).toNat]? = some ys[i] := by simp [iy]
    have one : ((i : Int) + 1) = ((i + 1 : Nat) : Int) := by omega
    rw [ox, oy]
    refine wpAny_bind (wpAny_mono same (fun r s2 h2 => ?_) fun _ _ x => x)
    obtain ⟨er, h2⟩ := h2
    subst er
    have rest := ne_walk l b N I two last k (i + 1) (by omega) (by omega) s2 h2
    obtain ⟨hp2, g2, d2, tk2, os2⟩ := s2
    wp_walk
    rw [one]
    exact ⟨plainId_quiet plain_eq_loop _, codeAny_builtin entry_eq_loop (by
      rw [Around.under_plainId plain_eq_loop _]
      exact rest)⟩
theorem list_ne (l b : Addr) (N : Nat) (I : Nat → Shared → Prop) (two : ListI prog w A (fun e s' => R (.error e) s') l b N I) (last : ∀ s, I N s → R (.ok (.ret (.bool false))) s) {s : Shared} (h : I 0 s) :
    wpAny (model prog w) A.in1 (Builtin.«list.__ne__» ⟨[.ref l, .ref b], []⟩) (FinOf prog w A R) (fun e s' => R (.error e) s') s := by
  obtain ⟨xs, ys, n, m, gl, gb, sx, sy, _⟩ := two _ _ h
  have rest := ne_walk (A := A) (R := R) l b N I two last _ 0 rfl (Nat.zero_le _) s h
  obtain ⟨hp, g, d, tk, os⟩ := s
  have f3 := AutoSeq1.sub_list_list
  have sizes : ¬ (xs.size != ys.size) = true := by simp [sx, sy]
  wp_walk using wpAny_loadPart' gl, wpAny_loadPart' gb
  exact ⟨plainId_quiet plain_eq_loop _, codeAny_builtin entry_eq_loop (by
    rw [Around.under_plainId plain_eq_loop _]
    exact rest)⟩
theorem rc_ne {E : Value → Shared → Prop} {s : Shared} {l b : Addr} {N : Nat} {Q : Value → Shared → Prop} (hu : A.units < cLine) (I : Nat → Shared → Prop) (two : ListI prog w A E l b N I) (last : ∀ s, I N s → Q (.bool false) s) (h : I 0 s) :
    wpAny (model prog w) A (richCompare .NotEq (.ref l) (.ref b)) Q E s := by
  obtain ⟨xs, ys, n, m, gl, gb, _, _, _⟩ := two _ _ h
  refine wpAny_richCompare_same_room (op := .NotEq) ⟨_, gl, rfl⟩ ⟨_, gb, rfl⟩ F.slot_list_ne (call_here F.slot_list_ne ⟨_, gl, rfl⟩ F.entry_list_ne (F.args_list_ne_2 _ _) ?_) hu
  exact list_ne (R := wants (fun v s' => v ≠ .notImplemented ∧ Q v s') E) l b N I two (fun s' q => ⟨(fun x => nomatch x), last s' q⟩) h
end
end GQ
namespace L2
open PySem PySem.Spec PyProof.Rows
/-- xs != ys, all items equal -/
def rNeL (D : Eqv) : R2 := fun x y H Q => DList D x y H ∧ ∀ H', Ext H H' → Q (.bl false) H'
theorem op_neL {X : Cx} {n : Nat} {D : Eqv} (mon : Mon D) (eq : EqG X n D) (hr : Room (n + 1) X.A) : OpR X (compareOp .NotEq) (rNeL D) := by
  intro pins s σ H x y v u Q I rx ry hq
  obtain ⟨⟨a, b, xs, ys, rfl, rfl, ha, hb, p⟩, q⟩ := hq
  cases rx
  cases ry
  refine GQ.rc_ne (N := xs.length) hr.units0 (fun _ s' => LoopI X pins σ H s') (fun i s' lp => ?_) (fun s' lp => ?_) ⟨H, I, Ext.rfl'⟩
  · obtain ⟨H1, I1, e1⟩ := id lp
    obtain ⟨_, its, k, r, e⟩ := I1.hok a _ (e1 _ _ ha)
    obtain ⟨_, its2, k2, r2, e2⟩ := I1.hok b _ (e1 _ _ hb)
    exact ⟨its.toArray, its2.toArray, k, k2, e, e2, by rw [List.size_toArray, ← r.length], by rw [List.size_toArray, ← r2.length, ← p.1], fun h1 h2 => turnG mon eq ⟨hr, rfl⟩ p r r2 i h1 h2 s' lp⟩
  · obtain ⟨H1, I1, e1⟩ := lp
    exact ⟨.bl false, H1, I1, rfl, q H1 e1⟩
end L2
namespace Gd
open PySem PySem.Spec PyProof.Rows L2
/-! ### one of several classes -/
theorem opr_any {X : Cx} {op : Value → Value → Sem Value} {ι : Type} {r : ι → R2} (h : ∀ i, OpR X op (r i)) : OpR X op (fun x y H Q => ∃ i, r i x y H Q) := fun pins s σ H x y u v Q I rx ry ⟨i, q⟩ => h i pins s σ H x y u v Q I rx ry q
/-! ### if x: by the own __bool__ of x's class -/
def rOwnB (C : Addr) (sp : Sp) (E : XK) : V → Hp → (Bool → Hp → Prop) → Prop := fun x H Q => ∃ (a dx : Addr) (fs : List (Str × V)), x = .ref a ∧ H a = some (.ins C dx fs) ∧ sp [x] H (fun v H' => ∃ r, v = .bl r ∧ Q r H') E
/-- what can be asked for its truth -/
def TrR (X : Cx) (r : V → Hp → (Bool → Hp → Prop) → Prop) : Prop := ∀ (pins : List (Addr × Obj)) (s : Shared) (σ : L2.St) (H : Hp) (x : V) (v : Value) (Q : Bool → Hp → Prop), Inv X pins σ H s → RelV x v → r x H Q → wpAny (model X.prog X.w) X.A (truthy v) (TP X pins σ Q) X.xe s
section
variable {X : Cx} {CX : CXT} {k : Nat} {C f : Addr} {fd : FuncData} {ps : List Str} {sp : Sp} {E : XK}
theorem tr_own (F : FnOk X.prog X.w X.K X.mg X.base CX k f fd ps sp) (hs : PySem.W.findIn X.K (.ref C) "__bool__" = some (some (.ref f))) (hf : PySem.W.isFn X.K (.ref f) = true) (hb : Binds X.K fd ps []) (hx : Passes CX X E) (hr : Room k X.A) : TrR X (rOwnB C sp E) := by
  intro pins s σ H x v Q I rx h
  obtain ⟨a, dx, fs, rfl, ha, q⟩ := h
  cases rx
  obtain ⟨mA, J, _⟩ := ins_get I.hok ha
  obtain ⟨od, J, _⟩ := J.look
  obtain ⟨m, fr⟩ := I.fr
  have len := F.len _ _ _ _ q
  have bind : BindsTo s fd ⟨[.ref a], []⟩ (ps.zip [.ref a]) := by
    have z := hb s [.ref a] I.kIn (by simpa using len)
    simpa using z
  refine PySem.W.truthy_K fr I.ok.mod.kin J hs hf (wpAny_call (codeAny_mono (F.run X.A X.stack s H ⟨[.ref a], []⟩ [.ref a] [.ref a] _ E hr I.env0 bind (.cons rfl .nil) q) fun r s' post => ?_))
  match r, post with
  | .error e, post => exact hx pins σ H s e s' I post
  | .ok (.ret z), post =>
    obtain ⟨zv, H', I', rz, b, eb, qb⟩ := I.after post
    subst eb
    cases (show z = Value.bool b from rz)
    exact ⟨H', I', qb⟩
  | .ok .next, post => exact False.elim post
  | .ok .brk, post => exact False.elim post
  | .ok .cont, post => exact False.elim post
end
theorem tr_any {X : Cx} {ι : Type} {r : ι → V → Hp → (Bool → Hp → Prop) → Prop} (h : ∀ i, TrR X (r i)) : TrR X (fun x H Q => ∃ i, r i x H Q) := fun pins s σ H x v Q I rx ⟨i, q⟩ => h i pins s σ H x v Q I rx q
def tTr (r : V → Hp → (Bool → Hp → Prop) → Prop) (t : TE) : TT := fun σ H Q => t σ H fun x H1 => r x H1 Q
theorem pt_tr {X : Cx} {e : Expr} {t : TE} {r : V → Hp → (Bool → Hp → Prop) → Prop} (hr : TrR X r) (h : PE X e t) (he : ∀ whole, isTrue e X.env whole = (do let v ← whole; standAt e.pos; holding [v] (truthy v)) := by intro _; rfl) : PT X e (tTr r t) := by
  refine ⟨fun pins s σ H Q I q => ?_⟩
  exact isTrue_plain (thn (h.run pins s σ H _ I q) fun v s1 ⟨x, H1, I1, r1, q1⟩ => hr pins s1 σ H1 x v Q I1 r1 q1) (he _)
end Gd
namespace Kpp
open PySem PySem.Spec PyProof.Rows L2 Gd
theorem Left.same {σ : L2.St} {H H' : Hp} (s : Same H H') : ∀ {l : List (Str × Nat × Ps6)} {ks : List Nat}, Left σ H l ks → Left σ H' l ks
  | [], [], _ => True.intro
  | _ :: _, _ :: _, ⟨⟨v, e, h⟩, r⟩ => ⟨⟨v, e, Zv.same s h⟩, Left.same s r⟩
  | [], _ :: _, h => h.elim
  | _ :: _, [], h => h.elim
/-- a thing of class C, its fields these -/
def Thing (H : Hp) (C : Addr) (names : List Str) (ks : List Nat) (v : V) : Prop := ∃ (a dx : Addr) (gs : List (Str × V)), v = .ref a ∧ H a = some (.ins C dx gs) ∧ gs.map (·.1) = names ∧ Flds H gs ks
theorem Thing.same {H H' : Hp} {C : Addr} {names : List Str} {ks : List Nat} {v : V} (s : Same H H') (h : Thing H C names ks v) : Thing H' C names ks v := by
  obtain ⟨a, dx, gs, e, h1, h2, h3⟩ := h
  exact ⟨a, dx, gs, e, s _ _ h1, h2, Flds.same s h3⟩
theorem made {C : Addr} {N : List Str} {l : List (Str × Nat × Ps6)} {vs : List V} {H1 : Hp} {js : List Nat} {Q : VK} {E : XK} {x dx : Addr} (nx : H1 x = none) (nd : H1 dx = none) (ne : dx ≠ x) (len : (V.ref x :: vs).length = N.length) (e0 : (start N (.ref x :: vs))[0]? = some (some (.ref x))) (left : Left (start N (.ref x :: vs)) H1 l js)
    (post : ∀ (H2 : Hp) (v : V), Same H1 H2 → Thing H2 C (l.map (·.1)) js v → Q v H2) : spIni C N l (.ref x :: vs) (upd (upd H1 dx (.own x)) x (.ins C dx [])) (fun v H2 => v = .non ∧ Q (.ref x) H2) E := by
  have s : Same H1 (upd (upd H1 dx (.own x)) x (.ins C dx [])) := fun b o e => by
    rw [upd_ne (ne_of_none e nx), upd_ne (ne_of_none e nd)]
    exact e
  refine ⟨x, dx, js, len, e0, upd_same, Left.same s left, fun H' gs k h1 h2 h3 => ⟨rfl, post H' _ (fun b o e => k b o (ne_of_none e nx) (s _ _ e)) ⟨x, dx, gs, rfl, h1, h2, h3⟩⟩⟩
/-! ### __bool__ that answers a constant -/
def spBool (r : Bool) : Sp := fun vs H Q _ => ∃ v, vs = [v] ∧ Q (.bl r) H
theorem ok_bool {P : Program} {w : World} {K : PySem.W.Frag} {mg : Str → Option Value} {base : Heap} {st : Stmt} {qual : Str} {f : Addr} {fd : FuncData} {b : Bool} {n : Nat} {p1 p2 : Pos} (F : Fun K "__bool__" qual st f fd) (S : FnScope ["self"] ["self"] (defScope st)) (hB : defBody st = [.Return (some (.Constant (.bool b) n p1)) p2]) :
    FnOk P w K mg base CX0 1 f fd ["self"] (spBool b) := by
  refine F.ok S (fun vs H Q E h => ?_) (fun cdv A outer s H vs Q E hr h => ?_)
  · obtain ⟨v, rfl, _⟩ := h
    rfl
  · obtain ⟨v, rfl, q⟩ := h
    rw [hB]
    exact ⟨_, pss_one (ps_ret pe_bl), q⟩
end Kpp
namespace Kpp
open PySem PySem.Spec PyProof.Rows L2 Gd
open Kone (Def)
abbrev top (i : Nat) : Stmt := Kone.top i
abbrev sPen : Stmt := top 25
abbrev sDraw : Stmt := top 26
abbrev sPick : Stmt := top 27
abbrev sAny : Stmt := top 28

open PySem L2 Gd
open Kone (Pen Keep spPen spDraw spPick TxtD fmod_range keep_upd same_new dp_ints at_nat nzA nzB map_cut)
section
variable {P : Program} {w : World} {K : PySem.W.Frag} {mg : Str → Option Value} {base : Heap} {fD : Addr}
theorem scPen : FnScope ["_law_script"] ["_law_script"] (defScope sPen) := ⟨rfl, rfl, rfl, by decide +kernel, rfl, by decide +kernel, by decide +kernel⟩
theorem ok_pen {f : Addr} {fd : FuncData} (F : Fun K "_law_pen" "_law_pen" sPen f fd) (T : TxtD mg fD) : FnOk P w K mg base CX0 1 f fd ["_law_script"] (spPen K) := by
  refine F.ok scPen (fun vs H Q E h => ?_) (fun cdv A outer s H vs Q E hr h => ?_)
  · obtain ⟨a, ns, rfl, _⟩ := h
    rfl
  · obtain ⟨a, ns, rfl, hS, k⟩ := h
    refine ⟨_, pss_one (ps_ret (pe_lst (pa_cons (pe_callTy call_list_of (by rfl) T.list (by decide +kernel) (pa_cons (pe_slice sl_list (pv 0) po_none (po_some pe_int)) pa_nil)) (pa_cons pe_int (pa_cons pe_int pa_nil))))), ?_⟩
    refine ⟨_, rfl, _, rfl, a, _, rfl, hS, fun q hq => ?_⟩
    obtain ⟨ms, e⟩ := map_cut ns none (some 63)
    refine ⟨q, _, rfl, .inl (SqL.of upd_same), fun l hl => ?_⟩
    refine ⟨by show 3 ≤ sizeLine; decide, fun p hp => ?_⟩
    have hqp : H p = none := by
      by_cases z : p = l
      · subst z; rw [upd_same] at hp; cases hp
      · rw [upd_ne z] at hp
        by_cases z2 : p = q
        · subst z2; rw [upd_same] at hp; cases hp
        · rwa [upd_ne z2] at hp
    have nl : l ≠ p := fun z => by subst z; rw [upd_same] at hp; cases hp
    have nlq : l ≠ q := fun z => by subst z; rw [upd_same] at hl; cases hl
    have hl0 : H l = none := by rwa [upd_ne nlq] at hl
    refine k _ p l (fun b o e => ?_) ⟨ms, 0, 0, upd_same, ?_, nl, by omega, by omega⟩
    · rw [upd_ne (ne_of_none e hqp), upd_ne (ne_of_none e hl0), upd_ne (ne_of_none e hq)]
      exact e
    · rw [upd_ne nl, upd_same, ← e]
theorem scDraw : FnScope ["_law_pen_here", "_law_many", "_law_digit", "_law_at", "_law_cell", "_law_great", "_law_mixed"] ["_law_pen_here", "_law_many"] (defScope sDraw) := ⟨rfl, rfl, rfl, by decide +kernel, rfl, by decide +kernel, by decide +kernel⟩
theorem mix1 {x a : Int} (h0 : 0 ≤ a) (h1 : a < 200000) : (x.fmod 2147483587 + 35103 * a + 319).natAbs < 2 ^ 64 := by
  have r := fmod_range (a := x) (m := 2147483587) (by decide)
  omega
theorem mix2 {x a : Int} (h0 : 0 ≤ a) (h1 : a < 200000) : (x.fmod 2147483563 * (2 * a + 135) + 62107 * a * a + 21).natAbs < 2 ^ 64 := by
  have r := fmod_range (a := x) (m := 2147483563) (by decide)
  have e1 : x.fmod 2147483563 * (2 * a + 135) ≤ 2147483563 * 400135 := Int.mul_le_mul (by omega) (by omega) (by omega) (by omega)
  have e0 : 0 ≤ x.fmod 2147483563 * (2 * a + 135) := Int.mul_nonneg r.1 (by omega)
  have e2 : 62107 * a * a ≤ (62107 * 200000) * 200000 := Int.mul_le_mul (by omega) (by omega) (by omega) (by omega)
  have e3 : 0 ≤ 62107 * a * a := Int.mul_nonneg (by omega) h0
  omega
theorem ok_draw {f : Addr} {fd : FuncData} (F : Fun K "_law_draw" "_law_draw" sDraw f fd) (T : TxtD mg fD) : FnOk P w K mg base CX0 1 f fd ["_law_pen_here", "_law_many"] spDraw := by
  refine F.ok scDraw (fun vs H Q E h => ?_) (fun cdv A outer s H vs Q E hr h => ?_)
  · obtain ⟨p, c, m, n, rfl, _⟩ := h
    rfl
  · obtain ⟨p, c, m, n, rfl, ⟨cs, a, g, h1, h2, h3, h4, h5⟩, hn, m0, m1, k⟩ := h
    refine ⟨_, (pss_cons (ps_if (pt_cmpR op_gt (pe_ix ix_list (pv 0) pe_int (fun _ _ => rfl)) pe_int (nomark _)) (pss_cons (ps_set (i := 2) scDraw.nd rfl (Or.inl rfl) (pe_op op_modN (pe_callTy call_int1 (by rfl) T.int (by decide +kernel) (pa_cons (pe_ix ix_list (pv 0) pe_int (fun _ _ => rfl)) pa_nil)) (pv 1)))
        (pss_cons (ps_asg (pe_op op_fdivN (pe_callTy call_int1 (by rfl) T.int (by decide +kernel) (pa_cons (pe_ix ix_list (pv 0) pe_int (fun _ _ => rfl)) pa_nil)) (pv 1)) (pg_sub (pv 0) pe_int set_list))
        (pss_one (ps_ret (pv 2))))) pss_nil)
        (pss_cons (ps_set (i := 3) scDraw.nd rfl (Or.inl rfl) (pe_ix ix_list (pv 0) pe_int (fun _ _ => rfl)))
        (pss_cons (ps_asg (pe_op op_add (pv 3) pe_int) (pg_sub (pv 0) pe_int set_list))
        (pss_cons (ps_set (i := 4) scDraw.nd rfl (Or.inl rfl) (pe_op op_add (pe_op op_mul pe_int (pv 3)) pe_int))
        (pss_cons (ps_if (pt_cmpR (op_neD hr.units) (pe_ix ix_list (pv 0) pe_int (fun _ _ => rfl)) (pe_lst pa_nil) (nomark _)) (pss_one (ps_set (i := 4) scDraw.nd rfl (Or.inl rfl) (pe_ix ix_list (pe_ix ix_list (pv 0) pe_int (fun _ _ => rfl)) (pe_op op_modN (pe_callTy call_int1 (by rfl) T.int (by decide +kernel) (pa_cons (pv 3) pa_nil)) (pe_callB call_len_seq (by rfl) T.len PySem.boot_len (pa_cons (pe_ix ix_list (pv 0) pe_int (fun _ _ => rfl)) pa_nil))) (fun _ _ => rfl)))) pss_nil)
        (pss_cons (ps_if (PW.pt (pw_and (pt_cmpR op_lt (pv 3) (pe_callB call_len_seq (by rfl) T.len PySem.boot_len (pa_cons (pe_ix ix_list (pv 0) pe_int (fun _ _ => rfl)) pa_nil)) (nomark _)) (pw_and1 (pt_cmpR op_ge (pe_callB call_abs (by rfl) T.abs (by decide +kernel) (pa_cons (pv 4) pa_nil)) (pe_op op_pow pe_int pe_int) (nomark _))))) (pss_cons (ps_set (i := 5) scDraw.nd rfl (Or.inl rfl) (pe_op op_add (pe_op op_mul pe_int (pe_op op_sub (pe_callB call_abs (by rfl) T.abs (by decide +kernel) (pa_cons (pv 4) pa_nil)) (pe_op op_pow pe_int pe_int))) (pe_callTy call_int1 (by rfl) T.int (by decide +kernel) (pa_cons (pe_cmpR op_lt (pv 4) pe_int (nomark _)) pa_nil))))
        (pss_cons (ps_asg (pe_op op_fdivN (pe_callTy call_int1 (by rfl) T.int (by decide +kernel) (pa_cons (pv 5) pa_nil)) (pv 1)) (pg_sub (pv 0) pe_int set_list))
        (pss_one (ps_ret (pe_op op_modN (pe_callTy call_int1 (by rfl) T.int (by decide +kernel) (pa_cons (pv 5) pa_nil)) (pv 1)))))) pss_nil)
        (pss_cons (ps_set (i := 6) scDraw.nd rfl (Or.inl rfl) (pe_op op_modN (pe_callTy call_int1 (by rfl) T.int (by decide +kernel) (pa_cons (pe_op op_pow (pe_op op_add (pe_op op_add (pe_op op_modN (pe_callTy call_int1 (by rfl) T.int (by decide +kernel) (pa_cons (pv 4) pa_nil)) pe_int) (pe_op op_mul pe_int (pv 3))) pe_int) pe_int) pa_nil)) pe_int))
        (pss_cons (ps_set (i := 6) scDraw.nd rfl (Or.inl rfl) (pe_op op_modN (pe_callTy call_int1 (by rfl) T.int (by decide +kernel) (pa_cons (pe_op op_pow (pe_op op_add (pe_op op_add (pe_op op_mul (pv 6) (pe_op op_add (pe_op op_mul pe_int (pv 3)) pe_int)) (pe_op op_mul (pe_op op_mul pe_int (pv 3)) (pv 3))) pe_int) pe_int) pa_nil)) pe_int))
        (pss_one (ps_ret (pe_op op_modN (pe_callTy call_int1 (by rfl) T.int (by decide +kernel) (pa_cons (pe_op op_fdivN (pv 6) pe_int) pa_nil)) (pv 1)))))))))))), ?_⟩
    have r := fmod_range (a := g) m0
    refine ⟨_, rfl, p, _, 2, _, rfl, rfl, SqL.of h1, rfl, _, _, rfl, rfl, _, rfl, ?_⟩
    refine ite2 (fun _ => ?_) (fun _ => ?_)
    · refine ⟨_, rfl, p, _, 2, _, rfl, rfl, SqL.of h1, rfl, .inl ⟨_, rfl, _, rfl, _, _, rfl, rfl, by omega, ?_⟩⟩
      refine ⟨_, rfl, p, _, 2, _, rfl, rfl, SqL.of h1, rfl, .inl ⟨_, rfl, _, rfl, _, _, rfl, rfl, ⟨by omega, by omega⟩, ?_⟩⟩
      refine ⟨_, rfl, p, _, 2, 2, rfl, rfl, h1, rfl, ?_⟩
      exact ⟨_, rfl, k _ _ keep_upd ((Kone.Pen.set2 h2 h3 h4 h5).mono (Nat.le_succ _)) r.1 r.2⟩
    · -- at, the next index
      refine ⟨_, rfl, p, _, 1, _, rfl, rfl, SqL.of h1, rfl, ?_⟩
      refine ⟨_, rfl, _, _, rfl, rfl, _, rfl, p, _, 1, 1, rfl, rfl, h1, rfl, ?_⟩
      refine ⟨_, rfl, _, _, rfl, rfl, .inl ⟨by decide, by decide⟩, _, _, rfl, rfl, ?_⟩
      -- pen[0] != []
      generalize hH1 : upd H p (HO.lst ([V.ref c, V.int a, V.int g].set 1 ((fun i j => V.int (i + j)) a 1))) = H1
      have q1 : H1 p = some (.lst [.ref c, .int (a + 1), .int g]) := by subst hH1; exact upd_same
      have q2 : H1 c = some (.lst (cs.map V.int)) := by subst hH1; rw [upd_ne h3]; exact h2
      have kp1 : Keep p H H1 := by subst hH1; exact keep_upd
      refine ⟨_, rfl, p, _, 0, _, rfl, rfl, SqL.of q1, rfl, Nat.zero_le _, fun l hl => ?_⟩
      have s2 : Same H1 (upd H1 l (.lst [])) := same_new hl
      have q3 : upd H1 l (.lst []) l = some (.lst []) := upd_same
      generalize upd H1 l (.lst []) = H2 at s2 q3
      have q1' := s2 _ _ q1
      have q2' := s2 _ _ q2
      have kp2 : Keep p H H2 := kp1.trans (Kone.Keep.of s2)
      refine ⟨.list (cs.map PyData.int), .list [], .lst (SqL.of q2') (dp_ints cs), .lst (SqL.of q3) .nil, ?_, rfl, _, rfl, ?_⟩
      · exact PySem.W.ke_shaped_ints cs
      have hb2 : (a : Int) < 200000 := by omega
      have nn1 : n + 1 = n + 1 := rfl
      have pen2 : ∀ (H3 : Hp) (g' : Int), H3 = upd H2 p (.lst [.ref c, .int (a + 1), .int g']) → Pen H3 p c (n + 1) := fun H3 g' e =>
        ⟨cs, a + 1, g', by rw [e]; exact upd_same, by rw [e, upd_ne h3]; exact q2', h3, by omega, by omega⟩
      refine ite2 (fun hz => ?_) (fun _ => ?_)
      · have hc : 0 < cs.length := by
          cases cs with
          | nil => exact absurd hz (by decide)
          | cons x r => exact Nat.succ_pos _
        have rr := fmod_range (a := a) (m := (cs.length : Int)) (by omega)
        obtain ⟨v, hv, hm⟩ := at_nat (xs := cs.map V.int) (i := a.fmod (cs.length : Int)) rr.1 (by rw [List.length_map]; exact rr.2)
        obtain ⟨z, _, rfl⟩ := List.mem_map.mp hm
        refine ⟨_, rfl, p, _, 0, _, rfl, rfl, SqL.of q1', rfl, _, rfl, .inl ⟨_, rfl, ?_⟩⟩
        refine ⟨_, rfl, p, _, 0, _, rfl, rfl, SqL.of q1', rfl, c, _, rfl, .inl (SqL.of q2'), _, _, rfl, rfl, ?_, ?_⟩
        · show ((cs.map V.int).length : Int) ≠ 0
          rw [List.length_map]; omega
        refine ⟨c, _, _, _, rfl, rfl, SqL.of q2', (by rw [List.length_map]; exact hv), ?_⟩
        refine ⟨_, rfl, _, rfl, p, _, 0, _, rfl, rfl, SqL.of q1', rfl, c, _, rfl, .inl (SqL.of q2'), _, _, rfl, rfl, _, rfl, ?_⟩
        refine ite2 (fun _ => ?_) (fun _ => ?_)
        · refine ⟨_, rfl, _, rfl, _, _, rfl, rfl, ⟨by decide, by decide, by decide⟩, _, _, rfl, rfl, _, rfl, ?_⟩
          refine ite2 (fun _ => ?_) (fun _ => ?_)
          · refine ⟨_, rfl, _, rfl, _, _, rfl, rfl, ⟨by decide, by decide, by decide⟩, _, _, rfl, rfl, _, _, rfl, rfl, .inl ⟨by decide, by decide⟩, _, rfl, _, _, rfl, rfl, .inr ⟨_, rfl, _, _, rfl, rfl, ?_⟩⟩
            refine ⟨_, rfl, .inl ⟨_, rfl, _, rfl, _, _, rfl, rfl, ⟨by omega, by omega⟩, _, rfl, p, _, 2, 2, rfl, rfl, q1', rfl, ?_⟩⟩
            exact ⟨_, rfl, .inl ⟨_, rfl, _, rfl, _, _, rfl, rfl, by omega, k _ _ (kp2.trans keep_upd) (pen2 _ _ rfl) (fmod_range m0).1 (fmod_range m0).2⟩⟩
          · refine ⟨_, rfl, .inl ⟨_, rfl, _, _, rfl, rfl, nzA, _, rfl, _, _, rfl, rfl, .inl ⟨by decide, by decide⟩, _, _, rfl, rfl, _, _, rfl, rfl, _, _, rfl, rfl, ⟨by decide, by decide, mix1 h4 hb2⟩, .inl ⟨_, rfl, _, _, rfl, rfl, nzB, ?_⟩⟩⟩
            refine ⟨_, rfl, _, rfl, _, _, rfl, rfl, .inl ⟨by decide, by decide⟩, _, _, rfl, rfl, _, _, rfl, rfl, .inl ⟨Int.lt_of_lt_of_le (by decide) (fmod_range (by decide)).1, Int.lt_trans (fmod_range (by decide)).2 (by decide)⟩, _, rfl, _, _, rfl, rfl, .inl ⟨by decide, by decide⟩, _, rfl, _, _, rfl, rfl, .inl ⟨?_, ?_⟩, _, _, rfl, rfl, _, _, rfl, rfl, _, _, rfl, rfl, ⟨by decide, by decide, mix2 h4 hb2⟩, .inl ⟨_, rfl, _, _, rfl, rfl, nzA, ?_⟩⟩
            · show -(2 ^ 64) < 62107 * a; omega
            · show 62107 * a < 2 ^ 64; omega
            exact ⟨_, rfl, _, _, rfl, rfl, ⟨by decide, by decide⟩, .inl ⟨_, rfl, _, rfl, _, _, rfl, rfl, by omega, k _ _ kp2 ⟨cs, a + 1, g, q1', q2', h3, by omega, by omega⟩ (fmod_range m0).1 (fmod_range m0).2⟩⟩
        · refine ⟨_, rfl, .inl ⟨_, rfl, _, _, rfl, rfl, nzA, _, rfl, _, _, rfl, rfl, .inl ⟨by decide, by decide⟩, _, _, rfl, rfl, _, _, rfl, rfl, _, _, rfl, rfl, ⟨by decide, by decide, mix1 h4 hb2⟩, .inl ⟨_, rfl, _, _, rfl, rfl, nzB, ?_⟩⟩⟩
          refine ⟨_, rfl, _, rfl, _, _, rfl, rfl, .inl ⟨by decide, by decide⟩, _, _, rfl, rfl, _, _, rfl, rfl, .inl ⟨Int.lt_of_lt_of_le (by decide) (fmod_range (by decide)).1, Int.lt_trans (fmod_range (by decide)).2 (by decide)⟩, _, rfl, _, _, rfl, rfl, .inl ⟨by decide, by decide⟩, _, rfl, _, _, rfl, rfl, .inl ⟨?_, ?_⟩, _, _, rfl, rfl, _, _, rfl, rfl, _, _, rfl, rfl, ⟨by decide, by decide, mix2 h4 hb2⟩, .inl ⟨_, rfl, _, _, rfl, rfl, nzA, ?_⟩⟩
          · show -(2 ^ 64) < 62107 * a; omega
          · show 62107 * a < 2 ^ 64; omega
          exact ⟨_, rfl, _, _, rfl, rfl, ⟨by decide, by decide⟩, .inl ⟨_, rfl, _, rfl, _, _, rfl, rfl, by omega, k _ _ kp2 ⟨cs, a + 1, g, q1', q2', h3, by omega, by omega⟩ (fmod_range m0).1 (fmod_range m0).2⟩⟩
      · refine ⟨_, rfl, _, rfl, p, _, 0, _, rfl, rfl, SqL.of q1', rfl, c, _, rfl, .inl (SqL.of q2'), _, _, rfl, rfl, _, rfl, ?_⟩
        refine ite2 (fun _ => ?_) (fun _ => ?_)
        · refine ⟨_, rfl, _, rfl, _, _, rfl, rfl, ⟨by decide, by decide, by decide⟩, _, _, rfl, rfl, _, rfl, ?_⟩
          refine ite2 (fun _ => ?_) (fun _ => ?_)
          · refine ⟨_, rfl, _, rfl, _, _, rfl, rfl, ⟨by decide, by decide, by decide⟩, _, _, rfl, rfl, _, _, rfl, rfl, .inl ⟨by decide, by decide⟩, _, rfl, _, _, rfl, rfl, .inr ⟨_, rfl, _, _, rfl, rfl, ?_⟩⟩
            refine ⟨_, rfl, .inl ⟨_, rfl, _, rfl, _, _, rfl, rfl, ⟨by omega, by omega⟩, _, rfl, p, _, 2, 2, rfl, rfl, q1', rfl, ?_⟩⟩
            exact ⟨_, rfl, .inl ⟨_, rfl, _, rfl, _, _, rfl, rfl, by omega, k _ _ (kp2.trans keep_upd) (pen2 _ _ rfl) (fmod_range m0).1 (fmod_range m0).2⟩⟩
          · refine ⟨_, rfl, .inl ⟨_, rfl, _, _, rfl, rfl, nzA, _, rfl, _, _, rfl, rfl, .inl ⟨by decide, by decide⟩, _, _, rfl, rfl, _, _, rfl, rfl, _, _, rfl, rfl, ⟨by decide, by decide, mix1 h4 hb2⟩, .inl ⟨_, rfl, _, _, rfl, rfl, nzB, ?_⟩⟩⟩
            refine ⟨_, rfl, _, rfl, _, _, rfl, rfl, .inl ⟨by decide, by decide⟩, _, _, rfl, rfl, _, _, rfl, rfl, .inl ⟨Int.lt_of_lt_of_le (by decide) (fmod_range (by decide)).1, Int.lt_trans (fmod_range (by decide)).2 (by decide)⟩, _, rfl, _, _, rfl, rfl, .inl ⟨by decide, by decide⟩, _, rfl, _, _, rfl, rfl, .inl ⟨?_, ?_⟩, _, _, rfl, rfl, _, _, rfl, rfl, _, _, rfl, rfl, ⟨by decide, by decide, mix2 h4 hb2⟩, .inl ⟨_, rfl, _, _, rfl, rfl, nzA, ?_⟩⟩
            · show -(2 ^ 64) < 62107 * a; omega
            · show 62107 * a < 2 ^ 64; omega
            exact ⟨_, rfl, _, _, rfl, rfl, ⟨by decide, by decide⟩, .inl ⟨_, rfl, _, rfl, _, _, rfl, rfl, by omega, k _ _ kp2 ⟨cs, a + 1, g, q1', q2', h3, by omega, by omega⟩ (fmod_range m0).1 (fmod_range m0).2⟩⟩
        · refine ⟨_, rfl, .inl ⟨_, rfl, _, _, rfl, rfl, nzA, _, rfl, _, _, rfl, rfl, .inl ⟨by decide, by decide⟩, _, _, rfl, rfl, _, _, rfl, rfl, _, _, rfl, rfl, ⟨by decide, by decide, mix1 h4 hb2⟩, .inl ⟨_, rfl, _, _, rfl, rfl, nzB, ?_⟩⟩⟩
          refine ⟨_, rfl, _, rfl, _, _, rfl, rfl, .inl ⟨by decide, by decide⟩, _, _, rfl, rfl, _, _, rfl, rfl, .inl ⟨Int.lt_of_lt_of_le (by decide) (fmod_range (by decide)).1, Int.lt_trans (fmod_range (by decide)).2 (by decide)⟩, _, rfl, _, _, rfl, rfl, .inl ⟨by decide, by decide⟩, _, rfl, _, _, rfl, rfl, .inl ⟨?_, ?_⟩, _, _, rfl, rfl, _, _, rfl, rfl, _, _, rfl, rfl, ⟨by decide, by decide, mix2 h4 hb2⟩, .inl ⟨_, rfl, _, _, rfl, rfl, nzA, ?_⟩⟩
          · show -(2 ^ 64) < 62107 * a; omega
          · show 62107 * a < 2 ^ 64; omega
          exact ⟨_, rfl, _, _, rfl, rfl, ⟨by decide, by decide⟩, .inl ⟨_, rfl, _, rfl, _, _, rfl, rfl, by omega, k _ _ kp2 ⟨cs, a + 1, g, q1', q2', h3, by omega, by omega⟩ (fmod_range m0).1 (fmod_range m0).2⟩⟩
theorem scPick : FnScope ["_law_pen_here", "_law_some"] ["_law_pen_here", "_law_some"] (defScope sPick) := ⟨rfl, rfl, rfl, by decide +kernel, rfl, by decide +kernel, by decide +kernel⟩
theorem ok_pick {f fD : Addr} {fd fdD : FuncData} (F : Fun K "_law_pick" "_law_pick" sPick f fd) (T : TxtD mg fD) (U : Def K mg "_law_draw" sDraw ["_law_pen_here", "_law_many"] fD fdD) : FnOk P w K mg base CX0 2 f fd ["_law_pen_here", "_law_some"] spPick := by
  have GD : FnOk P w K mg base CX0 1 fD fdD ["_law_pen_here", "_law_many"] spDraw := ok_draw (fD := fD) U.F T
  refine F.ok scPick (fun vs H Q E h => ?_) (fun cdv A outer s H vs Q E hr h => ?_)
  · obtain ⟨p, c, l, n, xs, rfl, _⟩ := h
    rfl
  · obtain ⟨p, c, l, n, xs, rfl, hp, hn, hl, lp, x0, x1, k⟩ := h
    refine ⟨_, (pss_one (ps_ret (pe_ix ix_list (pv 1) (pe_call GD hr rfl U.g U.k U.b .nil pass0 (pa_cons (pv 0) (pa_cons (pe_callB call_len_seq (by rfl) T.len PySem.boot_len (pa_cons (pv 1) pa_nil)) pa_nil))) (fun _ _ => rfl)))), ?_⟩
    refine ⟨_, rfl, _, rfl, _, rfl, l, xs, rfl, .inl (SqL.of hl), p, c, _, n, rfl, hp, hn, by omega, by omega, fun H' d kp hp' d0 d1 => ?_⟩
    obtain ⟨v, hv, hm⟩ := at_nat (xs := xs) (i := d) d0 d1
    exact ⟨l, xs, d, v, rfl, rfl, SqL.of (kp l _ lp hl), hv, k H' v kp hp' hm⟩
end
end Kpp
namespace Kpp
open PySem PySem.Spec PyProof.Rows L2 Gd
open Kone (Def Pen Keep spPen spDraw spPick TxtD same_new newIn newIn_at)
theorem scAny : FnScope ["_law_pen_here"] ["_law_pen_here"] (defScope sAny) := ⟨rfl, rfl, rfl, by decide +kernel, rfl, by decide +kernel, by decide +kernel⟩
def spAny : Sp := fun vs H Q _ => ∃ (p c : Addr) (n : Nat), vs = [.ref p] ∧ Pen H p c n ∧ n + 1 ≤ 100000 ∧ ∀ (H' : Hp) (k : Nat) (v : V), Keep p H H' → Pen H' p c (n + 1) → Zv (newIn H H') k v → Q v H'
theorem none_of {H H1 : Hp} (s : Same H H1) {b : Addr} (n : H1 b = none) : H b = none := by
  cases q : H b with
  | none => rfl
  | some o => rw [s _ _ q] at n; cases n
section
variable {P : Program} {w : World} {K : PySem.W.Frag} {mg : Str → Option Value} {base : Heap}
theorem ok_any {f fP fD : Addr} {fd fdP fdD : FuncData} (F : Fun K "_law_any" "_law_any" sAny f fd) (T : TxtD mg fD) (UP : Def K mg "_law_pick" sPick ["_law_pen_here", "_law_some"] fP fdP) (U : Def K mg "_law_draw" sDraw ["_law_pen_here", "_law_many"] fD fdD) : FnOk P w K mg base CX0 3 f fd ["_law_pen_here"] spAny := by
  have GP : FnOk P w K mg base CX0 2 fP fdP ["_law_pen_here", "_law_some"] spPick := ok_pick UP.F T U
  refine F.ok scAny (fun vs H Q E h => ?_) (fun cdv A outer s H vs Q E hr h => ?_)
  · obtain ⟨p, c, n, rfl, _⟩ := h
    rfl
  · obtain ⟨p, c, n, rfl, hp, hn, k⟩ := h
    have hu : (A.deeper (envOfC "_law_any" (defScope sAny) s.heap.objs.size f cdv)).units + 1 < cLine := Nat.lt_of_le_of_lt (Nat.add_le_add_left (show 1 ≤ 64 by decide) _) hr.units
    refine ⟨_, pss_one (ps_ret (pe_call GP hr rfl UP.g UP.k UP.b .nil pass0 (pa_cons (pv 0) (pa_cons (pe_lst (pa_cons pe_non (pa_cons (pe_un un_neg pe_int) (pa_cons pe_int (pa_cons (pe_op op_pow pe_int pe_int) (pa_cons pe_str (pa_cons pe_str (pa_cons (pe_tup pa_nil) (pa_cons (pe_tup (pa_cons (pe_tup pa_nil) (pa_cons (pe_tup (pa_cons pe_str pa_nil)) pa_nil)))
      (pa_cons (pe_lst pa_nil) (pa_cons pe_dnewK (pa_cons (pe_dispT hu (pps_cons (pe_tup (pa_cons pe_int (pa_cons pe_str pa_nil))) (pe_tup (pa_cons pe_int (pa_cons (pe_tup (pa_cons pe_int pa_nil)) pa_nil))) pps_nil) (by rfl) (by rfl) (fun z => by cases z) (by decide)) pa_nil)))))))))))) pa_nil)))), ?_⟩
    obtain ⟨xp, hpp⟩ : ∃ xs, H p = some (.lst xs) := by
      obtain ⟨_, _, _, e, _⟩ := hp
      exact ⟨_, e⟩
    refine ⟨_, rfl, _, rfl, _, _, rfl, rfl, ⟨by decide, by decide, by decide⟩, Nat.zero_le _, fun a6 n6 => ?_⟩
    have s1 : Same H (upd H a6 (.tup [])) := same_new n6
    have e6 : upd H a6 (.tup []) a6 = some (.tup []) := upd_same
    have p6 : a6 ≠ p := (ne_of_none hpp n6).symm
    generalize upd H a6 (.tup []) = H1 at s1 e6
    refine ⟨Nat.zero_le _, fun b7 n7 => ?_⟩
    have s2 : Same H1 (upd H1 b7 (.tup [])) := same_new n7
    have e7b : upd H1 b7 (.tup []) b7 = some (.tup []) := upd_same
    have p7b : b7 ≠ p := (ne_of_none (s1 _ _ hpp) n7).symm
    generalize upd H1 b7 (.tup []) = H2 at s2 e7b
    refine ⟨by show 1 ≤ sizeLine; decide, fun c7 n7c => ?_⟩
    have s3 : Same H2 (upd H2 c7 (.tup [.str "1"])) := same_new n7c
    have e7c : upd H2 c7 (.tup [.str "1"]) c7 = some (.tup [.str "1"]) := upd_same
    have p7c : c7 ≠ p := (ne_of_none (s2 _ _ (s1 _ _ hpp)) n7c).symm
    generalize upd H2 c7 (.tup [.str "1"]) = H3 at s3 e7c
    refine ⟨by show 2 ≤ sizeLine; decide, fun a7 n7a => ?_⟩
    have s4 : Same H3 (upd H3 a7 (.tup [.ref b7, .ref c7])) := same_new n7a
    have e7 : upd H3 a7 (.tup [.ref b7, .ref c7]) a7 = some (.tup [.ref b7, .ref c7]) := upd_same
    have q4 : Same H H3 := (s1.trans s2).trans s3
    have p7 : a7 ≠ p := (ne_of_none (q4 _ _ hpp) n7a).symm
    generalize upd H3 a7 (.tup [.ref b7, .ref c7]) = H4 at s4 e7
    refine ⟨Nat.zero_le _, fun a8 n8 => ?_⟩
    have s5 : Same H4 (upd H4 a8 (.lst [])) := same_new n8
    have e8 : upd H4 a8 (.lst []) a8 = some (.lst []) := upd_same
    have q5 := q4.trans s4
    have p8 : a8 ≠ p := (ne_of_none (q5 _ _ hpp) n8).symm
    generalize upd H4 a8 (.lst []) = H5 at s5 e8
    intro a9 n9
    have s6 : Same H5 (upd H5 a9 (.dK [])) := same_new n9
    have e9 : upd H5 a9 (.dK []) a9 = some (.dK []) := upd_same
    have q6 := q5.trans s5
    have p9 : a9 ≠ p := (ne_of_none (q6 _ _ hpp) n9).symm
    generalize upd H5 a9 (.dK []) = H6 at s6 e9
    intro a10 n10
    have s7 : Same H6 (upd H6 a10 (.dT [])) := same_new n10
    have e10 : upd H6 a10 (.dT []) a10 = some (.dT []) := upd_same
    have q7 := q6.trans s6
    have p10 : a10 ≠ p := (ne_of_none (q7 _ _ hpp) n10).symm
    generalize upd H6 a10 (.dT []) = H7 at s7 e10
    refine ⟨by show 2 ≤ sizeLine; decide, fun ak nk => ?_⟩
    have s8 : Same H7 (upd H7 ak (.tup [.int 0, .str "0"])) := same_new nk
    have ek : upd H7 ak (.tup [.int 0, .str "0"]) ak = some (.tup (zk.map kV)) := upd_same
    generalize upd H7 ak (.tup [.int 0, .str "0"]) = H8 at s8 ek
    refine ⟨by show 1 ≤ sizeLine; decide, fun aq nq => ?_⟩
    have s9 : Same H8 (upd H8 aq (.tup [.int 1])) := same_new nq
    have eq : upd H8 aq (.tup [.int 1]) aq = some (.tup [.int 1]) := upd_same
    have q9 := (q7.trans s7).trans s8
    have pq : aq ≠ p := (ne_of_none (q9 _ _ hpp) nq).symm
    generalize upd H8 aq (.tup [.int 1]) = H9 at s9 eq
    refine ⟨by show 2 ≤ sizeLine; decide, fun ap np => ?_⟩
    have s10 : Same H9 (upd H9 ap (.tup [.int 1, .ref aq])) := same_new np
    have ep : upd H9 ap (.tup [.int 1, .ref aq]) ap = some (.tup [.int 1, .ref aq]) := upd_same
    have q10 := q9.trans s9
    have pp : ap ≠ p := (ne_of_none (q10 _ _ hpp) np).symm
    generalize upd H9 ap (.tup [.int 1, .ref aq]) = H10 at s10 ep
    have e10' : H10 a10 = some (.dT []) := s10 _ _ (s9 _ _ (s8 _ _ e10))
    refine ⟨e10', [(zk, .ref ap)], .cons ⟨ak, rfl, s10 _ _ (s9 _ _ ek), rfl⟩ .nil, by show 1 ≤ 15; decide, ?_⟩
    -- the dict is filled
    have d11 : upd H10 a10 (.dT [(zk, .ref ap)]) a10 = some (.dT [(zk, .ref ap)]) := upd_same
    have s11 : ∀ b o, b ≠ a10 → H10 b = some o → upd H10 a10 (.dT [(zk, .ref ap)]) b = some o := fun b o n e => (upd_ne n).trans e
    have tail : Same H6 H10 := ((s7.trans s8).trans s9).trans s10
    have at6 : ∀ b o, H6 b = some o → upd H10 a10 (.dT [(zk, .ref ap)]) b = some o := fun b o e => s11 b o (ne_of_none e n10) (tail _ _ e)
    have em : mergeT [] [(zk, V.ref ap)] = [(zk, V.ref ap)] := rfl
    rw [em]
    generalize upd H10 a10 (.dT [(zk, .ref ap)]) = H11 at d11 s11 at6
    have f6 : ∀ b o, H b = some o → H11 b = some o := fun b o e => at6 b o ((q6.trans s6) _ _ e)
    refine ⟨by show 11 ≤ sizeLine; decide, fun l nl => ?_⟩
    have s12 : Same H11 (upd H11 l (.lst [.non, .int (-1), .int 2, .int (10 ^ 40), .str "", .str "012", .ref a6, .ref a7, .ref a8, .ref a9, .ref a10])) := same_new nl
    have lp : l ≠ p := (ne_of_none (f6 _ _ hpp) nl).symm
    refine ⟨p, c, l, n, _, rfl, hp.keep (fun b o e => s12 _ _ (f6 b o e)), by omega, upd_same, lp, by show 0 < 11; decide, by show 11 < 1000; decide, fun H' v kp pen' hx => ?_⟩
    have kept : Keep p H H' := fun b o nb e => kp b o nb (s12 _ _ (f6 b o e))
    have on6 : ∀ b o, b ≠ p → H6 b = some o → H' b = some o := fun b o nb e => kp b o nb (s12 _ _ (at6 b o e))
    have on10 : ∀ b o, b ≠ p → b ≠ a10 → H10 b = some o → H' b = some o := fun b o nb na e => kp b o nb (s12 _ _ (s11 b o na e))
    have r5 : Same H5 H6 := s6
    have r4 : Same H4 H6 := s5.trans r5
    have r3 : Same H3 H6 := s4.trans r4
    have r2 : Same H2 H6 := s3.trans r3
    have r1 : Same H1 H6 := s2.trans r2
    have q1 := s1
    have q2 := s1.trans s2
    have q3 := q2.trans s3
    have nn6 := n6
    have nn7 := none_of s1 n7
    have nn7c := none_of q2 n7c
    have nn7a := none_of q4 n7a
    have nn8 := none_of q5 n8
    have nn9 := none_of q6 n9
    have nn10 := none_of q7 n10
    have nnq := none_of q9 nq
    have nnp := none_of q10 np
    simp only [List.mem_cons, List.not_mem_nil, or_false] at hx
    rcases hx with rfl | rfl | rfl | rfl | rfl | rfl | rfl | rfl | rfl | rfl | rfl
    · exact k H' 0 _ kept pen' rfl
    · exact k H' 1 _ kept pen' rfl
    · exact k H' 2 _ kept pen' rfl
    · exact k H' 3 _ kept pen' rfl
    · exact k H' 4 _ kept pen' rfl
    · exact k H' 5 _ kept pen' rfl
    · exact k H' 6 _ kept pen' ⟨a6, rfl, newIn_at nn6 (on6 _ _ p6 (r1 _ _ e6))⟩
    · exact k H' 7 _ kept pen' ⟨a7, b7, c7, rfl, newIn_at nn7a (on6 _ _ p7 (r4 _ _ e7)), newIn_at nn7 (on6 _ _ p7b (r2 _ _ e7b)), newIn_at nn7c (on6 _ _ p7c (r3 _ _ e7c))⟩
    · exact k H' 8 _ kept pen' ⟨a8, rfl, newIn_at nn8 (on6 _ _ p8 (r5 _ _ e8))⟩
    · exact k H' 9 _ kept pen' ⟨a9, rfl, newIn_at nn9 (on6 _ _ p9 e9)⟩
    · have e10n : H9 a10 = some (.dT []) := s9 _ _ (s8 _ _ e10)
      have nq10 : aq ≠ a10 := ne_of eq e10n (fun z => nomatch z)
      have np10 : ap ≠ a10 := ne_of ep e10' (fun z => nomatch z)
      exact k H' 10 _ kept pen' ⟨a10, ap, aq, rfl, newIn_at nn10 (kp _ _ p10 (s12 _ _ d11)), newIn_at nnp (on10 _ _ pp np10 ep), newIn_at nnq (on10 _ _ pq nq10 (s10 _ _ eq))⟩
end
end Kpp
namespace Gd
open PySem PySem.Spec PyProof.Rows L2
/-- C() where C has no __init__ but object's -/
theorem pe_make00 {X : Cx} {x : Str} {C : Addr} {p pos : Pos} (makes : PySem.W.makesIn X.K C = true) (init : PySem.W.findIn X.K (.ref C) "__init__" = some (some (.builtin "object.__init__"))) (kp : PySem.W.keepIn X.K (.ref C) = true) (top : PySem.W.mroIn X.K C (.type "object") = some true)
    (hg : Gl X x) (hm : X.mg x = some (.ref C)) (hdb : (x == ("__debug__" : Str)) = false := by decide) : PE X (.Call (.Name x p) [] [] pos) (fun _ H Q => ∀ y dx, H y = none → H dx = none → dx ≠ y → Q (.ref y) (upd (upd H dx (.own y)) y (.ins C dx []))) := by
  refine ⟨fun pins s σ H Q I h => ?_⟩
  refine wpAny_Call_Name_kw (ld_glob I hg hm ?_ hdb)
  refine PySem.W.callWith_K0 I.kIn kp ?_
  have q := h (s.heap.objs.size + 1) s.heap.objs.size (I.hok.fresh (Nat.le_succ _)) (I.hok.fresh (Nat.le_refl _)) (Nat.ne_of_lt (Nat.lt_succ_self _))
  have I2 := Inv.made (C := C) I
  refine wpAny_call (make_map0 I.kIn makes init (fun self => PySem.W.Looks.of_pure (PySem.W.oi_bind _)) ?_)
  have e2 : ((s.heap.push PySem.W.emptyDict).push (PySem.W.instObj C s.heap.objs.size)).get? (s.heap.objs.size + 1) = some (PySem.W.instObj C s.heap.objs.size) := by
    have z := Heap.get?_push_size (s.heap.push PySem.W.emptyDict) (o := PySem.W.instObj C s.heap.objs.size) rfl
    rwa [Heap.size_push] at z
  have t1 : PySem.W.Looks (model X.prog X.w) ((s.heap.push PySem.W.emptyDict).push (PySem.W.instObj C s.heap.objs.size)) (typeOf (.ref (s.heap.objs.size + 1))) (.ref C) := NwA.type_at e2 rfl
  have t2 : PySem.W.Looks (model X.prog X.w) ((s.heap.push PySem.W.emptyDict).push (PySem.W.instObj C s.heap.objs.size)) (isInstance (.ref (s.heap.objs.size + 1)) (.type "object")) true := t1.andThen (PySem.W.looks_mroIn I2.kIn top)
  refine codeAny_call_builtin PySem.W.oi_plain PySem.W.entry_oi (PySem.W.check_slot PySem.W.oi_kind PySem.W.oi_split t2 (NwA.oi_args_any _ _ _) ?_)
  rw [PySem.W.oi_run]
  exact wpAny_pure ⟨rfl, .ref (s.heap.objs.size + 1), _, I2, rfl, q⟩
end Gd
namespace Kpp
open PySem PySem.Spec PyProof.Rows L2 Gd
/-! ### the thirteen classes, by number -/
def fldN : Nat → List Str
  | 0 | 1 | 2 | 3 => ["readings", "factors"]
  | 4 => ["words", "value"]
  | 5 => ["words", "one", "other"]
  | 6 | 8 => ["entry", "question", "told", "due"]
  | 7 => ["entry", "question", "cell", "worth"]
  | 9 => ["words"]
  | 10 => ["pairs"]
  | 11 => ["number", "ahead", "behind"]
  | _ => []
def trB : Nat → Bool
  | 4 | 5 | 6 | 7 | 8 | 9 => false
  | _ => true
/-- what is asked of the classes, each and two by two -/
structure Fam (P : Program) (w : World) (K : PySem.W.Frag) (mg : Str → Option Value) (base : Heap) (cs : Nat → Addr) (Vd : Addr) : Prop where
  c : ∀ i, i < 13 → Cls K (cs i)
  na : ∀ i, i < 13 → ∀ f ∈ fldN i, NoAttr K (cs i) f
  eq : ∀ i, i < 13 → ∃ fE fd, PySem.W.findIn K (.ref (cs i)) "__eq__" = some (some (.ref fE)) ∧ PySem.W.isFn K (.ref fE) = true ∧ FnOk P w K mg base CX0 1 fE fd ["self", "other"] (spEqC K (cs i) (fldN i)) ∧ Binds K fd ["self", "other"] []
  ne : ∀ i, i < 13 → PySem.W.findIn K (.ref (cs i)) "__ne__" = some (some (.builtin "object.__ne__"))
  mo : ∀ i, i < 13 → PySem.W.mroIn K (cs i) (.type "object") = some true
  nf : ∀ i j, i < 13 → j < 13 → PySem.W.notFirst K (cs i) (.ref (cs j)) = true
  kit : ∀ i j, i < 13 → j < 13 → PySem.W.kitOne K (.ref (cs j)) (.ref (cs i)) = some (decide (i = j))
  nt : PySem.W.notFirst K (cs 11) (.type "tuple") = true
  kt : PySem.W.kitOne K (.type "tuple") (.ref (cs 11)) = some false
  ver : ∀ i, i < 13 → PySem.W.kitOne K (.ref (cs i)) (.ref Vd) = some (decide (i ≠ 11))
  ty : ∀ i, i < 13 → ∀ (H : Hp) (b dy : Addr) (hs : List (Str × V)), H b = some (.ins (cs i) dy hs) → TyOf K H (.ref b) (.ref (cs i))
  tr : ∀ i, i < 13 → i ≠ 11 → ∃ fB fd, PySem.W.findIn K (.ref (cs i)) "__bool__" = some (some (.ref fB)) ∧ PySem.W.isFn K (.ref fB) = true ∧ FnOk P w K mg base CX0 1 fB fd ["self"] (spBool (trB i)) ∧ Binds K fd ["self"] []
/-- a thing of class i -/
def Th (cs : Nat → Addr) (H : Hp) (i : Nat) (ks : List Nat) (v : V) : Prop := i < 13 ∧ Thing H (cs i) (fldN i) ks v
theorem Th.same {cs : Nat → Addr} {H H' : Hp} {i : Nat} {ks : List Nat} {v : V} (s : Same H H') (h : Th cs H i ks v) : Th cs H' i ks v := ⟨h.1, Thing.same s h.2⟩
def rEqF (cs : Nat → Addr) : R2 := fun x y H Q => ∃ i j ks js, Th cs H i ks x ∧ Th cs H j js y ∧ Q (.bl (decide (i = j ∧ ks = js))) H
def rNeF (cs : Nat → Addr) : R2 := fun x y H Q => ∃ i j ks js, Th cs H i ks x ∧ Th cs H j js y ∧ Q (.bl (!decide (i = j ∧ ks = js))) H
section
variable {X : Cx} {cs : Nat → Addr} {Vd : Addr}
theorem spEqF (R : Fam X.prog X.w X.K X.mg X.base cs Vd) {i j : Nat} {ks js : List Nat} {x y : V} {H : Hp} {Q : VK} {E : XK} (h1 : Th cs H i ks x) (h2 : Th cs H j js y) (q : Q (.bl (decide (i = j ∧ ks = js))) H) : spEqC X.K (cs i) (fldN i) [x, y] H Q E := by
  obtain ⟨li, a, dx, gs, rfl, ha, en, fl⟩ := h1
  obtain ⟨lj, b, dy, hs, rfl, hb, en2, fl2⟩ := h2
  refine ⟨a, dx, .ref b, gs, ks, rfl, ha, en, fl, ?_⟩
  by_cases e : i = j
  · subst e
    refine .inl ⟨b, dy, hs, js, rfl, hb, en2, fl2, ?_⟩
    have z : decide (i = i ∧ ks = js) = decide (ks = js) := by simp
    rw [← z]
    exact q
  · refine .inr ⟨_, .base (R.ty j lj _ _ _ _ hb), ?_, ?_⟩
    · rw [R.kit i j li lj, decide_eq_false e]
    · rw [decide_eq_false (fun z => e z.1)] at q
      exact q
theorem yt_of {H : Hp} {j : Nat} {js : List Nat} {y : V} (h : Th cs H j js y) : YT H y (.ref (cs j)) := by
  obtain ⟨_, b, dy, hs, rfl, hb, _⟩ := h
  exact .inl ⟨b, _, dy, hs, rfl, hb, rfl⟩
theorem op_eqF (R : Fam X.prog X.w X.K X.mg X.base cs Vd) (hr : Room 1 X.A) : OpR X (compareOp .Eq) (rEqF cs) := by
  intro pins s σ H x y v u Q I rx ry h
  obtain ⟨i, j, ks, js, h1, h2, q⟩ := h
  obtain ⟨fE, fd, f1, f2, F, B⟩ := R.eq i h1.1
  obtain ⟨a, dx, gs, ex, ha, _⟩ := h1.2
  exact op_own (E := E0) F f1 f2 B pass0 hr pins s σ H x y v u Q I rx ry ⟨a, dx, gs, _, ex, ha, yt_of h2, R.nf i j h1.1 h2.1, spEqF R h1 h2 ⟨_, rfl, q⟩⟩
theorem op_neF (R : Fam X.prog X.w X.K X.mg X.base cs Vd) (hr : Room 2 X.A) : OpR X (compareOp .NotEq) (rNeF cs) := by
  intro pins s σ H x y v u Q I rx ry h
  obtain ⟨i, j, ks, js, h1, h2, q⟩ := h
  obtain ⟨fE, fd, f1, f2, F, B⟩ := R.eq i h1.1
  obtain ⟨a, dx, gs, ex, ha, _⟩ := h1.2
  exact op_ownN (E := E0) F (R.mo i h1.1) (R.ne i h1.1) f1 f2 B pass0 hr pins s σ H x y v u Q I rx ry ⟨a, dx, gs, _, ex, ha, yt_of h2, R.nf i j h1.1 h2.1, spEqF R h1 h2 ⟨_, rfl, q⟩⟩
/-- a rank is no tuple -/
theorem op_neT (R : Fam X.prog X.w X.K X.mg X.base cs Vd) (hr : Room 2 X.A) : OpR X (compareOp .NotEq) (fun x y H Q => ∃ (ks : List Nat) (t : Addr) (xs : List V), Th cs H 11 ks x ∧ y = .ref t ∧ H t = some (.tup xs) ∧ Q (.bl true) H) := by
  intro pins s σ H x y v u Q I rx ry h
  obtain ⟨ks, t, xs, h1, rfl, ht, q⟩ := h
  obtain ⟨fE, fd, f1, f2, F, B⟩ := R.eq 11 h1.1
  obtain ⟨a, dx, gs, ex, ha, en, fl⟩ := h1.2
  exact op_ownN (E := E0) F (R.mo 11 h1.1) (R.ne 11 h1.1) f1 f2 B pass0 hr pins s σ H x _ v u Q I rx ry ⟨a, dx, gs, _, ex, ha, .inr ⟨t, xs, rfl, ht, rfl⟩, R.nt, by
    subst ex
    exact ⟨a, dx, _, gs, ks, rfl, ha, en, fl, .inr ⟨_, .base (.tup ht), R.kt, false, rfl, q⟩⟩⟩
/-- the same, where lists are compared -/
def DTh (cs : Nat → Addr) : Eqv := fun x y H => ∃ i ks, Th cs H i ks x ∧ Th cs H i ks y
theorem mon_th : Mon (DTh cs) := fun x y H H' e ⟨i, ks, h1, h2⟩ => ⟨i, ks, h1.same e, h2.same e⟩
theorem eqG_th (R : Fam X.prog X.w X.K X.mg X.base cs Vd) : EqG X 1 (DTh cs) := by
  intro A pins s σ H x y u v sb I rx ry d
  obtain ⟨i, ks, h1, h2⟩ := d
  obtain ⟨fE, fd, f1, f2, F, B⟩ := R.eq i h1.1
  have F2 : FnOk X.prog X.w X.K X.mg X.base CX0 1 fE fd ["self", "other"] (spEq fun a b H => ∃ ks, Th cs H i ks (.ref a) ∧ Th cs H i ks (.ref b)) := F.imp fun vs H Q E h => by
    obtain ⟨a, b, rfl, ⟨ks, z1, z2⟩, q⟩ := h
    exact spEqF R z1 z2 (by rw [decide_eq_true ⟨rfl, rfl⟩]; exact q H Ext.rfl')
  obtain ⟨a, dx, gs, rfl, ha, _⟩ := id h1.2
  obtain ⟨b, dy, hs, rfl, hb, _⟩ := id h2.2
  exact eqG_ins (E := E0) F2 f1 f2 B pass0 A pins s σ H _ _ u v sb I rx ry ⟨a, b, dx, dy, gs, hs, rfl, rfl, ha, hb, ks, h1, h2⟩
/-- its truth -/
def rTrF (cs : Nat → Addr) : V → Hp → (Bool → Hp → Prop) → Prop := fun x H Q => ∃ i ks, Th cs H i ks x ∧ i ≠ 11 ∧ Q (trB i) H
theorem tr_th (R : Fam X.prog X.w X.K X.mg X.base cs Vd) (hr : Room 1 X.A) : TrR X (rTrF cs) := by
  intro pins s σ H x v Q I rx h
  obtain ⟨i, ks, h1, n, q⟩ := h
  obtain ⟨fB, fd, f1, f2, F, B⟩ := R.tr i h1.1 n
  obtain ⟨a, dx, gs, ex, ha, _⟩ := h1.2
  exact tr_own (E := E0) F f1 f2 B pass0 hr pins s σ H x v Q I rx ⟨a, dx, gs, ex, ha, x, rfl, _, rfl, q⟩
end
end Kpp
namespace Kpp
open PySem PySem.Spec PyProof.Rows L2 Gd
def ZvAll (H : Hp) : List V → List Nat → Prop
  | [], [] => True
  | v :: vs, k :: ks => Zv H k v ∧ ZvAll H vs ks
  | _, _ => False
theorem ZvAll.same {H H' : Hp} (s : Same H H') : ∀ {vs : List V} {ks : List Nat}, ZvAll H vs ks → ZvAll H' vs ks
  | [], [], _ => True.intro
  | _ :: _, _ :: _, ⟨h, r⟩ => ⟨Zv.same s h, ZvAll.same s r⟩
  | [], _ :: _, h => h.elim
  | _ :: _, [], h => h.elim
/-- fields with their places among the parameters -/
def idx : Nat → List (Str × Ps6) → List (Str × Nat × Ps6)
  | _, [] => []
  | k, (f, p) :: r => (f, k, p) :: idx (k + 1) r
theorem idx_names : ∀ (r : List (Str × Ps6)) (k : Nat), (idx k r).map (·.1) = r.map (·.1)
  | [], _ => rfl
  | x :: r, k => by
    show x.1 :: (idx (k + 1) r).map (·.1) = _
    rw [idx_names r (k + 1)]
    rfl
theorem left_of {σ : L2.St} {H : Hp} : ∀ (r : List (Str × Ps6)) (k : Nat) (us : List V) (js : List Nat), (∀ n v, us[n]? = some v → σ[k + n]? = some (some v)) → us.length = r.length → ZvAll H us js → Left σ H (idx k r) js
  | [], _, us, js, _, len, z => by
    cases us with
    | nil =>
      cases js with
      | nil => exact True.intro
      | cons => exact z.elim
    | cons => exact nomatch len
  | x :: r, k, us, js, at_, len, z => by
    cases us with
    | nil => exact nomatch len
    | cons u us =>
      cases js with
      | nil => exact z.elim
      | cons j js =>
        obtain ⟨z1, z2⟩ := z
        refine ⟨⟨u, at_ 0 u rfl, z1⟩, left_of r (k + 1) us js (fun n v e => ?_) (Nat.succ.inj len) z2⟩
        have := at_ (n + 1) v (by simpa using e)
        rw [show k + 1 + n = k + (n + 1) by omega]
        exact this
/-- what is made of some of the eleven values -/
def spMk (cs : Nat → Addr) (i : Nat) : Sp := fun vs H Q _ => ∃ (a dx : Addr) (us : List V) (js : List Nat), vs = .ref a :: us ∧ us.length = (fldN i).length ∧ H a = some (.ins (cs i) dx []) ∧ ZvAll H us js ∧
  ∀ (H' : Hp), (∀ b o, b ≠ a → H b = some o → H' b = some o) → Thing H' (cs i) (fldN i) js (.ref a) → Q .non H'
theorem start_at {N : List Str} {vs : List V} {n : Nat} {v : V} (h : vs[n]? = some v) (len : vs.length = N.length) : (start N vs)[n]? = some (some v) := by
  unfold L2.start
  rw [List.getElem?_append_left (by rw [List.length_map]; exact (List.getElem?_eq_some_iff.mp h).1), List.getElem?_map, h]
  rfl
theorem mk_of_ini {P : Program} {w : World} {K : PySem.W.Frag} {mg : Str → Option Value} {base : Heap} {cs : Nat → Addr} {i : Nat} {fI : Addr} {fd : FuncData} {r : List (Str × Ps6)} {N : List Str} (hN : N = ("self" : Str) :: fldN i) (hr : r.map (·.1) = fldN i) (F : FnOk P w K mg base CX0 6 fI fd N (spIni (cs i) N (idx 1 r))) :
    FnOk P w K mg base CX0 6 fI fd N (spMk cs i) := F.imp fun vs H Q E h => by
  obtain ⟨a, dx, us, js, rfl, len, ha, z, post⟩ := h
  have full : (V.ref a :: us).length = N.length := by rw [hN, List.length_cons, List.length_cons, len]
  refine ⟨a, dx, js, full, start_at rfl full, ha, left_of r 1 us js (fun n v e => start_at (by rw [Nat.add_comm]; simpa using e) full) (by rw [len, ← hr, List.length_map]) z, fun H' gs k h1 h2 h3 => post H' k ⟨a, dx, gs, rfl, h1, ?_, h3⟩⟩
  rw [h2, idx_names, hr]
/-- made, with what is asked of the arguments -/
theorem made_of {cs : Nat → Addr} {i : Nat} {vs : List V} {H1 : Hp} {js : List Nat} {R : Hp → Prop} {E : XK} {x dx : Addr} (li : i < 13) (nx : H1 x = none) (nd : H1 dx = none) (ne : dx ≠ x) (len : vs.length = (fldN i).length) (z : ZvAll H1 vs js)
    (post : ∀ H2 : Hp, Same H1 H2 → Th cs H2 i js (.ref x) → R H2) : spMk cs i (.ref x :: vs) (upd (upd H1 dx (.own x)) x (.ins (cs i) dx [])) (fun v H2 => v = .non ∧ R H2) E := by
  have s : Same H1 (upd (upd H1 dx (.own x)) x (.ins (cs i) dx [])) := fun b o e => by
    rw [upd_ne (ne_of_none e nx), upd_ne (ne_of_none e nd)]
    exact e
  exact ⟨x, dx, vs, js, rfl, len, upd_same, ZvAll.same s z, fun H' k t => ⟨rfl, post H' (fun b o e => k b o (ne_of_none e nx) (s _ _ e)) ⟨li, t⟩⟩⟩
end Kpp
namespace Kpp
open PySem PySem.Spec PyProof.Rows L2 Gd
open Kone (Def Pen Keep TxtD same_new)
def clsN : Nat → Str
  | 0 => "Nought" | 1 => "Alike" | 2 => "Right" | 3 => "Whole" | 4 => "Somewhere" | 5 => "Apart" | 6 => "Wrong" | 7 => "Torn" | 8 => "Uncovered" | 9 => "TwoWays" | 10 => "Covered" | 11 => "Rank" | _ => "OneWay"
def gRev {α : Type} (us ws : List α) : List α := us ++ ws.reverse
/-- what the law leans on -/
structure Lq (P : Program) (w : World) (K : PySem.W.Frag) (mg : Str → Option Value) (base : Heap) (cs : Nat → Addr) (Vd : Addr) : Prop where
  fam : Fam P w K mg base cs Vd
  nm : ∀ i, i < 13 → mg (clsN i) = some (.ref (cs i))
  mkr : ∀ i, i < 12 → ∃ fI fd, Mk K (cs i) fI ∧ FnOk P w K mg base CX0 6 fI fd (("self" : Str) :: fldN i) (spMk cs i) ∧ Binds K fd (("self" : Str) :: fldN i) [] ∧ KBn K fd (("self" : Str) :: fldN i) 1 (fldN i).reverse gRev gRev
  one : PySem.W.makesIn K (cs 12) = true ∧ PySem.W.findIn K (.ref (cs 12)) "__init__" = some (some (.builtin "object.__init__")) ∧ PySem.W.keepIn K (.ref (cs 12)) = true
  vd : mg "Verdict" = some (.ref Vd)
  isi : mg "isinstance" = none
  rp : mg "repr" = none
  rng : mg "range" = none
  enm : mg "enumerate" = none
theorem bootRepr : bootBuiltins "repr" = some (.builtin "repr") := by decide +kernel
theorem nodup_fld : ∀ i, (fldN i).Nodup
  | 0 | 1 | 2 | 3 | 4 | 5 | 6 | 7 | 8 | 9 | 10 | 11 => by decide
  | _ + 12 => by show ([] : List Str).Nodup; decide
theorem flds_at {H : Hp} {f : Str} {k : Nat} : ∀ {gs : List (Str × V)} {ks : List Nat} {n : Nat}, Flds H gs ks → (gs.map (·.1))[n]? = some f → ks[n]? = some k → ∃ v, (f, v) ∈ gs ∧ Zv H k v
  | (g, v) :: gs, j :: ks, 0, ⟨h, _⟩, e1, e2 => by
    simp at e1 e2
    subst e1 e2
    exact ⟨v, List.mem_cons_self .., h⟩
  | (g, v) :: gs, j :: ks, n + 1, ⟨_, r⟩, e1, e2 => by
    obtain ⟨u, m, z⟩ := flds_at r (n := n) (by simpa using e1) (by simpa using e2)
    exact ⟨u, List.mem_cons_of_mem _ m, z⟩
  | [], [], _, _, e1, _ => by simp at e1
  | [], _ :: _, _, h, _, _ => h.elim
  | _ :: _, [], _, h, _, _ => h.elim
theorem fld_of {P : Program} {w : World} {K : PySem.W.Frag} {mg : Str → Option Value} {base : Heap} {cs : Nat → Addr} {Vd : Addr} (R : Fam P w K mg base cs Vd) {H : Hp} {i : Nat} {ks : List Nat} {x : V} (h : Th cs H i ks x) {n k : Nat} {f : Str} (hf : (fldN i)[n]? = some f) (hk : ks[n]? = some k) :
    ∃ a C dx gs v, x = .ref a ∧ H a = some (.ins C dx gs) ∧ Cls K C ∧ NoAttr K C f ∧ gs.lookup f = some v ∧ Zv H k v := by
  obtain ⟨li, a, dx, gs, rfl, ha, en, fl⟩ := h
  obtain ⟨v, m, z⟩ := flds_at fl (by rw [en]; exact hf) hk
  exact ⟨a, _, dx, gs, v, rfl, ha, R.c i li, R.na i li f (List.mem_of_getElem? hf), lookup_in (by rw [en]; exact nodup_fld i) m, z⟩
/-- lists of a few of the eleven, shown -/
theorem few_shown {ks : List Nat} (h : ks.length ≤ 8) : (PyData.list (ks.map zD)).shown.length ≤ sizeLine ∧ (PyData.list (ks.map zD)).depth ≤ 60 := by
  have all : ∀ ks : List Nat, ((PyData.shownAll (ks.map zD)).map (·.length)).sum ≤ 100 * ks.length ∧ (PyData.shownAll (ks.map zD)).length = ks.length ∧ PyData.depthAll (ks.map zD) ≤ 3 := by
    intro ks
    induction ks with
    | nil => exact ⟨Nat.le_refl _, rfl, by decide⟩
    | cons k ks ih =>
      obtain ⟨i1, i2, i3⟩ := ih
      obtain ⟨_, f2, f3⟩ := zd_fine k
      rw [List.map_cons, PyData.shownAll, PyData.depthAll, List.map_cons, List.sum_cons, List.length_cons, List.length_cons, i2]
      exact ⟨by omega, rfl, Nat.max_le.mpr ⟨f3, i3⟩⟩
  obtain ⟨a1, a2, a3⟩ := all ks
  rw [PyData.shown, PyData.depth]
  refine ⟨?_, by omega⟩
  have z := listText_len_le (PyData.shownAll (ks.map zD))
  refine Nat.le_trans z (Nat.le_trans ?_ (show 5000 ≤ sizeLine by decide))
  omega
theorem zt_few {H : Hp} : ∀ {vs : List V} {ks : List Nat}, ZvAll H vs ks → ZtAll H vs (ks.map zD)
  | [], [], _ => .nil
  | _ :: _, _ :: _, ⟨h, r⟩ => .cons (.leaf h) (zt_few r)
  | [], _ :: _, h => h.elim
  | _ :: _, [], h => h.elim
theorem at_zero {v : V} {r : List V} : atI (v :: r) 0 = some v := by
  unfold atI ixN
  rw [if_pos (by decide), if_pos (by simp)]
  rfl
theorem at_one {a b : V} {r : List V} : atI (a :: b :: r) 1 = some b := by
  unfold atI ixN
  rw [if_pos (by decide), if_pos (by simp; omega)]
  rfl
theorem at_two {a b c : V} {r : List V} : atI (a :: b :: c :: r) 2 = some c := by
  unfold atI ixN
  rw [if_pos (by decide), if_pos (by simp; omega)]
  rfl
theorem at_three {a b c d : V} {r : List V} : atI (a :: b :: c :: d :: r) 3 = some d := by
  unfold atI ixN
  rw [if_pos (by decide), if_pos (by simp; omega)]
  rfl
theorem noB {b : Bool} {F G : Prop} (hb : b = false) (h : G) : if b = true then F else G := by
  subst hb
  rw [if_neg Bool.false_ne_true]
  exact h
theorem yesB {b : Bool} {F G : Prop} (hb : b = true) (h : F) : if b = true then F else G := by
  subst hb
  rw [if_pos rfl]
  exact h
theorem five {H : Hp} {us : List V} {ks : List Nat} (len : us.length = 5) (z : ZvAll H us ks) : ∃ u0 u1 u2 u3 u4 k0 k1 k2 k3 k4, us = [u0, u1, u2, u3, u4] ∧ ks = [k0, k1, k2, k3, k4] ∧ Zv H k0 u0 ∧ Zv H k1 u1 ∧ Zv H k2 u2 ∧ Zv H k3 u3 ∧ Zv H k4 u4 := by
  match us, ks, len, z with
  | [u0, u1, u2, u3, u4], [k0, k1, k2, k3, k4], _, ⟨z0, z1, z2, z3, z4, _⟩ => exact ⟨u0, u1, u2, u3, u4, k0, k1, k2, k3, k4, rfl, rfl, z0, z1, z2, z3, z4⟩
theorem th_one {cs : Nat → Addr} {H : Hp} {y dx : Addr} : Th cs (upd (upd H dx (.own y)) y (.ins (cs 12) dx [])) 12 [] (.ref y) := ⟨by decide, y, dx, [], rfl, upd_same, rfl, True.intro⟩
theorem same_made {H : Hp} {y dx C : Addr} (n1 : H y = none) (n2 : H dx = none) : Same H (upd (upd H dx (.own y)) y (.ins C dx [])) := fun b o e => by
  rw [upd_ne (ne_of_none e n1), upd_ne (ne_of_none e n2)]
  exact e
theorem z_le {H : Hp} {k : Nat} {v : V} (h : Zv H k v) : k < 11 := by
  match k, h with
  | k + 11, h => exact h.elim
  | 0, _ | 1, _ | 2, _ | 3, _ | 4, _ | 5, _ | 6, _ | 7, _ | 8, _ | 9, _ | 10, _ => decide
theorem shown_fin : ∀ k l : Fin 11, decide ((zD k).shown = (zD l).shown) = decide (k.val = l.val) := by decide +kernel
theorem shown_eq {H : Hp} {k l : Nat} {v u : V} (h1 : Zv H k v) (h2 : Zv H l u) : decide (V.str (zD k).shown = V.str (zD l).shown) = decide (k = l) := by
  have z := shown_fin ⟨k, z_le h1⟩ ⟨l, z_le h2⟩
  rw [← z, Bool.eq_iff_iff]
  simp
theorem one_eq {i k l : Nat} : decide (i = i ∧ [k] = [l]) = decide (l = k) := by
  rw [Bool.eq_iff_iff]
  simp
  exact eq_comm
theorem three_eq {i a b k l : Nat} : decide (i = i ∧ [a, b, k] = [a, b, l]) = decide (l = k) := by
  rw [Bool.eq_iff_iff]
  simp
  exact eq_comm
abbrev sOth : Stmt := top 31
abbrev NO : List Str := ["_law_told", "_law_one", "_law_two", "_law_three", "_law_odd", "_law_some", "_law_rank_so"]
theorem scOth : FnScope NO ["_law_told"] (defScope sOth) := ⟨rfl, rfl, rfl, by decide +kernel, rfl, by decide +kernel, by decide +kernel⟩
/-- five of the eleven values -/
def spTold : Sp := fun vs H Q _ => ∃ (a : Addr) (us : List V) (ks : List Nat), vs = [.ref a] ∧ H a = some (.lst us) ∧ ZvAll H us ks ∧ us.length = 5 ∧ ∀ H', Same H H' → Q (.bl true) H'
section
variable {P : Program} {w : World} {K : PySem.W.Frag} {mg : Str → Option Value} {base : Heap} {cs : Nat → Addr} {Vd : Addr}
theorem ok_oth (R : Lq P w K mg base cs Vd) {f : Addr} {fd : FuncData} (F : Fun K "_law_others_right" "_law_others_right" sOth f fd) : FnG P w K mg base CX0 9 f fd ["_law_told"] spTold := by
  obtain ⟨fI, fdI, MI, FI, BI, KI⟩ := R.mkr 10 (by decide)
  obtain ⟨fJ, fdJ, MJ, FJ, BJ, KJ⟩ := R.mkr 11 (by decide)
  obtain ⟨o1, o2, o3⟩ := R.one
  have gC : mg "Covered" = some (.ref (cs 10)) := R.nm 10 (by decide)
  have gR : mg "Rank" = some (.ref (cs 11)) := R.nm 11 (by decide)
  have gO : mg "OneWay" = some (.ref (cs 12)) := R.nm 12 (by decide)
  refine Fun.okG F scOth (fun vs H Q E h => ?_) (fun cdv A outer s H vs Q E hG hr h => ?_)
  · obtain ⟨a, us, ks, rfl, _⟩ := h
    rfl
  · obtain ⟨a, us, ks, rfl, ha, hz, len, post⟩ := h
    have hG2 : (A.deeper (envOfC "_law_others_right" (defScope sOth) s.heap.objs.size f cdv)).guards = some [] := hG
    have hu := hr.units
    have h7 := hr.mono (show 7 ≤ 8 by decide)
    have h1 := hr.mono (show 1 ≤ 8 by decide)
    have h2 := hr.mono (show 2 ≤ 8 by decide)
    refine ⟨_, pss_cons (ps_asg (pe_tup (pa_cons (pe_ix ix_list (pv 0) pe_int (fun _ _ => rfl)) (pa_cons (pe_ix ix_list (pv 0) pe_int (fun _ _ => rfl)) (pa_cons (pe_ix ix_list (pv 0) pe_int (fun _ _ => rfl)) (pa_cons (pe_ix ix_list (pv 0) pe_int (fun _ _ => rfl)) pa_nil)))))
          (pg_tup (by rfl) (pgs_cons (pg_name (i := 1) scOth.nd rfl (Or.inl rfl)) (pgs_cons (pg_name (i := 2) scOth.nd rfl (Or.inl rfl)) (pgs_cons (pg_name (i := 3) scOth.nd rfl (Or.inl rfl)) (pgs_cons (pg_name (i := 4) scOth.nd rfl (Or.inl rfl)) pgs_nil))))))
      (pss_cons (ps_par (i := 5) (j := 6) (by rfl) scOth.nd rfl rfl (by decide) rfl rfl (pa_cons (pe_make MI FI h7 rfl gC BI .nil pass0 (pa_cons (pv 1) pa_nil)) (pa_cons (pe_make MJ FJ h7 rfl gR BJ .nil pass0 (pa_cons (pv 1) (pa_cons (pv 2) (pa_cons (pv 3) pa_nil)))) pa_nil)) (by rfl))
      (pss_cons (ps_if (pt_cmpR op_ne (pe_callB (call_reprZ hG2 hu) (by rfl) R.rp bootRepr (pa_cons (pe_lst (pa_cons (pe_fld (pv 5) rfl) (pa_cons (pe_fld (pv 6) rfl) (pa_cons (pe_fld (pv 6) rfl) (pa_cons (pe_fld (pv 6) rfl) pa_nil))))) pa_nil)) (pe_callB (call_reprZ hG2 hu) (by rfl) R.rp bootRepr (pa_cons (pe_lst (pa_cons (pv 1) (pa_cons (pv 1) (pa_cons (pv 2) (pa_cons (pv 3) pa_nil))))) pa_nil)) (nomark _)) (pss_one (ps_ret pe_bl)) pss_nil)
      (pss_cons (ps_if (PW.pt (pw_or (pt_not (pt_tr (tr_th R.fam h1) (pv 5))) (pw_or (pt_not (pt_tr (tr_th R.fam h1) (pe_make00 o1 o2 o3 (R.fam.mo 12 (by decide)) rfl gO))) (pw_or (pt_cmpR (op_neF R.fam h2) (pe_make00 o1 o2 o3 (R.fam.mo 12 (by decide)) rfl gO) (pe_make00 o1 o2 o3 (R.fam.mo 12 (by decide)) rfl gO) (nomark _)) (pw_or (pt_cmpR (op_neF R.fam h2) (pv 5) (pe_makeK0 MI FI h7 rfl gC KI pass0 (pk_cons (pv 1) pk_nil)) (nomark _)) (pw_or1 (pt_cmpR (op_eqF R.fam h1) (pe_make00 o1 o2 o3 (R.fam.mo 12 (by decide)) rfl gO) (pv 5) (nomark _)))))))) (pss_one (ps_ret pe_bl)) pss_nil)
      (pss_cons (ps_if (PW.pt (pw_or (pt_cmpR op_ne (pe_cmpR (op_eqF R.fam h1) (pv 5) (pe_make MI FI h7 rfl gC BI .nil pass0 (pa_cons (pv 4) pa_nil)) (nomark _)) (pe_cmpR op_eq (pe_callB (call_reprZ hG2 hu) (by rfl) R.rp bootRepr (pa_cons (pv 4) pa_nil)) (pe_callB (call_reprZ hG2 hu) (by rfl) R.rp bootRepr (pa_cons (pv 1) pa_nil)) (nomark _)) (nomark _)) (pw_or1 (pt_not (pt_val (pe_callB call_isi (by rfl) R.isi (by decide +kernel) (pa_cons (pe_make00 o1 o2 o3 (R.fam.mo 12 (by decide)) rfl gO) (pa_cons (pe_glob (v := .ref Vd) rfl R.vd rfl) pa_nil)))))))) (pss_one (ps_ret pe_bl)) pss_nil)
      (pss_cons (ps_if (pt_cmpR (op_neF R.fam h2) (pv 6) (pe_makeK0 MJ FJ h7 rfl gR KJ pass0 (pk_cons (pv 3) (pk_cons (pv 2) (pk_cons (pv 1) pk_nil)))) (nomark _)) (pss_one (ps_ret pe_bl)) pss_nil)
      (pss_cons (ps_if (pt_cmpR op_ne (pe_cmpR (op_eqF R.fam h1) (pv 6) (pe_make MJ FJ h7 rfl gR BJ .nil pass0 (pa_cons (pv 1) (pa_cons (pv 2) (pa_cons (pv 4) pa_nil)))) (nomark _)) (pe_cmpR op_eq (pe_callB (call_reprZ hG2 hu) (by rfl) R.rp bootRepr (pa_cons (pv 4) pa_nil)) (pe_callB (call_reprZ hG2 hu) (by rfl) R.rp bootRepr (pa_cons (pv 3) pa_nil)) (nomark _)) (nomark _)) (pss_one (ps_ret pe_bl)) pss_nil)
      (pss_one (ps_ret (pe_and (pe_callB call_isi (by rfl) R.isi (by decide +kernel) (pa_cons (pv 5) (pa_cons (pe_glob (v := .ref Vd) rfl R.vd rfl) pa_nil))) (pe_and (pe_not (pe_callB call_isi (by rfl) R.isi (by decide +kernel) (pa_cons (pv 6) (pa_cons (pe_glob (v := .ref Vd) rfl R.vd rfl) pa_nil)))) (pe_one (pe_cmpR (op_neT R.fam h2) (pv 6) (pe_tup (pa_cons (pv 1) (pa_cons (pv 2) (pa_cons (pv 3) pa_nil)))) (nomark _))))))))))))), ?_⟩
    obtain ⟨u0, u1, u2, u3, u4, k0, k1, k2, k3, k4, rfl, rfl, z0, z1, z2, z3, z4⟩ := five len hz
    refine ⟨_, rfl, a, _, 0, _, rfl, rfl, SqL.of ha, at_zero, _, rfl, a, _, 1, _, rfl, rfl, SqL.of ha, at_one, _, rfl, a, _, 2, _, rfl, rfl, SqL.of ha, at_two, _, rfl, a, _, 3, _, rfl, rfl, SqL.of ha, at_three, by show 4 ≤ sizeLine; decide, fun t ht => ?_⟩
    have s1 : Same H (upd H t (.tup [u0, u1, u2, u3])) := same_new ht
    refine ⟨t, _, rfl, SqT.of upd_same, rfl, _, _, rfl, _, _, rfl, _, _, rfl, _, _, rfl, rfl, ?_⟩
    generalize upd H t (.tup [u0, u1, u2, u3]) = H1 at s1
    refine ⟨_, rfl, fun x dx n1 n2 ne => made_of (cs := cs) (i := 10) (vs := [u0]) (js := [k0]) (by decide) n1 n2 ne rfl ⟨Zv.same s1 z0, True.intro⟩ (fun H2 s2 tc => ?_)⟩
    have q2 := s1.trans s2
    refine ⟨_, rfl, _, rfl, _, rfl, fun x2 dx2 n3 n4 ne2 => made_of (cs := cs) (i := 11) (vs := [u0, u1, u2]) (js := [k0, k1, k2]) (by decide) n3 n4 ne2 rfl ⟨Zv.same q2 z0, Zv.same q2 z1, Zv.same q2 z2, True.intro⟩ (fun H3 s3 tr => ⟨_, _, rfl, ?_⟩)⟩
    have q3 := q2.trans s3
    replace tc := tc.same s3
    obtain ⟨a1, C1, d1, g1, p1, e1, h1, c1, n1, l1, y1⟩ := fld_of R.fam tc (n := 0) (f := "pairs") rfl rfl
    obtain ⟨a2, C2, d2, g2, p2, e2, h2, c2, n2, l2, y2⟩ := fld_of R.fam tr (n := 0) (f := "number") rfl rfl
    obtain ⟨a3, C3, d3, g3, p3, e3, h3, c3, n3, l3, y3⟩ := fld_of R.fam tr (n := 1) (f := "ahead") rfl rfl
    obtain ⟨a4, C4, d4, g4, p4, e4, h4, c4, n4, l4, y4⟩ := fld_of R.fam tr (n := 2) (f := "behind") rfl rfl
    have fs := few_shown (ks := [k0, k0, k1, k2]) (by show 4 ≤ 8; decide)
    refine ⟨_, rfl, a1, C1, d1, g1, p1, e1, h1, c1, n1, l1, _, rfl, a2, C2, d2, g2, p2, e2, h2, c2, n2, l2, _, rfl, a3, C3, d3, g3, p3, e3, h3, c3, n3, l3, _, rfl, a4, C4, d4, g4, p4, e4, h4, c4, n4, l4, by show 4 ≤ sizeLine; decide, fun la nla => ?_⟩
    have s4 : Same H3 (upd H3 la (.lst [p1, p2, p3, p4])) := same_new nla
    refine ⟨_, _, rfl, .list upd_same (zt_few (ks := [k0, k0, k1, k2]) ⟨Zv.same s4 y1, Zv.same s4 y2, Zv.same s4 y3, Zv.same s4 y4, True.intro⟩), fs.1, fs.2, ?_⟩
    generalize upd H3 la (.lst [p1, p2, p3, p4]) = H4 at s4
    have q4 := q3.trans s4
    refine ⟨_, rfl, _, rfl, _, rfl, _, rfl, by show 4 ≤ sizeLine; decide, fun lb nlb => ?_⟩
    have s5 : Same H4 (upd H4 lb (.lst [u0, u0, u1, u2])) := same_new nlb
    have q5 := q4.trans s5
    refine ⟨_, _, rfl, .list upd_same (zt_few (ks := [k0, k0, k1, k2]) ⟨Zv.same q5 z0, Zv.same q5 z0, Zv.same q5 z1, Zv.same q5 z2, True.intro⟩), fs.1, fs.2, rfl, _, rfl, noB (by rw [decide_eq_true rfl]; rfl) ?_⟩
    generalize upd H4 lb (.lst [u0, u0, u1, u2]) = H5 at s5 q5
    replace tc := tc.same (s4.trans s5)
    replace tr := tr.same (s4.trans s5)
    -- truth, and what is not the same
    refine ⟨_, rfl, 10, _, tc, by decide, noB rfl ?_⟩
    refine fun y1 b1 w1 w2 w3 => ⟨12, [], th_one, by decide, noB rfl ?_⟩
    have s6 := same_made (C := cs 12) w1 w2
    generalize upd (upd H5 b1 (.own y1)) y1 (.ins (cs 12) b1 []) = H6 at s6
    refine fun y2 b2 w4 w5 w6 y3 b3 w7 w8 w9 => ⟨12, 12, [], [], th_one.same (same_made w7 w8), th_one, _, rfl, noB rfl ?_⟩
    have s7 := (same_made (C := cs 12) w4 w5).trans (same_made (C := cs 12) w7 w8)
    generalize upd (upd (upd (upd H6 b2 (.own y2)) y2 (.ins (cs 12) b2 [])) b3 (.own y3)) y3 (.ins (cs 12) b3 []) = H7 at s7
    have q7 := (q5.trans s6).trans s7
    replace tc := tc.same (s6.trans s7)
    replace tr := tr.same (s6.trans s7)
    refine ⟨_, rfl, _, rfl, rfl, rfl, fun x dx w1 w2 ne => made_of (cs := cs) (i := 10) (vs := [u0]) (js := [k0]) (by decide) w1 w2 ne rfl ⟨Zv.same q7 z0, True.intro⟩ (fun H8 s8 tn => ⟨10, 10, [k0], [k0], tc.same s8, tn, _, rfl, noB (by rw [decide_eq_true ⟨rfl, rfl⟩]; rfl) ?_⟩)⟩
    replace tc := tc.same s8
    replace tr := tr.same s8
    have q8 := q7.trans s8
    refine fun y4 b4 w1 w2 w3 => ⟨_, rfl, 12, 10, [], [k0], th_one, tc.same (same_made w1 w2), _, rfl, noB rfl ?_⟩
    have s9 := same_made (C := cs 12) w1 w2
    generalize upd (upd H8 b4 (.own y4)) y4 (.ins (cs 12) b4 []) = H9 at s9
    have q9 := q8.trans s9
    replace tc := tc.same s9
    replace tr := tr.same s9
    -- the odd one
    have leaf : ∀ k : Nat, (zD k).shown.length ≤ sizeLine ∧ (zD k).depth ≤ 60 := fun k => by
      obtain ⟨_, f2, f3⟩ := zd_fine k
      exact ⟨Nat.le_trans f2 (by decide), by omega⟩
    refine ⟨_, rfl, _, rfl, fun x dx w1 w2 ne => made_of (cs := cs) (i := 10) (vs := [u3]) (js := [k3]) (by decide) w1 w2 ne rfl ⟨Zv.same q9 z3, True.intro⟩ (fun H10 s10 tn => ⟨10, 10, [k0], [k3], tc.same s10, tn, ?_⟩)⟩
    replace tc := tc.same s10
    replace tr := tr.same s10
    have q10 := q9.trans s10
    refine ⟨_, rfl, _, _, rfl, .leaf (Zv.same q10 z3), (leaf k3).1, (leaf k3).2, _, rfl, _, _, rfl, .leaf (Zv.same q10 z0), (leaf k0).1, (leaf k0).2, rfl, rfl, _, rfl, noB (by rw [one_eq, shown_eq z3 z0, decide_eq_true rfl]; rfl) ?_⟩
    refine fun y5 b5 w1 w2 w3 => ⟨.ref y5, .ref Vd, _, .ref Vd, _, rfl, .own _, .base (R.fam.ty 12 (by decide) _ _ _ _ upd_same), R.fam.ver 12 (by decide), _, rfl, noB rfl ?_⟩
    have s11 := same_made (C := cs 12) w1 w2
    generalize upd (upd H10 b5 (.own y5)) y5 (.ins (cs 12) b5 []) = H11 at s11
    have q11 := q10.trans s11
    replace tc := tc.same s11
    replace tr := tr.same s11
    -- the rank
    refine ⟨_, rfl, _, rfl, _, rfl, _, rfl, rfl, rfl, fun x dx w1 w2 ne => made_of (cs := cs) (i := 11) (vs := [u0, u1, u2]) (js := [k0, k1, k2]) (by decide) w1 w2 ne rfl ⟨Zv.same q11 z0, Zv.same q11 z1, Zv.same q11 z2, True.intro⟩ (fun H12 s12 tn => ⟨11, 11, _, _, tr.same s12, tn, _, rfl, noB (by rw [decide_eq_true ⟨rfl, rfl⟩]; rfl) ?_⟩)⟩
    have q12 := q11.trans s12
    replace tc := tc.same s12
    replace tr := tr.same s12
    refine ⟨_, rfl, _, rfl, _, rfl, _, rfl, fun x dx w1 w2 ne => made_of (cs := cs) (i := 11) (vs := [u0, u1, u3]) (js := [k0, k1, k3]) (by decide) w1 w2 ne rfl ⟨Zv.same q12 z0, Zv.same q12 z1, Zv.same q12 z3, True.intro⟩ (fun H13 s13 tn => ⟨11, 11, _, _, tr.same s13, tn, ?_⟩)⟩
    have q13 := q12.trans s13
    replace tc := tc.same s13
    replace tr := tr.same s13
    refine ⟨_, rfl, _, _, rfl, .leaf (Zv.same q13 z3), (leaf k3).1, (leaf k3).2, _, rfl, _, _, rfl, .leaf (Zv.same q13 z2), (leaf k2).1, (leaf k2).2, rfl, rfl, _, rfl, noB (by rw [three_eq, shown_eq z3 z2, decide_eq_true rfl]; rfl) ?_⟩
    have tyc := tc
    obtain ⟨_, ac, dxc, gc, ec, hc, _⟩ := tyc
    have tyr := tr
    obtain ⟨_, ar, dxr, gr, er, hr2, _⟩ := tyr
    refine ⟨_, rfl, _, .ref Vd, _, .ref Vd, _, rfl, .own _, by rw [ec]; exact .base (R.fam.ty 10 (by decide) _ _ _ _ hc), R.fam.ver 10 (by decide), _, rfl, yesB rfl ?_⟩
    refine ⟨_, rfl, _, .ref Vd, _, .ref Vd, _, rfl, .own _, by rw [er]; exact .base (R.fam.ty 11 (by decide) _ _ _ _ hr2), R.fam.ver 11 (by decide), _, rfl, _, rfl, yesB rfl ?_⟩
    refine ⟨_, rfl, _, rfl, _, rfl, _, rfl, by show 3 ≤ sizeLine; decide, fun t nt => ?_⟩
    have s14 : Same H13 (upd H13 t (.tup [u0, u1, u2])) := same_new nt
    exact ⟨_, t, _, tr.same s14, rfl, upd_same, post _ (q13.trans s14)⟩
end
end Kpp
namespace Kpp
open PySem PySem.Spec PyProof.Rows L2 Gd
open Kone (Def Pen Keep TxtD same_new)
/-! ### what stands still where a list that is not empty grows -/
theorem Zv.grow {H H' : Hp} {l : Addr} {y : V} {ys : List V} (hl : H l = some (.lst (y :: ys))) (s : ∀ b o, b ≠ l → H b = some o → H' b = some o) : ∀ {k : Nat} {v : V}, Zv H k v → Zv H' k v
  | 0, _, h | 1, _, h | 2, _, h | 3, _, h | 4, _, h | 5, _, h => h
  | 6, _, ⟨a, e, h⟩ => ⟨a, e, s _ _ (ne_of h hl (fun z => nomatch z)) h⟩
  | 7, _, ⟨a, b, c, e, h1, h2, h3⟩ => ⟨a, b, c, e, s _ _ (ne_of h1 hl (fun z => nomatch z)) h1, s _ _ (ne_of h2 hl (fun z => nomatch z)) h2, s _ _ (ne_of h3 hl (fun z => nomatch z)) h3⟩
  | 8, _, ⟨a, e, h⟩ => ⟨a, e, s _ _ (ne_of h hl (fun z => nomatch z)) h⟩
  | 9, _, ⟨a, e, h⟩ => ⟨a, e, s _ _ (ne_of h hl (fun z => nomatch z)) h⟩
  | 10, _, ⟨a, p, q, e, h1, h2, h3⟩ => ⟨a, p, q, e, s _ _ (ne_of h1 hl (fun z => nomatch z)) h1, s _ _ (ne_of h2 hl (fun z => nomatch z)) h2, s _ _ (ne_of h3 hl (fun z => nomatch z)) h3⟩
  | _ + 11, _, h => h.elim
theorem Flds.grow {H H' : Hp} {l : Addr} {y : V} {ys : List V} (hl : H l = some (.lst (y :: ys))) (s : ∀ b o, b ≠ l → H b = some o → H' b = some o) : ∀ {gs : List (Str × V)} {ks : List Nat}, Flds H gs ks → Flds H' gs ks
  | [], [], _ => True.intro
  | _ :: _, _ :: _, ⟨h, r⟩ => ⟨Zv.grow hl s h, Flds.grow hl s r⟩
  | [], _ :: _, h => h.elim
  | _ :: _, [], h => h.elim
theorem Th.grow {cs : Nat → Addr} {H H' : Hp} {l : Addr} {y : V} {ys : List V} (hl : H l = some (.lst (y :: ys))) (s : ∀ b o, b ≠ l → H b = some o → H' b = some o) {i : Nat} {ks : List Nat} {v : V} (h : Th cs H i ks v) : Th cs H' i ks v := by
  obtain ⟨li, a, dx, gs, e, ha, en, fl⟩ := h
  exact ⟨li, a, dx, gs, e, s _ _ (ne_of ha hl (fun z => nomatch z)) ha, en, Flds.grow hl s fl⟩
theorem at_i {xs : List V} {i : Nat} {v : V} (h : xs[i]? = some v) : atI xs (0 + (i : Int)) = some v := by
  have hl : i < xs.length := (List.getElem?_eq_some_iff.mp h).1
  unfold atI ixN
  rw [Int.zero_add, if_pos (Int.natCast_nonneg i), if_pos (by omega)]
  exact h
theorem two_a {i a b c : Nat} : decide (i = i ∧ [a, b] = [c, b]) = decide (c = a) := by
  rw [Bool.eq_iff_iff]
  simp
  exact eq_comm
theorem two_b {i a b c : Nat} : decide (i = i ∧ [a, b] = [a, c]) = decide (c = b) := by
  rw [Bool.eq_iff_iff]
  simp
  exact eq_comm
abbrev sPairs : Stmt := top 29
abbrev NP : List Str := ["_law_told", "_law_one", "_law_two", "_law_odd", "_law_made", "_law_again", "_law_bent", "_law_same", "_law_k", "_law_paper", "_law_other", "_law_at"]
theorem scPairs : FnScope NP ["_law_told"] (defScope sPairs) := ⟨rfl, rfl, rfl, by decide +kernel, rfl, by decide +kernel, by decide +kernel⟩
section
variable {P : Program} {w : World} {K : PySem.W.Frag} {mg : Str → Option Value} {base : Heap} {cs : Nat → Addr} {Vd : Addr}
theorem ok_pairs (R : Lq P w K mg base cs Vd) {f : Addr} {fd : FuncData} (F : Fun K "_law_pairs_right" "_law_pairs_right" sPairs f fd) : FnG P w K mg base CX0 9 f fd ["_law_told"] spTold := by
  obtain ⟨f0, d0, M0, F0, B0, K0⟩ := R.mkr 0 (by decide)
  obtain ⟨f1, d1, M1, F1, B1, K1⟩ := R.mkr 1 (by decide)
  obtain ⟨f2, d2, M2, F2, B2, K2⟩ := R.mkr 2 (by decide)
  obtain ⟨f3, d3, M3, F3, B3, K3⟩ := R.mkr 3 (by decide)
  have g0 : mg "Nought" = some (.ref (cs 0)) := R.nm 0 (by decide)
  have g1 : mg "Alike" = some (.ref (cs 1)) := R.nm 1 (by decide)
  have g2 : mg "Right" = some (.ref (cs 2)) := R.nm 2 (by decide)
  have g3 : mg "Whole" = some (.ref (cs 3)) := R.nm 3 (by decide)
  refine Fun.okG F scPairs (fun vs H Q E h => ?_) (fun cdv A outer s H vs Q E hG hr h => ?_)
  · obtain ⟨a, us, ks, rfl, _⟩ := h
    rfl
  · obtain ⟨a, us, ks, rfl, ha, hz, len, post⟩ := h
    have hG2 : (A.deeper (envOfC "_law_pairs_right" (defScope sPairs) s.heap.objs.size f cdv)).guards = some [] := hG
    have hu := hr.units
    have h7 := hr.mono (show 7 ≤ 8 by decide)
    have h1 := hr.mono (show 1 ≤ 8 by decide)
    have h2 := hr.mono (show 2 ≤ 8 by decide)
    refine ⟨_, pss_cons (ps_par3 (i := 1) (j := 2) (l := 3) (by rfl) scPairs.nd rfl rfl rfl (by decide) (by decide) (by decide) rfl rfl rfl (pa_cons (pe_ix ix_list (pv 0) pe_int (fun _ _ => rfl)) (pa_cons (pe_ix ix_list (pv 0) pe_int (fun _ _ => rfl)) (pa_cons (pe_ix ix_list (pv 0) pe_int (fun _ _ => rfl)) pa_nil))) (by rfl))
      (pss_cons (ps_set (i := 4) scPairs.nd rfl (Or.inl rfl) (pe_lst (pa_cons (pe_make M0 F0 h7 rfl g0 B0 .nil pass0 (pa_cons (pv 1) (pa_cons (pv 2) pa_nil))) (pa_cons (pe_make M1 F1 h7 rfl g1 B1 .nil pass0 (pa_cons (pv 1) (pa_cons (pv 2) pa_nil))) (pa_cons (pe_make M2 F2 h7 rfl g2 B2 .nil pass0 (pa_cons (pv 1) (pa_cons (pv 2) pa_nil))) (pa_cons (pe_make M3 F3 h7 rfl g3 B3 .nil pass0 (pa_cons (pv 1) (pa_cons (pv 2) pa_nil))) pa_nil))))))
      (pss_cons (ps_set (i := 5) scPairs.nd rfl (Or.inl rfl) (pe_lst (pa_cons (pe_makeK0 M0 F0 h7 rfl g0 K0 pass0 (pk_cons (pv 2) (pk_cons (pv 1) pk_nil))) (pa_cons (pe_makeK0 M1 F1 h7 rfl g1 K1 pass0 (pk_cons (pv 2) (pk_cons (pv 1) pk_nil))) (pa_cons (pe_makeK0 M2 F2 h7 rfl g2 K2 pass0 (pk_cons (pv 2) (pk_cons (pv 1) pk_nil))) pa_nil)))))
      (pss_cons (ps_expr (pe_bm PySem.F.plainAttrs_list PySem.F.slot_list_append PySem.F.type_list_append mt_append (pv 5) (pa_cons (pe_makeK0 M3 F3 h7 rfl g3 K3 pass0 (pk_cons (pv 2) (pk_cons (pv 1) pk_nil))) pa_nil)))
      (pss_cons (ps_set (i := 6) scPairs.nd rfl (Or.inl rfl) (pe_lst (pa_cons (pe_make M0 F0 h7 rfl g0 B0 .nil pass0 (pa_cons (pv 3) (pa_cons (pv 2) pa_nil))) (pa_cons (pe_make M1 F1 h7 rfl g1 B1 .nil pass0 (pa_cons (pv 1) (pa_cons (pv 3) pa_nil))) (pa_cons (pe_make M2 F2 h7 rfl g2 B2 .nil pass0 (pa_cons (pv 3) (pa_cons (pv 2) pa_nil))) (pa_cons (pe_make M3 F3 h7 rfl g3 B3 .nil pass0 (pa_cons (pv 1) (pa_cons (pv 3) pa_nil))) pa_nil))))))
      (pss_cons (ps_for PassesOwn.never rfl (pi_range1 rfl R.rng (pa_cons pe_int pa_nil)) (pg_name (i := 8) scPairs.nd rfl (Or.inr rfl))
        (pss_cons (ps_set (i := 9) scPairs.nd rfl (Or.inr rfl) (pe_ix ix_list (pv 4) (pv 8) (fun _ _ => rfl)))
        (pss_cons (ps_if (PW.pt (pw_or (pt_cmpR op_ne (pe_callB (call_reprZ hG2 hu) (by rfl) R.rp bootRepr (pa_cons (pe_lst (pa_cons (pe_fld (pv 9) rfl) (pa_cons (pe_fld (pv 9) rfl) pa_nil))) pa_nil)) (pe_callB (call_reprZ hG2 hu) (by rfl) R.rp bootRepr (pa_cons (pe_lst (pa_cons (pv 1) (pa_cons (pv 2) pa_nil))) pa_nil)) (nomark _)) (pw_or (pt_cmpR (op_neF R.fam h2) (pv 9) (pe_ix ix_list (pv 5) (pv 8) (fun _ _ => rfl)) (nomark _)) (pw_or1 (pt_not (pt_tr (tr_th R.fam h1) (pv 9))))))) (pss_one (ps_ret pe_bl)) pss_nil)
        (pss_cons (ps_set (i := 7) scPairs.nd rfl (Or.inl rfl) (pe_ifExp (pt_cmpR op_in_seq (pv 8) (pe_tup (pa_cons pe_int (pa_cons pe_int pa_nil))) (by with_unfolding_all rfl)) (pe_cmpR op_eq (pe_callB (call_reprZ hG2 hu) (by rfl) R.rp bootRepr (pa_cons (pv 3) pa_nil)) (pe_callB (call_reprZ hG2 hu) (by rfl) R.rp bootRepr (pa_cons (pv 1) pa_nil)) (nomark _)) (pe_cmpR op_eq (pe_callB (call_reprZ hG2 hu) (by rfl) R.rp bootRepr (pa_cons (pv 3) pa_nil)) (pe_callB (call_reprZ hG2 hu) (by rfl) R.rp bootRepr (pa_cons (pv 2) pa_nil)) (nomark _))))
        (pss_cons (ps_if (PW.pt (pw_or (pt_cmpR op_ne (pe_cmpR (op_eqF R.fam h1) (pv 9) (pe_ix ix_list (pv 6) (pv 8) (fun _ _ => rfl)) (nomark _)) (pv 7) (nomark _)) (pw_or1 (pt_not (pt_val (pe_callB call_isi (by rfl) R.isi (by decide +kernel) (pa_cons (pv 9) (pa_cons (pe_glob (v := .ref Vd) rfl R.vd rfl) pa_nil)))))))) (pss_one (ps_ret pe_bl)) pss_nil)
        (pss_one (ps_if (pt_cmpR (op_neD hu) (pe_lc (own := [("_law_at", 11), ("_law_other", 10)]) (g := gTup K 2 (gCons (gName 11) (gCons (gName 10) gNil))) (tt := tAnd (tTest (tOp rNe (tVar 11) (tVar 8))) (tTest (tOp (rEqF cs) (tVar 10) (tVar 9)))) (te := tVar 10) rfl scPairs.nd (pi_enum rfl R.enm (pa_cons (pv 4) pa_nil)) (blkOk_by (N := NP) (sc := defScope sPairs) (by decide +kernel))
            (fun _ _ _ _ _ => pg_tup rfl (pgs_cons (pg_name (i := 11) scPairs.nd rfl (Or.inl rfl)) (pgs_cons (pg_name (i := 10) scPairs.nd rfl (Or.inl rfl)) pgs_nil))) (fun _ _ _ _ _ => pts_one (PW.pt (pw_and (pt_cmpR op_ne (pv 11) (pv 8) (nomark _)) (pw_and1 (pt_cmpR (op_eqF R.fam h1) (pv 10) (pv 9) (nomark _)))))) (fun _ _ _ _ _ => pv 10)) (pe_lst pa_nil) (nomark _)) (pss_one (ps_ret pe_bl)) pss_nil)))))))
      (pss_one (ps_ret pe_bl))))))), ?_⟩
    obtain ⟨u0, u1, u2, u3, u4, k0, k1, k2, k3, k4, rfl, rfl, z0, z1, z2, z3, z4⟩ := five len hz
    refine ⟨_, rfl, a, _, 0, _, rfl, rfl, SqL.of ha, at_zero, _, rfl, a, _, 1, _, rfl, rfl, SqL.of ha, at_one, _, rfl, a, _, 2, _, rfl, rfl, SqL.of ha, at_two, _, _, _, rfl, ?_⟩
    refine ⟨_, rfl, _, rfl, fun x0 dx n1 n2 ne => made_of (cs := cs) (i := 0) (vs := [u0, u1]) (js := [k0, k1]) (by decide) n1 n2 ne rfl ⟨z0, z1, True.intro⟩ (fun H1 s1 m0 => ?_)⟩
    have q1 : Same H H1 := s1
    refine ⟨_, rfl, _, rfl, fun x1 dx n1 n2 ne => made_of (cs := cs) (i := 1) (vs := [u0, u1]) (js := [k0, k1]) (by decide) n1 n2 ne rfl ⟨Zv.same q1 z0, Zv.same q1 z1, True.intro⟩ (fun H2 s2 m1 => ?_)⟩
    replace m0 := m0.same s2
    have q2 : Same H H2 := q1.trans s2
    refine ⟨_, rfl, _, rfl, fun x2 dx n1 n2 ne => made_of (cs := cs) (i := 2) (vs := [u0, u1]) (js := [k0, k1]) (by decide) n1 n2 ne rfl ⟨Zv.same q2 z0, Zv.same q2 z1, True.intro⟩ (fun H3 s3 m2 => ?_)⟩
    replace m0 := m0.same s3
    replace m1 := m1.same s3
    have q3 : Same H H3 := q2.trans s3
    refine ⟨_, rfl, _, rfl, fun x3 dx n1 n2 ne => made_of (cs := cs) (i := 3) (vs := [u0, u1]) (js := [k0, k1]) (by decide) n1 n2 ne rfl ⟨Zv.same q3 z0, Zv.same q3 z1, True.intro⟩ (fun H4 s4 m3 => ?_)⟩
    replace m0 := m0.same s4
    replace m1 := m1.same s4
    replace m2 := m2.same s4
    have q4 : Same H H4 := q3.trans s4
    refine ⟨by show 4 ≤ sizeLine; decide, fun la nla => ?_⟩
    have s5 : Same H4 (upd H4 la (.lst [.ref x0, .ref x1, .ref x2, .ref x3])) := same_new nla
    have hla : upd H4 la (.lst [.ref x0, .ref x1, .ref x2, .ref x3]) la = some (.lst [.ref x0, .ref x1, .ref x2, .ref x3]) := upd_same
    generalize upd H4 la (.lst [.ref x0, .ref x1, .ref x2, .ref x3]) = H5 at s5 hla
    replace m0 := m0.same s5
    replace m1 := m1.same s5
    replace m2 := m2.same s5
    replace m3 := m3.same s5
    have q5 : Same H H5 := q4.trans s5
    refine ⟨_, rfl, _, rfl, rfl, rfl, fun y0 dx n1 n2 ne => made_of (cs := cs) (i := 0) (vs := [u0, u1]) (js := [k0, k1]) (by decide) n1 n2 ne rfl ⟨Zv.same q5 z0, Zv.same q5 z1, True.intro⟩ (fun H6 s6 b0 => ?_)⟩
    have q6 : Same H H6 := q5.trans s6
    refine ⟨_, rfl, _, rfl, rfl, rfl, fun y1 dx n1 n2 ne => made_of (cs := cs) (i := 1) (vs := [u0, u1]) (js := [k0, k1]) (by decide) n1 n2 ne rfl ⟨Zv.same q6 z0, Zv.same q6 z1, True.intro⟩ (fun H7 s7 b1 => ?_)⟩
    have q7 : Same H H7 := q6.trans s7
    replace b0 := b0.same s7
    refine ⟨_, rfl, _, rfl, rfl, rfl, fun y2 dx n1 n2 ne => made_of (cs := cs) (i := 2) (vs := [u0, u1]) (js := [k0, k1]) (by decide) n1 n2 ne rfl ⟨Zv.same q7 z0, Zv.same q7 z1, True.intro⟩ (fun H8 s8 b2 => ?_)⟩
    have q8 : Same H H8 := q7.trans s8
    replace b0 := b0.same s8
    replace b1 := b1.same s8
    refine ⟨by show 3 ≤ sizeLine; decide, fun lb nlb => ?_⟩
    have s9 : Same H8 (upd H8 lb (.lst [.ref y0, .ref y1, .ref y2])) := same_new nlb
    have hlb : upd H8 lb (.lst [.ref y0, .ref y1, .ref y2]) lb = some (.lst [.ref y0, .ref y1, .ref y2]) := upd_same
    generalize upd H8 lb (.lst [.ref y0, .ref y1, .ref y2]) = H9 at s9 hlb
    have q9 : Same H H9 := q8.trans s9
    refine ⟨_, rfl, .inl ⟨rfl, _, SqL.of hlb⟩, _, rfl, _, rfl, rfl, rfl, fun y3 dx n1 n2 ne => made_of (cs := cs) (i := 3) (vs := [u0, u1]) (js := [k0, k1]) (by decide) n1 n2 ne rfl ⟨Zv.same q9 z0, Zv.same q9 z1, True.intro⟩ (fun H10 s10 b3 => ⟨lb, _, _, rfl, rfl, s10 _ _ hlb, by show 3 < sizeLine; decide, ?_⟩)⟩
    replace hlb := s10 _ _ hlb
    have s11 : Same H8 (upd H10 lb (.lst [.ref y0, .ref y1, .ref y2, .ref y3])) := fun b o e => by
      rw [upd_ne (ne_of_none e nlb)]
      exact s10 _ _ (s9 _ _ e)
    replace b3 := b3.grow hlb (H' := upd H10 lb (.lst [.ref y0, .ref y1, .ref y2, .ref y3])) (fun b o e h => by rw [upd_ne e]; exact h)
    replace hlb : upd H10 lb (.lst [.ref y0, .ref y1, .ref y2, .ref y3]) lb = some (.lst [.ref y0, .ref y1, .ref y2, .ref y3]) := upd_same
    replace b0 := b0.same s11
    replace b1 := b1.same s11
    replace b2 := b2.same s11
    have s12 := s6.trans (s7.trans (s8.trans s11))
    replace m0 := m0.same s12
    replace m1 := m1.same s12
    replace m2 := m2.same s12
    replace m3 := m3.same s12
    replace hla := s12 _ _ hla
    have q11 := q8.trans s11
    show tSeq _ _ _ _ (upd H10 lb (.lst [.ref y0, .ref y1, .ref y2, .ref y3]))
    generalize upd H10 lb (.lst [.ref y0, .ref y1, .ref y2, .ref y3]) = H11 at b0 b1 b2 b3 m0 m1 m2 m3 hla hlb q11
    refine ⟨_, rfl, _, rfl, fun w0 dx n1 n2 ne => made_of (cs := cs) (i := 0) (vs := [u2, u1]) (js := [k2, k1]) (by decide) n1 n2 ne rfl ⟨Zv.same q11 z2, Zv.same q11 z1, True.intro⟩ (fun H12 s12 c0 => ?_)⟩
    have q12 : Same H H12 := q11.trans s12
    refine ⟨_, rfl, _, rfl, fun w1 dx n1 n2 ne => made_of (cs := cs) (i := 1) (vs := [u0, u2]) (js := [k0, k2]) (by decide) n1 n2 ne rfl ⟨Zv.same q12 z0, Zv.same q12 z2, True.intro⟩ (fun H13 s13 c1 => ?_)⟩
    have q13 : Same H H13 := q12.trans s13
    replace c0 := c0.same s13
    refine ⟨_, rfl, _, rfl, fun w2 dx n1 n2 ne => made_of (cs := cs) (i := 2) (vs := [u2, u1]) (js := [k2, k1]) (by decide) n1 n2 ne rfl ⟨Zv.same q13 z2, Zv.same q13 z1, True.intro⟩ (fun H14 s14 c2 => ?_)⟩
    have q14 : Same H H14 := q13.trans s14
    replace c0 := c0.same s14
    replace c1 := c1.same s14
    refine ⟨_, rfl, _, rfl, fun w3 dx n1 n2 ne => made_of (cs := cs) (i := 3) (vs := [u0, u2]) (js := [k0, k2]) (by decide) n1 n2 ne rfl ⟨Zv.same q14 z0, Zv.same q14 z2, True.intro⟩ (fun H15 s15 c3 => ?_)⟩
    have q15 : Same H H15 := q14.trans s15
    replace c0 := c0.same s15
    replace c1 := c1.same s15
    replace c2 := c2.same s15
    refine ⟨by show 4 ≤ sizeLine; decide, fun lc nlc => ?_⟩
    have s16 : Same H15 (upd H15 lc (.lst [.ref w0, .ref w1, .ref w2, .ref w3])) := same_new nlc
    have hlc : upd H15 lc (.lst [.ref w0, .ref w1, .ref w2, .ref w3]) lc = some (.lst [.ref w0, .ref w1, .ref w2, .ref w3]) := upd_same
    generalize upd H15 lc (.lst [.ref w0, .ref w1, .ref w2, .ref w3]) = H16 at s16 hlc
    have q16 : Same H H16 := q15.trans s16
    have r16 := s12.trans (s13.trans (s14.trans (s15.trans s16)))
    replace c0 := c0.same s16
    replace c1 := c1.same s16
    replace c2 := c2.same s16
    replace c3 := c3.same s16
    replace b0 := b0.same r16
    replace b1 := b1.same r16
    replace b2 := b2.same r16
    replace b3 := b3.same r16
    replace m0 := m0.same r16
    replace m1 := m1.same r16
    replace m2 := m2.same r16
    replace m3 := m3.same r16
    replace hla := r16 _ _ hla
    replace hlb := r16 _ _ hlb
    refine ⟨4, rfl, by decide, by decide, for_range (n := 4) (fun i σ G => Same H16 G ∧ ∃ v7 v8 v9 v10 v11, σ = [some (.ref a), some u0, some u1, some u2, some (.ref la), some (.ref lb), some (.ref lc), v7, v8, v9, v10, v11]) ?_ ?_ ?_⟩
    · exact ⟨fun b o e => e, _, _, _, _, _, rfl⟩
    · rintro i σ G hi ⟨sg, v7, v8, v9, v10, v11, rfl⟩
      have ths : ∀ (j : Nat) (e : V), [V.ref x0, V.ref x1, V.ref x2, V.ref x3][j]? = some e → Th cs H16 j [k0, k1] e := fun j e h => by
        match j, h with
        | 0, h => cases h; exact m0
        | 1, h => cases h; exact m1
        | 2, h => cases h; exact m2
        | 3, h => cases h; exact m3
        | n + 4, h => simp at h
      have thb : ∀ (j : Nat) (e : V), [V.ref y0, V.ref y1, V.ref y2, V.ref y3][j]? = some e → Th cs H16 j [k0, k1] e := fun j e h => by
        match j, h with
        | 0, h => cases h; exact b0
        | 1, h => cases h; exact b1
        | 2, h => cases h; exact b2
        | 3, h => cases h; exact b3
        | n + 4, h => simp at h
      have thc : ∀ (j : Nat) (e : V), [V.ref w0, V.ref w1, V.ref w2, V.ref w3][j]? = some e → Th cs H16 j (if j = 0 ∨ j = 2 then [k2, k1] else [k0, k2]) e := fun j e h => by
        match j, h with
        | 0, h => cases h; exact c0
        | 1, h => cases h; exact c1
        | 2, h => cases h; exact c2
        | 3, h => cases h; exact c3
        | n + 4, h => simp at h
      obtain ⟨ex, hx⟩ : ∃ e, [V.ref x0, V.ref x1, V.ref x2, V.ref x3][i]? = some e := ⟨_, List.getElem?_eq_getElem (by simpa using hi)⟩
      obtain ⟨ey, hy⟩ : ∃ e, [V.ref y0, V.ref y1, V.ref y2, V.ref y3][i]? = some e := ⟨_, List.getElem?_eq_getElem (by simpa using hi)⟩
      obtain ⟨ec, hc⟩ : ∃ e, [V.ref w0, V.ref w1, V.ref w2, V.ref w3][i]? = some e := ⟨_, List.getElem?_eq_getElem (by simpa using hi)⟩
      have hf0 : (fldN i)[0]? = some ("readings" : Str) := by
        rcases (by omega : i = 0 ∨ i = 1 ∨ i = 2 ∨ i = 3) with rfl | rfl | rfl | rfl <;> rfl
      have hf1 : (fldN i)[1]? = some ("factors" : Str) := by
        rcases (by omega : i = 0 ∨ i = 1 ∨ i = 2 ∨ i = 3) with rfl | rfl | rfl | rfl <;> rfl
      have tru : trB i = true := by
        rcases (by omega : i = 0 ∨ i = 1 ∨ i = 2 ∨ i = 3) with rfl | rfl | rfl | rfl <;> rfl
      refine ⟨_, rfl, _, rfl, la, _, _, ex, rfl, rfl, SqL.of (sg _ _ hla), at_i hx, ?_⟩
      have tx := (ths i ex hx).same sg
      have ty := (thb i ey hy).same sg
      have tc := (thc i ec hc).same sg
      have qG := q16.trans sg
      obtain ⟨a1, C1, d1, g1, p1, e1, h1, c1, n1, l1, y1⟩ := fld_of R.fam tx (n := 0) (f := "readings") hf0 rfl
      obtain ⟨a2, C2, d2, g2, p2, e2, h2, c2, n2, l2, y2⟩ := fld_of R.fam tx (n := 1) (f := "factors") hf1 rfl
      have fs := few_shown (ks := [k0, k1]) (by show 2 ≤ 8; decide)
      refine ⟨_, rfl, a1, C1, d1, g1, p1, e1, h1, c1, n1, l1, _, rfl, a2, C2, d2, g2, p2, e2, h2, c2, n2, l2, by show 2 ≤ sizeLine; decide, fun ld nld => ?_⟩
      have s17 : Same G (upd G ld (.lst [p1, p2])) := same_new nld
      refine ⟨_, _, rfl, .list upd_same (zt_few (ks := [k0, k1]) ⟨Zv.same s17 y1, Zv.same s17 y2, True.intro⟩), fs.1, fs.2, ?_⟩
      generalize upd G ld (.lst [p1, p2]) = G1 at s17
      have q17 := qG.trans s17
      refine ⟨_, rfl, _, rfl, by show 2 ≤ sizeLine; decide, fun le nle => ?_⟩
      have s18 : Same G1 (upd G1 le (.lst [u0, u1])) := same_new nle
      refine ⟨_, _, rfl, .list upd_same (zt_few (ks := [k0, k1]) ⟨Zv.same (q17.trans s18) z0, Zv.same (q17.trans s18) z1, True.intro⟩), fs.1, fs.2, rfl, _, rfl, noB (by rw [decide_eq_true rfl]; rfl) ?_⟩
      generalize upd G1 le (.lst [u0, u1]) = G2 at s18
      have s19 := s17.trans s18
      have q19 := qG.trans s19
      replace tx := tx.same s19
      replace ty := ty.same s19
      replace tc := tc.same s19
      refine ⟨_, rfl, _, rfl, _, rfl, lb, _, _, ey, rfl, rfl, SqL.of (s19 _ _ (sg _ _ hlb)), at_i hy, i, i, _, _, tx, ty, _, rfl, noB (by rw [decide_eq_true ⟨rfl, rfl⟩]; rfl) ?_⟩
      refine ⟨_, rfl, i, _, tx, by omega, noB (by rw [tru]; rfl) ?_⟩
      have leaf : ∀ k : Nat, (zD k).shown.length ≤ sizeLine ∧ (zD k).depth ≤ 60 := fun k => by
        obtain ⟨_, f2, f3⟩ := zd_fine k
        exact ⟨Nat.le_trans f2 (by decide), by omega⟩
      refine ⟨_, rfl, by show 2 ≤ sizeLine; decide, fun lt nlt => ?_⟩
      have s20' : Same G2 (upd G2 lt (.tup [.int 0, .int 2])) := same_new nlt
      refine ⟨lt, _, rfl, .inr (SqT.of upd_same), rfl, rfl, _, rfl, ?_⟩
      generalize upd G2 lt (.tup [.int 0, .int 2]) = G3 at s20'
      have s20 := s19.trans s20'
      have q20 := qG.trans s20
      replace tx := tx.same s20'
      replace tc := tc.same s20'
      by_cases h02 : i = 0 ∨ i = 2
      · rw [if_pos h02] at tc
        refine yesB (by rcases h02 with rfl | rfl <;> rfl) ?_
        refine ⟨_, rfl, _, _, rfl, .leaf (Zv.same q20 z2), (leaf k2).1, (leaf k2).2, _, rfl, _, _, rfl, .leaf (Zv.same q20 z0), (leaf k0).1, (leaf k0).2, rfl, ?_⟩
        refine ⟨_, rfl, _, rfl, _, rfl, lc, _, _, ec, rfl, rfl, SqL.of (s20 _ _ (sg _ _ hlc)), at_i hc, i, i, _, _, tx, tc, _, rfl, rfl, _, rfl, noB (by rw [shown_eq z2 z0, two_a, decide_eq_true rfl]; rfl) ?_⟩
        have tyx := tx
        obtain ⟨_, ax, dxx, gx, exx, hxx, _⟩ := tyx
        refine ⟨_, rfl, _, .ref Vd, _, .ref Vd, _, rfl, .own _, by rw [exx]; exact .base (R.fam.ty i (by omega) _ _ _ _ hxx), R.fam.ver i (by omega), _, rfl, noB (by rw [decide_eq_true (show i ≠ 11 by omega)]; rfl) ?_⟩
        have hlaG := s20 _ _ (sg _ _ hla)
        refine ⟨_, rfl, la, _, rfl, SqL.of hlaG, fun D hD => lc_it walk_enum (fun j G4 => Same G3 G4 ∧ G4 D = some (.lst [])) ⟨same_new hD, upd_same⟩ (fun j G4 _ c => SqL.of (c.1 _ _ hlaG)) ?_ ?_⟩
        · rintro j v G4 G5 hj ⟨sm, hDl⟩ yp
          obtain ⟨t, jv, ev, rfl, ht, rfl, hjv, hev⟩ := yp
          cases hjv
          have s5' : Same G4 (upd G4 t (.tup [.int (j : Nat), ev])) := same_new ht
          have hD5 : upd G4 t (.tup [.int (j : Nat), ev]) D = some (.lst []) := s5' _ _ hDl
          have sq := sm.trans s5'
          refine ⟨t, _, rfl, SqT.of upd_same, rfl, _, _, rfl, _, _, rfl, rfl, rfl, _, rfl, _, rfl, rfl, _, rfl, ?_⟩
          by_cases hji : j = i
          · subst hji
            refine noB (by simp) ?_
            exact ⟨sq, hD5⟩
          · refine yesB (by simp; omega) ?_
            refine ⟨_, rfl, _, rfl, j, i, _, _, ((ths j ev hev).same (sg.trans s20)).same sq, tx.same sq, _, rfl, noB (decide_eq_false (fun c => hji c.1)) ⟨sq, hD5⟩⟩
        · rintro G4 ⟨sm, hDl⟩
          refine ⟨by show 0 ≤ sizeLine; decide, fun lf nlf => ?_⟩
          refine ⟨.list [], .list [], .lst (SqL.of ((same_new nlf) _ _ hDl)) .nil, .lst (SqL.of upd_same) .nil, rfl, rfl, _, rfl, noB rfl ⟨?_, _, _, _, _, _, rfl⟩⟩
          exact ((sg.trans s20).trans sm).trans (same_new nlf)
      · rw [if_neg h02] at tc
        refine noB (by rcases (by omega : i = 1 ∨ i = 3) with rfl | rfl <;> rfl) ?_
        refine ⟨_, rfl, _, _, rfl, .leaf (Zv.same q20 z2), (leaf k2).1, (leaf k2).2, _, rfl, _, _, rfl, .leaf (Zv.same q20 z1), (leaf k1).1, (leaf k1).2, rfl, ?_⟩
        refine ⟨_, rfl, _, rfl, _, rfl, lc, _, _, ec, rfl, rfl, SqL.of (s20 _ _ (sg _ _ hlc)), at_i hc, i, i, _, _, tx, tc, _, rfl, rfl, _, rfl, noB (by rw [shown_eq z2 z1, two_b, decide_eq_true rfl]; rfl) ?_⟩
        have tyx := tx
        obtain ⟨_, ax, dxx, gx, exx, hxx, _⟩ := tyx
        refine ⟨_, rfl, _, .ref Vd, _, .ref Vd, _, rfl, .own _, by rw [exx]; exact .base (R.fam.ty i (by omega) _ _ _ _ hxx), R.fam.ver i (by omega), _, rfl, noB (by rw [decide_eq_true (show i ≠ 11 by omega)]; rfl) ?_⟩
        have hlaG := s20 _ _ (sg _ _ hla)
        refine ⟨_, rfl, la, _, rfl, SqL.of hlaG, fun D hD => lc_it walk_enum (fun j G4 => Same G3 G4 ∧ G4 D = some (.lst [])) ⟨same_new hD, upd_same⟩ (fun j G4 _ c => SqL.of (c.1 _ _ hlaG)) ?_ ?_⟩
        · rintro j v G4 G5 hj ⟨sm, hDl⟩ yp
          obtain ⟨t, jv, ev, rfl, ht, rfl, hjv, hev⟩ := yp
          cases hjv
          have s5' : Same G4 (upd G4 t (.tup [.int (j : Nat), ev])) := same_new ht
          have hD5 : upd G4 t (.tup [.int (j : Nat), ev]) D = some (.lst []) := s5' _ _ hDl
          have sq := sm.trans s5'
          refine ⟨t, _, rfl, SqT.of upd_same, rfl, _, _, rfl, _, _, rfl, rfl, rfl, _, rfl, _, rfl, rfl, _, rfl, ?_⟩
          by_cases hji : j = i
          · subst hji
            refine noB (by simp) ?_
            exact ⟨sq, hD5⟩
          · refine yesB (by simp; omega) ?_
            refine ⟨_, rfl, _, rfl, j, i, _, _, ((ths j ev hev).same (sg.trans s20)).same sq, tx.same sq, _, rfl, noB (decide_eq_false (fun c => hji c.1)) ⟨sq, hD5⟩⟩
        · rintro G4 ⟨sm, hDl⟩
          refine ⟨by show 0 ≤ sizeLine; decide, fun lf nlf => ?_⟩
          refine ⟨.list [], .list [], .lst (SqL.of ((same_new nlf) _ _ hDl)) .nil, .lst (SqL.of upd_same) .nil, rfl, rfl, _, rfl, noB rfl ⟨?_, _, _, _, _, _, rfl⟩⟩
          exact ((sg.trans s20).trans sm).trans (same_new nlf)
    · rintro σ G ⟨sg, v7, v8, v9, v10, v11, rfl⟩
      exact post _ (q16.trans sg)
end
end Kpp
namespace Kpp
open PySem PySem.Spec PyProof.Rows L2 Gd
open Kone (Def Pen Keep TxtD same_new)
theorem three_c {i a b c d : Nat} : decide (i = i ∧ [a, b, c] = [a, b, d]) = decide (d = c) := by
  rw [Bool.eq_iff_iff]
  simp
  exact eq_comm
theorem four_d {i a b c d e : Nat} : decide (i = i ∧ [a, b, c, d] = [a, b, c, e]) = decide (e = d) := by
  rw [Bool.eq_iff_iff]
  simp
  exact eq_comm
theorem yesY {σ : L2.St} {H : Hp} {F G : Hp → Prop} (h : F H) : tYes σ H (fun b H3 => if b = true then F H3 else G H3) := by
  show (if (true : Bool) = true then F H else G H)
  rw [if_pos rfl]
  exact h
/-- the end of _law_wrongs_right -/
theorem wro_end {K : PySem.W.Frag} {cs : Nat → Addr} {H : Hp} {D : Ends} {s0 s1 s2 s3 s4 s5 s7 s8 s9 s12 s13 : Option V} {lc lw lu : Addr} {x0 x1 x2 x3 w0 w1 w2 w3 : V} {more : List V} {k0 k1 k2 k3 k4 : Nat}
    (hlc : H lc = some (.lst (x0 :: x1 :: x2 :: x3 :: more))) (hlw : H lw = some (.lst [w0, w1, w2, w3])) (m0 : Th cs H 4 [k0, k1] x0) (m1 : Th cs H 5 [k0, k1, k2] x1) (m2 : Th cs H 6 [k0, k1, k2, k3] x2) (m3 : Th cs H 7 [k0, k1, k2, k3] x3)
    (c0 : Th cs H 4 [k0, k4] w0) (c1 : Th cs H 5 [k0, k1, k4] w1) (c2 : Th cs H 6 [k0, k1, k2, k4] w2) (c3 : Th cs H 7 [k0, k1, k2, k4] w3)
    (hlu : H lu = some (.lst [V.bl (decide (k4 = k1)), V.bl (decide (k4 = k2)), V.bl (decide (k4 = k3)), V.bl (decide (k4 = k3))])) (post : ∀ H', Same H H' → D.rt (.bl true) H') :
    tRet (tOp (rEqD K) (tLc (iRng1 (tCons (tC (V.int 4)) tNil)) (gName 9) tYes (tOp (rEqF cs) (tOp (rIxL K) (tVar 6) (tVar 9)) (tOp (rIxL K) (tVar 10) (tVar 9))) (List.map (fun x => x.snd) [(("_law_k" : Str), 9)])) (tVar 11)) D
      [s0, s1, s2, s3, s4, s5, some (.ref lc), s7, s8, s9, some (.ref lw), some (.ref lu), s12, s13] H := by
  refine ⟨4, rfl, by decide, by decide, fun D hD => lc_range (lo := 0) (n := 4) (fun j G4 => Same H G4 ∧ G4 D = some (.lst ([V.bl (decide (k4 = k1)), V.bl (decide (k4 = k2)), V.bl (decide (k4 = k3)), V.bl (decide (k4 = k3))].take j))) ⟨same_new hD, upd_same⟩ ?_ ?_⟩
  · rintro j G4 hj ⟨sm, hDl⟩
    have neD : ∀ b u, H b = some u → b ≠ D := fun b u e => ne_of_none e hD
    rcases (by omega : j = 0 ∨ j = 1 ∨ j = 2 ∨ j = 3) with rfl | rfl | rfl | rfl
    · refine ⟨rfl, yesY ?_⟩
      refine ⟨_, rfl, _, rfl, lc, _, _, x0, rfl, rfl, SqL.of (sm _ _ hlc), at_i (i := 0) rfl, _, rfl, _, rfl, lw, _, _, w0, rfl, rfl, SqL.of (sm _ _ hlw), at_i (i := 0) rfl, 4, 4, _, _, m0.same sm, c0.same sm, _, hDl, by show 0 < sizeLine; decide, ?_, ?_⟩
      · exact fun b u e => by rw [upd_ne (neD b u e)]; exact sm b u e
      · rw [upd_same, two_b]; rfl
    · refine ⟨rfl, yesY ?_⟩
      refine ⟨_, rfl, _, rfl, lc, _, _, x1, rfl, rfl, SqL.of (sm _ _ hlc), at_i (i := 1) rfl, _, rfl, _, rfl, lw, _, _, w1, rfl, rfl, SqL.of (sm _ _ hlw), at_i (i := 1) rfl, 5, 5, _, _, m1.same sm, c1.same sm, _, hDl, by show 1 < sizeLine; decide, ?_, ?_⟩
      · exact fun b u e => by rw [upd_ne (neD b u e)]; exact sm b u e
      · rw [upd_same, three_c]; rfl
    · refine ⟨rfl, yesY ?_⟩
      refine ⟨_, rfl, _, rfl, lc, _, _, x2, rfl, rfl, SqL.of (sm _ _ hlc), at_i (i := 2) rfl, _, rfl, _, rfl, lw, _, _, w2, rfl, rfl, SqL.of (sm _ _ hlw), at_i (i := 2) rfl, 6, 6, _, _, m2.same sm, c2.same sm, _, hDl, by show 2 < sizeLine; decide, ?_, ?_⟩
      · exact fun b u e => by rw [upd_ne (neD b u e)]; exact sm b u e
      · rw [upd_same, four_d]; rfl
    · refine ⟨rfl, yesY ?_⟩
      refine ⟨_, rfl, _, rfl, lc, _, _, x3, rfl, rfl, SqL.of (sm _ _ hlc), at_i (i := 3) rfl, _, rfl, _, rfl, lw, _, _, w3, rfl, rfl, SqL.of (sm _ _ hlw), at_i (i := 3) rfl, 7, 7, _, _, m3.same sm, c3.same sm, _, hDl, by show 3 < sizeLine; decide, ?_, ?_⟩
      · exact fun b u e => by rw [upd_ne (neD b u e)]; exact sm b u e
      · rw [upd_same, four_d]; rfl
  · rintro G4 ⟨sm, hDl⟩
    refine ⟨_, rfl, .list [.bool _, .bool _, .bool _, .bool _], .list [.bool _, .bool _, .bool _, .bool _], .lst (SqL.of hDl) (.cons (.bl _) (.cons (.bl _) (.cons (.bl _) (.cons (.bl _) .nil)))), .lst (SqL.of (sm _ _ hlu)) (.cons (.bl _) (.cons (.bl _) (.cons (.bl _) (.cons (.bl _) .nil)))), rfl, rfl, ?_⟩
    rw [SeqAt.eqv_refl _ rfl]
    exact post _ sm
end Kpp
namespace Kpp
open PySem PySem.Spec PyProof.Rows L2 Gd
open Kone (Def Pen Keep TxtD same_new)
abbrev sWro : Stmt := top 30
abbrev NW : List Str := ["_law_told", "_law_one", "_law_two", "_law_three", "_law_four", "_law_odd", "_law_made", "_law_kept", "_law_again", "_law_k", "_law_bent", "_law_due", "_law_paper", "_law_j"]
theorem scWro : FnScope NW ["_law_told"] (defScope sWro) := ⟨rfl, rfl, rfl, by decide +kernel, rfl, by decide +kernel, by decide +kernel⟩
theorem few_len {ks : List Nat} (h : ks.length ≤ 8) : (PyData.list (ks.map zD)).shown.length ≤ 5000 ∧ (PyData.list (ks.map zD)).depth ≤ 4 := by
  have all : ∀ ks : List Nat, ((PyData.shownAll (ks.map zD)).map (·.length)).sum ≤ 100 * ks.length ∧ (PyData.shownAll (ks.map zD)).length = ks.length ∧ PyData.depthAll (ks.map zD) ≤ 3 := by
    intro ks
    induction ks with
    | nil => exact ⟨Nat.le_refl _, rfl, by decide⟩
    | cons k ks ih =>
      obtain ⟨i1, i2, i3⟩ := ih
      obtain ⟨_, f2, f3⟩ := zd_fine k
      rw [List.map_cons, PyData.shownAll, PyData.depthAll, List.map_cons, List.sum_cons, List.length_cons, List.length_cons, i2]
      exact ⟨by omega, rfl, Nat.max_le.mpr ⟨f3, i3⟩⟩
  obtain ⟨a1, a2, a3⟩ := all ks
  rw [PyData.shown, PyData.depth]
  refine ⟨?_, by omega⟩
  have z := listText_len_le (PyData.shownAll (ks.map zD))
  refine Nat.le_trans z ?_
  omega
abbrev zDL (ks : List Nat) : PyData := .list (ks.map zD)
/-- lists of lists of the eleven values -/
theorem deep_shown {kss : List (List Nat)} (h : kss.length ≤ 8) (h8 : ∀ ks ∈ kss, ks.length ≤ 8) : (PyData.list (kss.map zDL)).shown.length ≤ sizeLine ∧ (PyData.list (kss.map zDL)).depth ≤ 60 := by
  have all : ∀ kss : List (List Nat), (∀ ks ∈ kss, ks.length ≤ 8) → ((PyData.shownAll (kss.map zDL)).map (·.length)).sum ≤ 5000 * kss.length ∧ (PyData.shownAll (kss.map zDL)).length = kss.length ∧ PyData.depthAll (kss.map zDL) ≤ 4 := by
    intro kss
    induction kss with
    | nil => exact fun _ => ⟨Nat.le_refl _, rfl, by decide⟩
    | cons k ks ih =>
      intro h8
      obtain ⟨i1, i2, i3⟩ := ih (fun x m => h8 x (List.mem_cons_of_mem _ m))
      obtain ⟨f2, f3⟩ := few_len (h8 k (List.mem_cons_self ..))
      rw [List.map_cons, PyData.shownAll, PyData.depthAll, List.map_cons, List.sum_cons, List.length_cons, List.length_cons, i2]
      refine ⟨?_, rfl, Nat.max_le.mpr ⟨f3, i3⟩⟩
      generalize ((PyData.shownAll (ks.map zDL)).map (·.length)).sum = S at i1 ⊢
      refine Nat.le_trans (Nat.add_le_add f2 i1) ?_
      omega
  obtain ⟨a1, a2, a3⟩ := all kss h8
  rw [PyData.shown, PyData.depth]
  refine ⟨?_, by omega⟩
  have z := listText_len_le (PyData.shownAll (kss.map zDL))
  refine Nat.le_trans z (Nat.le_trans ?_ (show 50000 ≤ sizeLine by decide))
  omega
theorem at_four {a b c d e : V} {r : List V} : atI (a :: b :: c :: d :: e :: r) 4 = some e := by
  unfold atI ixN
  rw [if_pos (by decide), if_pos (by simp; omega)]
  rfl
theorem at_five {a b c d e f : V} {r : List V} : atI (a :: b :: c :: d :: e :: f :: r) 5 = some f := by
  unfold atI ixN
  rw [if_pos (by decide), if_pos (by simp; omega)]
  rfl
theorem gset {i : Nat} {x : V} {σ σ2 : L2.St} {H : Hp} {K : L2.St → Hp → Prop} (e : σ.set i (some x) = σ2) (h : K σ2 H) : gName i x σ H K := by
  show K (σ.set i (some x)) H
  rw [e]
  exact h
section
variable {P : Program} {w : World} {K : PySem.W.Frag} {mg : Str → Option Value} {base : Heap} {cs : Nat → Addr} {Vd : Addr}
theorem ok_wro (R : Lq P w K mg base cs Vd) {f : Addr} {fd : FuncData} (F : Fun K "_law_wrongs_right" "_law_wrongs_right" sWro f fd) : FnG P w K mg base CX0 9 f fd ["_law_told"] spTold := by
  obtain ⟨f4, d4, M4, F4, B4, K4⟩ := R.mkr 4 (by decide)
  obtain ⟨f5, d5, M5, F5, B5, K5⟩ := R.mkr 5 (by decide)
  obtain ⟨f6, d6, M6, F6, B6, K6⟩ := R.mkr 6 (by decide)
  obtain ⟨f7, d7, M7, F7, B7, K7⟩ := R.mkr 7 (by decide)
  obtain ⟨f8, d8, M8, F8, B8, K8⟩ := R.mkr 8 (by decide)
  obtain ⟨f9, d9, M9, F9, B9, K9⟩ := R.mkr 9 (by decide)
  have g4 : mg "Somewhere" = some (.ref (cs 4)) := R.nm 4 (by decide)
  have g5 : mg "Apart" = some (.ref (cs 5)) := R.nm 5 (by decide)
  have g6 : mg "Wrong" = some (.ref (cs 6)) := R.nm 6 (by decide)
  have g7 : mg "Torn" = some (.ref (cs 7)) := R.nm 7 (by decide)
  have g8 : mg "Uncovered" = some (.ref (cs 8)) := R.nm 8 (by decide)
  have g9 : mg "TwoWays" = some (.ref (cs 9)) := R.nm 9 (by decide)
  refine Fun.okG F scWro (fun vs H Q E h => ?_) (fun cdv A outer s H vs Q E hG hr h => ?_)
  · obtain ⟨a, us, ks, rfl, _⟩ := h
    rfl
  · obtain ⟨a, us, ks, rfl, ha, hz, len, post⟩ := h
    have hG2 : (A.deeper (envOfC "_law_wrongs_right" (defScope sWro) s.heap.objs.size f cdv)).guards = some [] := hG
    have hu := hr.units
    have h7 := hr.mono (show 7 ≤ 8 by decide)
    have h1 := hr.mono (show 1 ≤ 8 by decide)
    have h2 := hr.mono (show 2 ≤ 8 by decide)
    refine ⟨_, (pss_cons (ps_asg (pv 0) (pg_unl (by rfl) (pgs_cons (pg_name (i := 1) scWro.nd rfl (Or.inl rfl)) (pgs_cons (pg_name (i := 2) scWro.nd rfl (Or.inl rfl)) (pgs_cons (pg_name (i := 3) scWro.nd rfl (Or.inl rfl)) (pgs_cons (pg_name (i := 4) scWro.nd rfl (Or.inl rfl)) (pgs_cons (pg_name (i := 5) scWro.nd rfl (Or.inl rfl)) pgs_nil)))))))
      (pss_cons (ps_set (i := 6) scWro.nd rfl (Or.inr rfl) (pe_lst (pa_cons (pe_make M4 F4 h7 rfl g4 B4 .nil pass0 (pa_cons (pv 1) (pa_cons (pv 2) pa_nil))) (pa_cons (pe_make M5 F5 h7 rfl g5 B5 .nil pass0 (pa_cons (pv 1) (pa_cons (pv 2) (pa_cons (pv 3) pa_nil)))) (pa_cons (pe_make M6 F6 h7 rfl g6 B6 .nil pass0 (pa_cons (pv 1) (pa_cons (pv 2) (pa_cons (pv 3) (pa_cons (pv 4) pa_nil))))) (pa_cons (pe_make M7 F7 h7 rfl g7 B7 .nil pass0 (pa_cons (pv 1) (pa_cons (pv 2) (pa_cons (pv 3) (pa_cons (pv 4) pa_nil))))) pa_nil))))))
      (pss_cons (ps_set (i := 6) scWro.nd rfl (Or.inr rfl) (pe_op op_cat (pv 6) (pe_lst (pa_cons (pe_make M8 F8 h7 rfl g8 B8 .nil pass0 (pa_cons (pv 1) (pa_cons (pv 2) (pa_cons (pv 3) (pa_cons (pv 4) pa_nil))))) (pa_cons (pe_make M9 F9 h7 rfl g9 B9 .nil pass0 (pa_cons (pv 1) pa_nil)) pa_nil)))))
      (pss_cons (ps_set (i := 7) scWro.nd rfl (Or.inl rfl) (pe_lst (pa_cons (pe_lst (pa_cons (pe_fld (pe_ix ix_list (pv 6) pe_int (fun _ _ => rfl)) rfl) (pa_cons (pe_fld (pe_ix ix_list (pv 6) pe_int (fun _ _ => rfl)) rfl) pa_nil))) (pa_cons (pe_lst (pa_cons (pe_fld (pe_ix ix_list (pv 6) pe_int (fun _ _ => rfl)) rfl) (pa_cons (pe_fld (pe_ix ix_list (pv 6) pe_int (fun _ _ => rfl)) rfl) (pa_cons (pe_fld (pe_ix ix_list (pv 6) pe_int (fun _ _ => rfl)) rfl) pa_nil)))) pa_nil))))
      (pss_cons (ps_expr (pe_bm PySem.F.plainAttrs_list PySem.F.slot_list_append PySem.F.type_list_append mt_append (pv 7) (pa_cons (pe_lst (pa_cons (pe_fld (pe_ix ix_list (pv 6) pe_int (fun _ _ => rfl)) rfl) (pa_cons (pe_fld (pe_ix ix_list (pv 6) pe_int (fun _ _ => rfl)) rfl) (pa_cons (pe_fld (pe_ix ix_list (pv 6) pe_int (fun _ _ => rfl)) rfl) (pa_cons (pe_fld (pe_ix ix_list (pv 6) pe_int (fun _ _ => rfl)) rfl) pa_nil))))) pa_nil)))
      (pss_cons (ps_expr (pe_bm PySem.F.plainAttrs_list PySem.F.slot_list_append PySem.F.type_list_append mt_append (pv 7) (pa_cons (pe_lst (pa_cons (pe_fld (pe_ix ix_list (pv 6) pe_int (fun _ _ => rfl)) rfl) (pa_cons (pe_fld (pe_ix ix_list (pv 6) pe_int (fun _ _ => rfl)) rfl) (pa_cons (pe_fld (pe_ix ix_list (pv 6) pe_int (fun _ _ => rfl)) rfl) (pa_cons (pe_fld (pe_ix ix_list (pv 6) pe_int (fun _ _ => rfl)) rfl) pa_nil))))) pa_nil)))
      (pss_cons (ps_expr (pe_bm PySem.F.plainAttrs_list PySem.F.slot_list_append PySem.F.type_list_append mt_append (pv 7) (pa_cons (pe_lst (pa_cons (pe_fld (pe_ix ix_list (pv 6) pe_int (fun _ _ => rfl)) rfl) (pa_cons (pe_fld (pe_ix ix_list (pv 6) pe_int (fun _ _ => rfl)) rfl) (pa_cons (pe_fld (pe_ix ix_list (pv 6) pe_int (fun _ _ => rfl)) rfl) (pa_cons (pe_fld (pe_ix ix_list (pv 6) pe_int (fun _ _ => rfl)) rfl) pa_nil))))) pa_nil)))
      (pss_cons (ps_expr (pe_bm PySem.F.plainAttrs_list PySem.F.slot_list_append PySem.F.type_list_append mt_append (pv 7) (pa_cons (pe_lst (pa_cons (pe_fld (pe_ix ix_list (pv 6) pe_int (fun _ _ => rfl)) rfl) pa_nil)) pa_nil)))
      (pss_cons (ps_if (pt_cmpR op_ne (pe_callB (call_reprZ hG2 hu) (by rfl) R.rp bootRepr (pa_cons (pv 7) pa_nil)) (pe_callB (call_reprZ hG2 hu) (by rfl) R.rp bootRepr (pa_cons (pe_op op_cat (pe_op op_cat (pe_lst (pa_cons (pe_lst (pa_cons (pv 1) (pa_cons (pv 2) pa_nil))) (pa_cons (pe_lst (pa_cons (pv 1) (pa_cons (pv 2) (pa_cons (pv 3) pa_nil)))) pa_nil))) (pe_op op_rep (pe_lst (pa_cons (pe_lst (pa_cons (pv 1) (pa_cons (pv 2) (pa_cons (pv 3) (pa_cons (pv 4) pa_nil))))) pa_nil)) pe_int)) (pe_lst (pa_cons (pe_lst (pa_cons (pv 1) pa_nil)) pa_nil))) pa_nil)) (nomark _)) (pss_one (ps_ret pe_bl)) pss_nil)
      (pss_cons (ps_if (pt_cmpR (op_neD hu) (pe_lc (own := [("_law_paper", 12)]) (g := gName 12) (tt := tOr (tTr (rTrF cs) (tVar 12)) (tNot (tB (tCB (rIsi K) (tCons (tVar 12) (tCons (tC (.ref Vd)) tNil)))))) (te := tVar 12) rfl scWro.nd (pi_list (pv 6)) (blkOk_by (N := NW) (sc := defScope sWro) (by decide +kernel)) (fun _ _ _ _ _ => pg_name (i := 12) scWro.nd rfl (Or.inl rfl)) (fun _ _ _ _ _ => pts_one (PW.pt (pw_or (pt_tr (tr_th R.fam h1) (pv 12)) (pw_or1 (pt_not (pt_val (pe_callB call_isi (by rfl) R.isi (by decide +kernel) (pa_cons (pv 12) (pa_cons (pe_glob (v := .ref Vd) rfl R.vd rfl) pa_nil))))))))) (fun _ _ _ _ _ => pv 12)) (pe_lst pa_nil) (nomark _)) (pss_one (ps_ret pe_bl)) pss_nil)
      (pss_cons (ps_set (i := 8) scWro.nd rfl (Or.inl rfl) (pe_lst (pa_cons (pe_makeK0 M4 F4 h7 rfl g4 K4 pass0 (pk_cons (pv 2) (pk_cons (pv 1) pk_nil))) (pa_cons (pe_makeK0 M5 F5 h7 rfl g5 K5 pass0 (pk_cons (pv 3) (pk_cons (pv 2) (pk_cons (pv 1) pk_nil)))) pa_nil))))
      (pss_cons (ps_expr (pe_bm PySem.F.plainAttrs_list PySem.F.slot_list_append PySem.F.type_list_append mt_append (pv 8) (pa_cons (pe_makeK0 M6 F6 h7 rfl g6 K6 pass0 (pk_cons (pv 4) (pk_cons (pv 3) (pk_cons (pv 2) (pk_cons (pv 1) pk_nil))))) pa_nil)))
      (pss_cons (ps_expr (pe_bm PySem.F.plainAttrs_list PySem.F.slot_list_append PySem.F.type_list_append mt_append (pv 8) (pa_cons (pe_makeK0 M7 F7 h7 rfl g7 K7 pass0 (pk_cons (pv 4) (pk_cons (pv 3) (pk_cons (pv 2) (pk_cons (pv 1) pk_nil))))) pa_nil)))
      (pss_cons (ps_set (i := 8) scWro.nd rfl (Or.inl rfl) (pe_op op_cat (pv 8) (pe_lst (pa_cons (pe_makeK0 M8 F8 h7 rfl g8 K8 pass0 (pk_cons (pv 4) (pk_cons (pv 3) (pk_cons (pv 2) (pk_cons (pv 1) pk_nil))))) (pa_cons (pe_makeK0 M9 F9 h7 rfl g9 K9 pass0 (pk_cons (pv 1) pk_nil)) pa_nil)))))
      (pss_cons (ps_if (pt_cmpR (op_neL mon_th (eqG_th R.fam) h2) (pv 6) (pv 8) (nomark _)) (pss_one (ps_ret pe_bl)) pss_nil)
      (pss_cons (ps_for PassesOwn.never rfl (pi_range1 rfl R.rng (pa_cons pe_int pa_nil)) (pg_name (i := 9) scWro.nd rfl (Or.inr rfl)) (pss_one (ps_if (pt_cmpR (op_neD hu) (pe_lc (own := [("_law_j", 13)]) (g := gName 13) (tt := tTest (tOp rNe (tOp (rEqF cs) (tOp (rIxL K) (tVar 6) (tVar 9)) (tOp (rIxL K) (tVar 6) (tVar 13))) (tOp rEq (tVar 9) (tVar 13)))) (te := tVar 13) rfl scWro.nd (pi_range1 rfl R.rng (pa_cons pe_int pa_nil)) (blkOk_by (N := NW) (sc := defScope sWro) (by decide +kernel)) (fun _ _ _ _ _ => pg_name (i := 13) scWro.nd rfl (Or.inl rfl)) (fun _ _ _ _ _ => pts_one (pt_cmpR op_ne (pe_cmpR (op_eqF R.fam h1) (pe_ix ix_list (pv 6) (pv 9) (fun _ _ => rfl)) (pe_ix ix_list (pv 6) (pv 13) (fun _ _ => rfl)) (nomark _)) (pe_cmpR op_eq (pv 9) (pv 13) (nomark _)) (nomark _))) (fun _ _ _ _ _ => pv 13)) (pe_lst pa_nil) (nomark _)) (pss_one (ps_ret pe_bl)) pss_nil)))
      (pss_cons (ps_set (i := 10) scWro.nd rfl (Or.inr rfl) (pe_lst (pa_cons (pe_make M4 F4 h7 rfl g4 B4 .nil pass0 (pa_cons (pv 1) (pa_cons (pv 5) pa_nil))) (pa_cons (pe_make M5 F5 h7 rfl g5 B5 .nil pass0 (pa_cons (pv 1) (pa_cons (pv 2) (pa_cons (pv 5) pa_nil)))) (pa_cons (pe_make M6 F6 h7 rfl g6 B6 .nil pass0 (pa_cons (pv 1) (pa_cons (pv 2) (pa_cons (pv 3) (pa_cons (pv 5) pa_nil))))) (pa_cons (pe_make M7 F7 h7 rfl g7 B7 .nil pass0 (pa_cons (pv 1) (pa_cons (pv 2) (pa_cons (pv 3) (pa_cons (pv 5) pa_nil))))) pa_nil))))))
      (pss_cons (ps_set (i := 11) scWro.nd rfl (Or.inl rfl) (pe_lst (pa_cons (pe_cmpR op_eq (pe_callB (call_reprZ hG2 hu) (by rfl) R.rp bootRepr (pa_cons (pv 5) pa_nil)) (pe_callB (call_reprZ hG2 hu) (by rfl) R.rp bootRepr (pa_cons (pv 2) pa_nil)) (nomark _)) (pa_cons (pe_cmpR op_eq (pe_callB (call_reprZ hG2 hu) (by rfl) R.rp bootRepr (pa_cons (pv 5) pa_nil)) (pe_callB (call_reprZ hG2 hu) (by rfl) R.rp bootRepr (pa_cons (pv 3) pa_nil)) (nomark _)) (pa_cons (pe_cmpR op_eq (pe_callB (call_reprZ hG2 hu) (by rfl) R.rp bootRepr (pa_cons (pv 5) pa_nil)) (pe_callB (call_reprZ hG2 hu) (by rfl) R.rp bootRepr (pa_cons (pv 4) pa_nil)) (nomark _)) (pa_cons (pe_cmpR op_eq (pe_callB (call_reprZ hG2 hu) (by rfl) R.rp bootRepr (pa_cons (pv 5) pa_nil)) (pe_callB (call_reprZ hG2 hu) (by rfl) R.rp bootRepr (pa_cons (pv 4) pa_nil)) (nomark _)) pa_nil))))))
      (pss_one (ps_ret (pe_cmpR (op_eqD hu) (pe_lc (own := [("_law_k", 9)]) (g := gName 9) (tt := tYes) (te := tOp (rEqF cs) (tOp (rIxL K) (tVar 6) (tVar 9)) (tOp (rIxL K) (tVar 10) (tVar 9))) rfl scWro.nd (pi_range1 rfl R.rng (pa_cons pe_int pa_nil)) (blkOk_by (N := NW) (sc := defScope sWro) (by decide +kernel)) (fun _ _ _ _ _ => pg_name (i := 9) scWro.nd rfl (Or.inl rfl)) (fun _ _ _ _ _ => pts_nil) (fun _ _ _ _ _ => pe_cmpR (op_eqF R.fam h1) (pe_ix ix_list (pv 6) (pv 9) (fun _ _ => rfl)) (pe_ix ix_list (pv 10) (pv 9) (fun _ _ => rfl)) (nomark _))) (pv 11) (nomark _)))))))))))))))))))))), ?_⟩
    obtain ⟨u0, u1, u2, u3, u4, k0, k1, k2, k3, k4, rfl, rfl, z0, z1, z2, z3, z4⟩ := five len hz
    have q0 : Same H H := fun b o e => e
    refine ⟨_, rfl, a, _, rfl, SqL.of ha, rfl, _, _, rfl, _, _, rfl, _, _, rfl, _, _, rfl, _, _, rfl, rfl, ?_⟩
    refine ⟨_, rfl, _, rfl, fun x0 dx n1 n2 ne => made_of (cs := cs) (i := 4) (vs := [u0, u1]) (js := [k0, k1]) (by decide) n1 n2 ne rfl ⟨Zv.same q0 z0, Zv.same q0 z1, True.intro⟩ (fun H1 s1 m0 => ?_)⟩
    have q1 : Same H H1 := q0.trans s1
    refine ⟨_, rfl, _, rfl, _, rfl, fun x1 dx n1 n2 ne => made_of (cs := cs) (i := 5) (vs := [u0, u1, u2]) (js := [k0, k1, k2]) (by decide) n1 n2 ne rfl ⟨Zv.same q1 z0, Zv.same q1 z1, Zv.same q1 z2, True.intro⟩ (fun H2 s2 m1 => ?_)⟩
    have q2 : Same H H2 := q1.trans s2
    replace m0 := m0.same s2
    refine ⟨_, rfl, _, rfl, _, rfl, _, rfl, fun x2 dx n1 n2 ne => made_of (cs := cs) (i := 6) (vs := [u0, u1, u2, u3]) (js := [k0, k1, k2, k3]) (by decide) n1 n2 ne rfl ⟨Zv.same q2 z0, Zv.same q2 z1, Zv.same q2 z2, Zv.same q2 z3, True.intro⟩ (fun H3 s3 m2 => ?_)⟩
    have q3 : Same H H3 := q2.trans s3
    replace m0 := m0.same s3
    replace m1 := m1.same s3
    refine ⟨_, rfl, _, rfl, _, rfl, _, rfl, fun x3 dx n1 n2 ne => made_of (cs := cs) (i := 7) (vs := [u0, u1, u2, u3]) (js := [k0, k1, k2, k3]) (by decide) n1 n2 ne rfl ⟨Zv.same q3 z0, Zv.same q3 z1, Zv.same q3 z2, Zv.same q3 z3, True.intro⟩ (fun H4 s4 m3 => ?_)⟩
    have q4 : Same H H4 := q3.trans s4
    replace m0 := m0.same s4
    replace m1 := m1.same s4
    replace m2 := m2.same s4
    refine ⟨by show 4 ≤ sizeLine; decide, fun la nla => ?_⟩
    have s5 : Same H4 (upd H4 la (.lst [.ref x0, .ref x1, .ref x2, .ref x3])) := same_new nla
    have hla : upd H4 la (.lst [.ref x0, .ref x1, .ref x2, .ref x3]) la = some (.lst [.ref x0, .ref x1, .ref x2, .ref x3]) := upd_same
    generalize upd H4 la (.lst [.ref x0, .ref x1, .ref x2, .ref x3]) = H5 at s5 hla
    have q5 : Same H H5 := q4.trans s5
    replace m0 := m0.same s5
    replace m1 := m1.same s5
    replace m2 := m2.same s5
    replace m3 := m3.same s5
    refine ⟨_, rfl, ?_⟩
    refine ⟨_, rfl, _, rfl, _, rfl, _, rfl, fun x4 dx n1 n2 ne => made_of (cs := cs) (i := 8) (vs := [u0, u1, u2, u3]) (js := [k0, k1, k2, k3]) (by decide) n1 n2 ne rfl ⟨Zv.same q5 z0, Zv.same q5 z1, Zv.same q5 z2, Zv.same q5 z3, True.intro⟩ (fun H6 s6 m4 => ?_)⟩
    have q6 : Same H H6 := q5.trans s6
    replace m0 := m0.same s6
    replace m1 := m1.same s6
    replace m2 := m2.same s6
    replace m3 := m3.same s6
    replace hla := s6 _ _ hla
    refine ⟨_, rfl, fun x5 dx n1 n2 ne => made_of (cs := cs) (i := 9) (vs := [u0]) (js := [k0]) (by decide) n1 n2 ne rfl ⟨Zv.same q6 z0, True.intro⟩ (fun H7 s7 m5 => ?_)⟩
    have q7 : Same H H7 := q6.trans s7
    replace m0 := m0.same s7
    replace m1 := m1.same s7
    replace m2 := m2.same s7
    replace m3 := m3.same s7
    replace m4 := m4.same s7
    replace hla := s7 _ _ hla
    refine ⟨by show 2 ≤ sizeLine; decide, fun lb nlb => ?_⟩
    have s8 : Same H7 (upd H7 lb (.lst [.ref x4, .ref x5])) := same_new nlb
    have hlb : upd H7 lb (.lst [.ref x4, .ref x5]) lb = some (.lst [.ref x4, .ref x5]) := upd_same
    generalize upd H7 lb (.lst [.ref x4, .ref x5]) = H8 at s8 hlb
    have q8 : Same H H8 := q7.trans s8
    replace m0 := m0.same s8
    replace m1 := m1.same s8
    replace m2 := m2.same s8
    replace m3 := m3.same s8
    replace m4 := m4.same s8
    replace m5 := m5.same s8
    replace hla := s8 _ _ hla
    refine ⟨la, lb, _, _, rfl, rfl, hla, hlb, by show 6 ≤ sizeLine; decide, fun lc nlc => ?_⟩
    have s9 : Same H8 (upd H8 lc (.lst [.ref x0, .ref x1, .ref x2, .ref x3, .ref x4, .ref x5])) := same_new nlc
    have hlc : upd H8 lc (.lst [.ref x0, .ref x1, .ref x2, .ref x3, .ref x4, .ref x5]) lc = some (.lst [.ref x0, .ref x1, .ref x2, .ref x3, .ref x4, .ref x5]) := upd_same
    show gName _ _ _ (upd H8 lc (.lst [.ref x0, .ref x1, .ref x2, .ref x3, .ref x4, .ref x5])) _
    generalize upd H8 lc (.lst [.ref x0, .ref x1, .ref x2, .ref x3, .ref x4, .ref x5]) = H9 at s9 hlc
    have q9 : Same H H9 := q8.trans s9
    replace m0 := m0.same s9
    replace m1 := m1.same s9
    replace m2 := m2.same s9
    replace m3 := m3.same s9
    replace m4 := m4.same s9
    replace m5 := m5.same s9
    replace hla := s9 _ _ hla
    replace hlb := s9 _ _ hlb
    obtain ⟨a00, C00, d00, g00, p00, e00, h00, c00, n00, l00, y00⟩ := fld_of R.fam m0 (n := 0) (f := "words") rfl rfl
    obtain ⟨a01, C01, d01, g01, p01, e01, h01, c01, n01, l01, y01⟩ := fld_of R.fam m0 (n := 1) (f := "value") rfl rfl
    refine ⟨_, rfl, lc, _, 0, _, rfl, rfl, SqL.of hlc, at_zero, a00, C00, d00, g00, p00, e00, h00, c00, n00, l00, _, rfl, lc, _, 0, _, rfl, rfl, SqL.of hlc, at_zero, a01, C01, d01, g01, p01, e01, h01, c01, n01, l01, by show 2 ≤ sizeLine; decide, fun lk0 nlk0 => ?_⟩
    have s10 : Same H9 (upd H9 lk0 (.lst [p00, p01])) := same_new nlk0
    have hk0 : upd H9 lk0 (.lst [p00, p01]) lk0 = some (.lst [p00, p01]) := upd_same
    generalize upd H9 lk0 (.lst [p00, p01]) = H10 at s10 hk0
    have q10 : Same H H10 := q9.trans s10
    replace m0 := m0.same s10
    replace m1 := m1.same s10
    replace m2 := m2.same s10
    replace m3 := m3.same s10
    replace m4 := m4.same s10
    replace m5 := m5.same s10
    replace hla := s10 _ _ hla
    replace hlb := s10 _ _ hlb
    replace hlc := s10 _ _ hlc
    replace y00 := Zv.same s10 y00
    replace y01 := Zv.same s10 y01
    obtain ⟨a10, C10, d10, g10, p10, e10, h10, c10, n10, l10, y10⟩ := fld_of R.fam m1 (n := 0) (f := "words") rfl rfl
    obtain ⟨a11, C11, d11, g11, p11, e11, h11, c11, n11, l11, y11⟩ := fld_of R.fam m1 (n := 1) (f := "one") rfl rfl
    obtain ⟨a12, C12, d12, g12, p12, e12, h12, c12, n12, l12, y12⟩ := fld_of R.fam m1 (n := 2) (f := "other") rfl rfl
    refine ⟨_, rfl, lc, _, 1, _, rfl, rfl, SqL.of hlc, at_one, a10, C10, d10, g10, p10, e10, h10, c10, n10, l10, _, rfl, lc, _, 1, _, rfl, rfl, SqL.of hlc, at_one, a11, C11, d11, g11, p11, e11, h11, c11, n11, l11, _, rfl, lc, _, 1, _, rfl, rfl, SqL.of hlc, at_one, a12, C12, d12, g12, p12, e12, h12, c12, n12, l12, by show 3 ≤ sizeLine; decide, fun lk1 nlk1 => ?_⟩
    have s11 : Same H10 (upd H10 lk1 (.lst [p10, p11, p12])) := same_new nlk1
    have hk1 : upd H10 lk1 (.lst [p10, p11, p12]) lk1 = some (.lst [p10, p11, p12]) := upd_same
    generalize upd H10 lk1 (.lst [p10, p11, p12]) = H11 at s11 hk1
    have q11 : Same H H11 := q10.trans s11
    replace m0 := m0.same s11
    replace m1 := m1.same s11
    replace m2 := m2.same s11
    replace m3 := m3.same s11
    replace m4 := m4.same s11
    replace m5 := m5.same s11
    replace hla := s11 _ _ hla
    replace hlb := s11 _ _ hlb
    replace hlc := s11 _ _ hlc
    replace hk0 := s11 _ _ hk0
    replace y00 := Zv.same s11 y00
    replace y01 := Zv.same s11 y01
    replace y10 := Zv.same s11 y10
    replace y11 := Zv.same s11 y11
    replace y12 := Zv.same s11 y12
    refine ⟨by show 2 ≤ sizeLine; decide, fun lk nlk => ?_⟩
    have ne_hla : la ≠ lk := ne_of_none hla nlk
    have ne_hlb : lb ≠ lk := ne_of_none hlb nlk
    have ne_hlc : lc ≠ lk := ne_of_none hlc nlk
    have ne_hk0 : lk0 ≠ lk := ne_of_none hk0 nlk
    have ne_hk1 : lk1 ≠ lk := ne_of_none hk1 nlk
    have nB : ∀ b o, H b = some o → b ≠ lk := fun b o e => ne_of_none (q11 _ _ e) nlk
    have s12 : Same H11 (upd H11 lk (.lst [.ref lk0, .ref lk1])) := same_new nlk
    have hlk : upd H11 lk (.lst [.ref lk0, .ref lk1]) lk = some (.lst [.ref lk0, .ref lk1]) := upd_same
    generalize upd H11 lk (.lst [.ref lk0, .ref lk1]) = H12 at s12 hlk
    have q12 : Same H H12 := q11.trans s12
    replace m0 := m0.same s12
    replace m1 := m1.same s12
    replace m2 := m2.same s12
    replace m3 := m3.same s12
    replace m4 := m4.same s12
    replace m5 := m5.same s12
    replace hla := s12 _ _ hla
    replace hlb := s12 _ _ hlb
    replace hlc := s12 _ _ hlc
    replace hk0 := s12 _ _ hk0
    replace hk1 := s12 _ _ hk1
    replace y00 := Zv.same s12 y00
    replace y01 := Zv.same s12 y01
    replace y10 := Zv.same s12 y10
    replace y11 := Zv.same s12 y11
    replace y12 := Zv.same s12 y12
    refine ⟨_, rfl, ?_⟩
    refine ⟨.inl ⟨rfl, _, SqL.of hlk⟩, ?_⟩
    obtain ⟨a20, C20, d20, g20, p20, e20, h20, c20, n20, l20, y20⟩ := fld_of R.fam m2 (n := 0) (f := "entry") rfl rfl
    obtain ⟨a21, C21, d21, g21, p21, e21, h21, c21, n21, l21, y21⟩ := fld_of R.fam m2 (n := 1) (f := "question") rfl rfl
    obtain ⟨a22, C22, d22, g22, p22, e22, h22, c22, n22, l22, y22⟩ := fld_of R.fam m2 (n := 2) (f := "told") rfl rfl
    obtain ⟨a23, C23, d23, g23, p23, e23, h23, c23, n23, l23, y23⟩ := fld_of R.fam m2 (n := 3) (f := "due") rfl rfl
    refine ⟨_, rfl, lc, _, 2, _, rfl, rfl, SqL.of hlc, at_two, a20, C20, d20, g20, p20, e20, h20, c20, n20, l20, _, rfl, lc, _, 2, _, rfl, rfl, SqL.of hlc, at_two, a21, C21, d21, g21, p21, e21, h21, c21, n21, l21, _, rfl, lc, _, 2, _, rfl, rfl, SqL.of hlc, at_two, a22, C22, d22, g22, p22, e22, h22, c22, n22, l22, _, rfl, lc, _, 2, _, rfl, rfl, SqL.of hlc, at_two, a23, C23, d23, g23, p23, e23, h23, c23, n23, l23, by show 4 ≤ sizeLine; decide, fun lk2 nlk2 => ?_⟩
    have ne_hk2 : lk2 ≠ lk := fun e => ne_of_none hlk nlk2 e.symm
    have s13 : Same H12 (upd H12 lk2 (.lst [p20, p21, p22, p23])) := same_new nlk2
    have hk2 : upd H12 lk2 (.lst [p20, p21, p22, p23]) lk2 = some (.lst [p20, p21, p22, p23]) := upd_same
    generalize upd H12 lk2 (.lst [p20, p21, p22, p23]) = H13 at s13 hk2
    have q13 : Same H H13 := q12.trans s13
    replace m0 := m0.same s13
    replace m1 := m1.same s13
    replace m2 := m2.same s13
    replace m3 := m3.same s13
    replace m4 := m4.same s13
    replace m5 := m5.same s13
    replace hla := s13 _ _ hla
    replace hlb := s13 _ _ hlb
    replace hlc := s13 _ _ hlc
    replace hk0 := s13 _ _ hk0
    replace hk1 := s13 _ _ hk1
    replace hlk := s13 _ _ hlk
    replace y00 := Zv.same s13 y00
    replace y01 := Zv.same s13 y01
    replace y10 := Zv.same s13 y10
    replace y11 := Zv.same s13 y11
    replace y12 := Zv.same s13 y12
    replace y20 := Zv.same s13 y20
    replace y21 := Zv.same s13 y21
    replace y22 := Zv.same s13 y22
    replace y23 := Zv.same s13 y23

    refine ⟨lk, _, _, rfl, rfl, hlk, by show 2 < sizeLine; decide, ?_⟩
    have gr : ∀ b u, b ≠ lk → H13 b = some u → upd H13 lk (.lst [.ref lk0, .ref lk1, .ref lk2]) b = some u := fun b u e h => by rw [upd_ne e]; exact h
    have q14 : Same H (upd H13 lk (.lst [.ref lk0, .ref lk1, .ref lk2])) := fun b u e => gr b u (nB b u e) (q13 _ _ e)
    replace m0 := m0.grow hlk gr
    replace m1 := m1.grow hlk gr
    replace m2 := m2.grow hlk gr
    replace m3 := m3.grow hlk gr
    replace m4 := m4.grow hlk gr
    replace m5 := m5.grow hlk gr
    replace y00 := Zv.grow hlk gr y00
    replace y01 := Zv.grow hlk gr y01
    replace y10 := Zv.grow hlk gr y10
    replace y11 := Zv.grow hlk gr y11
    replace y12 := Zv.grow hlk gr y12
    replace y20 := Zv.grow hlk gr y20
    replace y21 := Zv.grow hlk gr y21
    replace y22 := Zv.grow hlk gr y22
    replace y23 := Zv.grow hlk gr y23
    replace hla := gr _ _ ne_hla hla
    replace hlb := gr _ _ ne_hlb hlb
    replace hlc := gr _ _ ne_hlc hlc
    replace hk0 := gr _ _ ne_hk0 hk0
    replace hk1 := gr _ _ ne_hk1 hk1
    replace hk2 := gr _ _ ne_hk2 hk2
    replace hlk : upd H13 lk (.lst [.ref lk0, .ref lk1, .ref lk2]) lk = some (.lst [.ref lk0, .ref lk1, .ref lk2]) := upd_same
    clear gr
    show tSeq _ _ _ _ (upd H13 lk (.lst [.ref lk0, .ref lk1, .ref lk2]))
    generalize upd H13 lk (.lst [.ref lk0, .ref lk1, .ref lk2]) = H14 at q14 hlk m0 m1 m2 m3 m4 m5 y00 y01 y10 y11 y12 y20 y21 y22 y23 hla hlb hlc hk0 hk1 hk2
    refine ⟨_, rfl, ?_⟩
    refine ⟨.inl ⟨rfl, _, SqL.of hlk⟩, ?_⟩
    obtain ⟨a30, C30, d30, g30, p30, e30, h30, c30, n30, l30, y30⟩ := fld_of R.fam m3 (n := 0) (f := "entry") rfl rfl
    obtain ⟨a31, C31, d31, g31, p31, e31, h31, c31, n31, l31, y31⟩ := fld_of R.fam m3 (n := 1) (f := "question") rfl rfl
    obtain ⟨a32, C32, d32, g32, p32, e32, h32, c32, n32, l32, y32⟩ := fld_of R.fam m3 (n := 2) (f := "cell") rfl rfl
    obtain ⟨a33, C33, d33, g33, p33, e33, h33, c33, n33, l33, y33⟩ := fld_of R.fam m3 (n := 3) (f := "worth") rfl rfl
    refine ⟨_, rfl, lc, _, 3, _, rfl, rfl, SqL.of hlc, at_three, a30, C30, d30, g30, p30, e30, h30, c30, n30, l30, _, rfl, lc, _, 3, _, rfl, rfl, SqL.of hlc, at_three, a31, C31, d31, g31, p31, e31, h31, c31, n31, l31, _, rfl, lc, _, 3, _, rfl, rfl, SqL.of hlc, at_three, a32, C32, d32, g32, p32, e32, h32, c32, n32, l32, _, rfl, lc, _, 3, _, rfl, rfl, SqL.of hlc, at_three, a33, C33, d33, g33, p33, e33, h33, c33, n33, l33, by show 4 ≤ sizeLine; decide, fun lk3 nlk3 => ?_⟩
    have ne_hk3 : lk3 ≠ lk := fun e => ne_of_none hlk nlk3 e.symm
    have s15 : Same H14 (upd H14 lk3 (.lst [p30, p31, p32, p33])) := same_new nlk3
    have hk3 : upd H14 lk3 (.lst [p30, p31, p32, p33]) lk3 = some (.lst [p30, p31, p32, p33]) := upd_same
    generalize upd H14 lk3 (.lst [p30, p31, p32, p33]) = H15 at s15 hk3
    have q15 : Same H H15 := q14.trans s15
    replace m0 := m0.same s15
    replace m1 := m1.same s15
    replace m2 := m2.same s15
    replace m3 := m3.same s15
    replace m4 := m4.same s15
    replace m5 := m5.same s15
    replace hla := s15 _ _ hla
    replace hlb := s15 _ _ hlb
    replace hlc := s15 _ _ hlc
    replace hk0 := s15 _ _ hk0
    replace hk1 := s15 _ _ hk1
    replace hlk := s15 _ _ hlk
    replace hk2 := s15 _ _ hk2
    replace y00 := Zv.same s15 y00
    replace y01 := Zv.same s15 y01
    replace y10 := Zv.same s15 y10
    replace y11 := Zv.same s15 y11
    replace y12 := Zv.same s15 y12
    replace y20 := Zv.same s15 y20
    replace y21 := Zv.same s15 y21
    replace y22 := Zv.same s15 y22
    replace y23 := Zv.same s15 y23
    replace y30 := Zv.same s15 y30
    replace y31 := Zv.same s15 y31
    replace y32 := Zv.same s15 y32
    replace y33 := Zv.same s15 y33

    refine ⟨lk, _, _, rfl, rfl, hlk, by show 3 < sizeLine; decide, ?_⟩
    have gr : ∀ b u, b ≠ lk → H15 b = some u → upd H15 lk (.lst [.ref lk0, .ref lk1, .ref lk2, .ref lk3]) b = some u := fun b u e h => by rw [upd_ne e]; exact h
    have q16 : Same H (upd H15 lk (.lst [.ref lk0, .ref lk1, .ref lk2, .ref lk3])) := fun b u e => gr b u (nB b u e) (q15 _ _ e)
    replace m0 := m0.grow hlk gr
    replace m1 := m1.grow hlk gr
    replace m2 := m2.grow hlk gr
    replace m3 := m3.grow hlk gr
    replace m4 := m4.grow hlk gr
    replace m5 := m5.grow hlk gr
    replace y00 := Zv.grow hlk gr y00
    replace y01 := Zv.grow hlk gr y01
    replace y10 := Zv.grow hlk gr y10
    replace y11 := Zv.grow hlk gr y11
    replace y12 := Zv.grow hlk gr y12
    replace y20 := Zv.grow hlk gr y20
    replace y21 := Zv.grow hlk gr y21
    replace y22 := Zv.grow hlk gr y22
    replace y23 := Zv.grow hlk gr y23
    replace y30 := Zv.grow hlk gr y30
    replace y31 := Zv.grow hlk gr y31
    replace y32 := Zv.grow hlk gr y32
    replace y33 := Zv.grow hlk gr y33
    replace hla := gr _ _ ne_hla hla
    replace hlb := gr _ _ ne_hlb hlb
    replace hlc := gr _ _ ne_hlc hlc
    replace hk0 := gr _ _ ne_hk0 hk0
    replace hk1 := gr _ _ ne_hk1 hk1
    replace hk2 := gr _ _ ne_hk2 hk2
    replace hk3 := gr _ _ ne_hk3 hk3
    replace hlk : upd H15 lk (.lst [.ref lk0, .ref lk1, .ref lk2, .ref lk3]) lk = some (.lst [.ref lk0, .ref lk1, .ref lk2, .ref lk3]) := upd_same
    clear gr
    show tSeq _ _ _ _ (upd H15 lk (.lst [.ref lk0, .ref lk1, .ref lk2, .ref lk3]))
    generalize upd H15 lk (.lst [.ref lk0, .ref lk1, .ref lk2, .ref lk3]) = H16 at q16 hlk m0 m1 m2 m3 m4 m5 y00 y01 y10 y11 y12 y20 y21 y22 y23 y30 y31 y32 y33 hla hlb hlc hk0 hk1 hk2 hk3
    refine ⟨_, rfl, ?_⟩
    refine ⟨.inl ⟨rfl, _, SqL.of hlk⟩, ?_⟩
    obtain ⟨a40, C40, d40, g40, p40, e40, h40, c40, n40, l40, y40⟩ := fld_of R.fam m4 (n := 0) (f := "entry") rfl rfl
    obtain ⟨a41, C41, d41, g41, p41, e41, h41, c41, n41, l41, y41⟩ := fld_of R.fam m4 (n := 1) (f := "question") rfl rfl
    obtain ⟨a42, C42, d42, g42, p42, e42, h42, c42, n42, l42, y42⟩ := fld_of R.fam m4 (n := 2) (f := "told") rfl rfl
    obtain ⟨a43, C43, d43, g43, p43, e43, h43, c43, n43, l43, y43⟩ := fld_of R.fam m4 (n := 3) (f := "due") rfl rfl
    refine ⟨_, rfl, lc, _, 4, _, rfl, rfl, SqL.of hlc, at_four, a40, C40, d40, g40, p40, e40, h40, c40, n40, l40, _, rfl, lc, _, 4, _, rfl, rfl, SqL.of hlc, at_four, a41, C41, d41, g41, p41, e41, h41, c41, n41, l41, _, rfl, lc, _, 4, _, rfl, rfl, SqL.of hlc, at_four, a42, C42, d42, g42, p42, e42, h42, c42, n42, l42, _, rfl, lc, _, 4, _, rfl, rfl, SqL.of hlc, at_four, a43, C43, d43, g43, p43, e43, h43, c43, n43, l43, by show 4 ≤ sizeLine; decide, fun lk4 nlk4 => ?_⟩
    have ne_hk4 : lk4 ≠ lk := fun e => ne_of_none hlk nlk4 e.symm
    have s17 : Same H16 (upd H16 lk4 (.lst [p40, p41, p42, p43])) := same_new nlk4
    have hk4 : upd H16 lk4 (.lst [p40, p41, p42, p43]) lk4 = some (.lst [p40, p41, p42, p43]) := upd_same
    generalize upd H16 lk4 (.lst [p40, p41, p42, p43]) = H17 at s17 hk4
    have q17 : Same H H17 := q16.trans s17
    replace m0 := m0.same s17
    replace m1 := m1.same s17
    replace m2 := m2.same s17
    replace m3 := m3.same s17
    replace m4 := m4.same s17
    replace m5 := m5.same s17
    replace hla := s17 _ _ hla
    replace hlb := s17 _ _ hlb
    replace hlc := s17 _ _ hlc
    replace hk0 := s17 _ _ hk0
    replace hk1 := s17 _ _ hk1
    replace hlk := s17 _ _ hlk
    replace hk2 := s17 _ _ hk2
    replace hk3 := s17 _ _ hk3
    replace y00 := Zv.same s17 y00
    replace y01 := Zv.same s17 y01
    replace y10 := Zv.same s17 y10
    replace y11 := Zv.same s17 y11
    replace y12 := Zv.same s17 y12
    replace y20 := Zv.same s17 y20
    replace y21 := Zv.same s17 y21
    replace y22 := Zv.same s17 y22
    replace y23 := Zv.same s17 y23
    replace y30 := Zv.same s17 y30
    replace y31 := Zv.same s17 y31
    replace y32 := Zv.same s17 y32
    replace y33 := Zv.same s17 y33
    replace y40 := Zv.same s17 y40
    replace y41 := Zv.same s17 y41
    replace y42 := Zv.same s17 y42
    replace y43 := Zv.same s17 y43

    refine ⟨lk, _, _, rfl, rfl, hlk, by show 4 < sizeLine; decide, ?_⟩
    have gr : ∀ b u, b ≠ lk → H17 b = some u → upd H17 lk (.lst [.ref lk0, .ref lk1, .ref lk2, .ref lk3, .ref lk4]) b = some u := fun b u e h => by rw [upd_ne e]; exact h
    have q18 : Same H (upd H17 lk (.lst [.ref lk0, .ref lk1, .ref lk2, .ref lk3, .ref lk4])) := fun b u e => gr b u (nB b u e) (q17 _ _ e)
    replace m0 := m0.grow hlk gr
    replace m1 := m1.grow hlk gr
    replace m2 := m2.grow hlk gr
    replace m3 := m3.grow hlk gr
    replace m4 := m4.grow hlk gr
    replace m5 := m5.grow hlk gr
    replace y00 := Zv.grow hlk gr y00
    replace y01 := Zv.grow hlk gr y01
    replace y10 := Zv.grow hlk gr y10
    replace y11 := Zv.grow hlk gr y11
    replace y12 := Zv.grow hlk gr y12
    replace y20 := Zv.grow hlk gr y20
    replace y21 := Zv.grow hlk gr y21
    replace y22 := Zv.grow hlk gr y22
    replace y23 := Zv.grow hlk gr y23
    replace y30 := Zv.grow hlk gr y30
    replace y31 := Zv.grow hlk gr y31
    replace y32 := Zv.grow hlk gr y32
    replace y33 := Zv.grow hlk gr y33
    replace y40 := Zv.grow hlk gr y40
    replace y41 := Zv.grow hlk gr y41
    replace y42 := Zv.grow hlk gr y42
    replace y43 := Zv.grow hlk gr y43
    replace hla := gr _ _ ne_hla hla
    replace hlb := gr _ _ ne_hlb hlb
    replace hlc := gr _ _ ne_hlc hlc
    replace hk0 := gr _ _ ne_hk0 hk0
    replace hk1 := gr _ _ ne_hk1 hk1
    replace hk2 := gr _ _ ne_hk2 hk2
    replace hk3 := gr _ _ ne_hk3 hk3
    replace hk4 := gr _ _ ne_hk4 hk4
    replace hlk : upd H17 lk (.lst [.ref lk0, .ref lk1, .ref lk2, .ref lk3, .ref lk4]) lk = some (.lst [.ref lk0, .ref lk1, .ref lk2, .ref lk3, .ref lk4]) := upd_same
    clear gr
    show tSeq _ _ _ _ (upd H17 lk (.lst [.ref lk0, .ref lk1, .ref lk2, .ref lk3, .ref lk4]))
    generalize upd H17 lk (.lst [.ref lk0, .ref lk1, .ref lk2, .ref lk3, .ref lk4]) = H18 at q18 hlk m0 m1 m2 m3 m4 m5 y00 y01 y10 y11 y12 y20 y21 y22 y23 y30 y31 y32 y33 y40 y41 y42 y43 hla hlb hlc hk0 hk1 hk2 hk3 hk4
    refine ⟨_, rfl, ?_⟩
    refine ⟨.inl ⟨rfl, _, SqL.of hlk⟩, ?_⟩
    obtain ⟨a50, C50, d50, g50, p50, e50, h50, c50, n50, l50, y50⟩ := fld_of R.fam m5 (n := 0) (f := "words") rfl rfl
    refine ⟨_, rfl, lc, _, 5, _, rfl, rfl, SqL.of hlc, at_five, a50, C50, d50, g50, p50, e50, h50, c50, n50, l50, by show 1 ≤ sizeLine; decide, fun lk5 nlk5 => ?_⟩
    have ne_hk5 : lk5 ≠ lk := fun e => ne_of_none hlk nlk5 e.symm
    have s19 : Same H18 (upd H18 lk5 (.lst [p50])) := same_new nlk5
    have hk5 : upd H18 lk5 (.lst [p50]) lk5 = some (.lst [p50]) := upd_same
    generalize upd H18 lk5 (.lst [p50]) = H19 at s19 hk5
    have q19 : Same H H19 := q18.trans s19
    replace m0 := m0.same s19
    replace m1 := m1.same s19
    replace m2 := m2.same s19
    replace m3 := m3.same s19
    replace m4 := m4.same s19
    replace m5 := m5.same s19
    replace hla := s19 _ _ hla
    replace hlb := s19 _ _ hlb
    replace hlc := s19 _ _ hlc
    replace hk0 := s19 _ _ hk0
    replace hk1 := s19 _ _ hk1
    replace hlk := s19 _ _ hlk
    replace hk2 := s19 _ _ hk2
    replace hk3 := s19 _ _ hk3
    replace hk4 := s19 _ _ hk4
    replace y00 := Zv.same s19 y00
    replace y01 := Zv.same s19 y01
    replace y10 := Zv.same s19 y10
    replace y11 := Zv.same s19 y11
    replace y12 := Zv.same s19 y12
    replace y20 := Zv.same s19 y20
    replace y21 := Zv.same s19 y21
    replace y22 := Zv.same s19 y22
    replace y23 := Zv.same s19 y23
    replace y30 := Zv.same s19 y30
    replace y31 := Zv.same s19 y31
    replace y32 := Zv.same s19 y32
    replace y33 := Zv.same s19 y33
    replace y40 := Zv.same s19 y40
    replace y41 := Zv.same s19 y41
    replace y42 := Zv.same s19 y42
    replace y43 := Zv.same s19 y43
    replace y50 := Zv.same s19 y50

    refine ⟨lk, _, _, rfl, rfl, hlk, by show 5 < sizeLine; decide, ?_⟩
    have gr : ∀ b u, b ≠ lk → H19 b = some u → upd H19 lk (.lst [.ref lk0, .ref lk1, .ref lk2, .ref lk3, .ref lk4, .ref lk5]) b = some u := fun b u e h => by rw [upd_ne e]; exact h
    have q20 : Same H (upd H19 lk (.lst [.ref lk0, .ref lk1, .ref lk2, .ref lk3, .ref lk4, .ref lk5])) := fun b u e => gr b u (nB b u e) (q19 _ _ e)
    replace m0 := m0.grow hlk gr
    replace m1 := m1.grow hlk gr
    replace m2 := m2.grow hlk gr
    replace m3 := m3.grow hlk gr
    replace m4 := m4.grow hlk gr
    replace m5 := m5.grow hlk gr
    replace y00 := Zv.grow hlk gr y00
    replace y01 := Zv.grow hlk gr y01
    replace y10 := Zv.grow hlk gr y10
    replace y11 := Zv.grow hlk gr y11
    replace y12 := Zv.grow hlk gr y12
    replace y20 := Zv.grow hlk gr y20
    replace y21 := Zv.grow hlk gr y21
    replace y22 := Zv.grow hlk gr y22
    replace y23 := Zv.grow hlk gr y23
    replace y30 := Zv.grow hlk gr y30
    replace y31 := Zv.grow hlk gr y31
    replace y32 := Zv.grow hlk gr y32
    replace y33 := Zv.grow hlk gr y33
    replace y40 := Zv.grow hlk gr y40
    replace y41 := Zv.grow hlk gr y41
    replace y42 := Zv.grow hlk gr y42
    replace y43 := Zv.grow hlk gr y43
    replace y50 := Zv.grow hlk gr y50
    replace hla := gr _ _ ne_hla hla
    replace hlb := gr _ _ ne_hlb hlb
    replace hlc := gr _ _ ne_hlc hlc
    replace hk0 := gr _ _ ne_hk0 hk0
    replace hk1 := gr _ _ ne_hk1 hk1
    replace hk2 := gr _ _ ne_hk2 hk2
    replace hk3 := gr _ _ ne_hk3 hk3
    replace hk4 := gr _ _ ne_hk4 hk4
    replace hk5 := gr _ _ ne_hk5 hk5
    replace hlk : upd H19 lk (.lst [.ref lk0, .ref lk1, .ref lk2, .ref lk3, .ref lk4, .ref lk5]) lk = some (.lst [.ref lk0, .ref lk1, .ref lk2, .ref lk3, .ref lk4, .ref lk5]) := upd_same
    clear gr
    show tSeq _ _ _ _ (upd H19 lk (.lst [.ref lk0, .ref lk1, .ref lk2, .ref lk3, .ref lk4, .ref lk5]))
    generalize upd H19 lk (.lst [.ref lk0, .ref lk1, .ref lk2, .ref lk3, .ref lk4, .ref lk5]) = H20 at q20 hlk m0 m1 m2 m3 m4 m5 y00 y01 y10 y11 y12 y20 y21 y22 y23 y30 y31 y32 y33 y40 y41 y42 y43 y50 hla hlb hlc hk0 hk1 hk2 hk3 hk4 hk5
    have fd : _ := deep_shown (kss := [[k0, k1], [k0, k1, k2], [k0, k1, k2, k3], [k0, k1, k2, k3], [k0, k1, k2, k3], [k0]]) (by show 6 ≤ 8; decide) (by simp)
    refine ⟨_, rfl, _, _, rfl, .list hlk (.cons (.list hk0 (zt_few (ks := [k0, k1]) ⟨y00, y01, True.intro⟩)) (.cons (.list hk1 (zt_few (ks := [k0, k1, k2]) ⟨y10, y11, y12, True.intro⟩)) (.cons (.list hk2 (zt_few (ks := [k0, k1, k2, k3]) ⟨y20, y21, y22, y23, True.intro⟩)) (.cons (.list hk3 (zt_few (ks := [k0, k1, k2, k3]) ⟨y30, y31, y32, y33, True.intro⟩)) (.cons (.list hk4 (zt_few (ks := [k0, k1, k2, k3]) ⟨y40, y41, y42, y43, True.intro⟩)) (.cons (.list hk5 (zt_few (ks := [k0]) ⟨y50, True.intro⟩)) (.nil))))))), fd.1, fd.2, ?_⟩
    refine ⟨_, rfl, _, rfl, by show 2 ≤ sizeLine; decide, fun r0 nr0 => ?_⟩
    have s21 : Same H20 (upd H20 r0 (.lst [u0, u1])) := same_new nr0
    have hr0 : upd H20 r0 (.lst [u0, u1]) r0 = some (.lst [u0, u1]) := upd_same
    generalize upd H20 r0 (.lst [u0, u1]) = H21 at s21 hr0
    have q21 : Same H H21 := q20.trans s21
    replace m0 := m0.same s21
    replace m1 := m1.same s21
    replace m2 := m2.same s21
    replace m3 := m3.same s21
    replace m4 := m4.same s21
    replace m5 := m5.same s21
    replace hla := s21 _ _ hla
    replace hlb := s21 _ _ hlb
    replace hlc := s21 _ _ hlc
    replace hk0 := s21 _ _ hk0
    replace hk1 := s21 _ _ hk1
    replace hlk := s21 _ _ hlk
    replace hk2 := s21 _ _ hk2
    replace hk3 := s21 _ _ hk3
    replace hk4 := s21 _ _ hk4
    replace hk5 := s21 _ _ hk5
    refine ⟨_, rfl, _, rfl, _, rfl, by show 3 ≤ sizeLine; decide, fun r1 nr1 => ?_⟩
    have s22 : Same H21 (upd H21 r1 (.lst [u0, u1, u2])) := same_new nr1
    have hr1 : upd H21 r1 (.lst [u0, u1, u2]) r1 = some (.lst [u0, u1, u2]) := upd_same
    generalize upd H21 r1 (.lst [u0, u1, u2]) = H22 at s22 hr1
    have q22 : Same H H22 := q21.trans s22
    replace m0 := m0.same s22
    replace m1 := m1.same s22
    replace m2 := m2.same s22
    replace m3 := m3.same s22
    replace m4 := m4.same s22
    replace m5 := m5.same s22
    replace hla := s22 _ _ hla
    replace hlb := s22 _ _ hlb
    replace hlc := s22 _ _ hlc
    replace hk0 := s22 _ _ hk0
    replace hk1 := s22 _ _ hk1
    replace hlk := s22 _ _ hlk
    replace hk2 := s22 _ _ hk2
    replace hk3 := s22 _ _ hk3
    replace hk4 := s22 _ _ hk4
    replace hk5 := s22 _ _ hk5
    replace hr0 := s22 _ _ hr0
    refine ⟨by show 2 ≤ sizeLine; decide, fun ra nra => ?_⟩
    have s23 : Same H22 (upd H22 ra (.lst [.ref r0, .ref r1])) := same_new nra
    have hra : upd H22 ra (.lst [.ref r0, .ref r1]) ra = some (.lst [.ref r0, .ref r1]) := upd_same
    generalize upd H22 ra (.lst [.ref r0, .ref r1]) = H23 at s23 hra
    have q23 : Same H H23 := q22.trans s23
    replace m0 := m0.same s23
    replace m1 := m1.same s23
    replace m2 := m2.same s23
    replace m3 := m3.same s23
    replace m4 := m4.same s23
    replace m5 := m5.same s23
    replace hla := s23 _ _ hla
    replace hlb := s23 _ _ hlb
    replace hlc := s23 _ _ hlc
    replace hk0 := s23 _ _ hk0
    replace hk1 := s23 _ _ hk1
    replace hlk := s23 _ _ hlk
    replace hk2 := s23 _ _ hk2
    replace hk3 := s23 _ _ hk3
    replace hk4 := s23 _ _ hk4
    replace hk5 := s23 _ _ hk5
    replace hr0 := s23 _ _ hr0
    replace hr1 := s23 _ _ hr1
    refine ⟨_, rfl, _, rfl, _, rfl, _, rfl, by show 4 ≤ sizeLine; decide, fun r2 nr2 => ?_⟩
    have s24 : Same H23 (upd H23 r2 (.lst [u0, u1, u2, u3])) := same_new nr2
    have hr2 : upd H23 r2 (.lst [u0, u1, u2, u3]) r2 = some (.lst [u0, u1, u2, u3]) := upd_same
    generalize upd H23 r2 (.lst [u0, u1, u2, u3]) = H24 at s24 hr2
    have q24 : Same H H24 := q23.trans s24
    replace m0 := m0.same s24
    replace m1 := m1.same s24
    replace m2 := m2.same s24
    replace m3 := m3.same s24
    replace m4 := m4.same s24
    replace m5 := m5.same s24
    replace hla := s24 _ _ hla
    replace hlb := s24 _ _ hlb
    replace hlc := s24 _ _ hlc
    replace hk0 := s24 _ _ hk0
    replace hk1 := s24 _ _ hk1
    replace hlk := s24 _ _ hlk
    replace hk2 := s24 _ _ hk2
    replace hk3 := s24 _ _ hk3
    replace hk4 := s24 _ _ hk4
    replace hk5 := s24 _ _ hk5
    replace hr0 := s24 _ _ hr0
    replace hr1 := s24 _ _ hr1
    replace hra := s24 _ _ hra
    refine ⟨by show 1 ≤ sizeLine; decide, fun rb nrb => ?_⟩
    have s25 : Same H24 (upd H24 rb (.lst [.ref r2])) := same_new nrb
    have hrb : upd H24 rb (.lst [.ref r2]) rb = some (.lst [.ref r2]) := upd_same
    generalize upd H24 rb (.lst [.ref r2]) = H25 at s25 hrb
    have q25 : Same H H25 := q24.trans s25
    replace m0 := m0.same s25
    replace m1 := m1.same s25
    replace m2 := m2.same s25
    replace m3 := m3.same s25
    replace m4 := m4.same s25
    replace m5 := m5.same s25
    replace hla := s25 _ _ hla
    replace hlb := s25 _ _ hlb
    replace hlc := s25 _ _ hlc
    replace hk0 := s25 _ _ hk0
    replace hk1 := s25 _ _ hk1
    replace hlk := s25 _ _ hlk
    replace hk2 := s25 _ _ hk2
    replace hk3 := s25 _ _ hk3
    replace hk4 := s25 _ _ hk4
    replace hk5 := s25 _ _ hk5
    replace hr0 := s25 _ _ hr0
    replace hr1 := s25 _ _ hr1
    replace hra := s25 _ _ hra
    replace hr2 := s25 _ _ hr2
    refine ⟨rb, 3, _, rfl, rfl, hrb, by decide, by decide, by show 1 * 3 ≤ sizeLine; decide, fun rc nrc => ?_⟩
    have s26 : Same H25 (upd H25 rc (.lst [.ref r2, .ref r2, .ref r2])) := same_new nrc
    have hrc : upd H25 rc (.lst [.ref r2, .ref r2, .ref r2]) rc = some (.lst [.ref r2, .ref r2, .ref r2]) := upd_same
    show rCat _ _ (upd H25 rc (.lst [.ref r2, .ref r2, .ref r2])) _
    generalize upd H25 rc (.lst [.ref r2, .ref r2, .ref r2]) = H26 at s26 hrc
    have q26 : Same H H26 := q25.trans s26
    replace m0 := m0.same s26
    replace m1 := m1.same s26
    replace m2 := m2.same s26
    replace m3 := m3.same s26
    replace m4 := m4.same s26
    replace m5 := m5.same s26
    replace hla := s26 _ _ hla
    replace hlb := s26 _ _ hlb
    replace hlc := s26 _ _ hlc
    replace hk0 := s26 _ _ hk0
    replace hk1 := s26 _ _ hk1
    replace hlk := s26 _ _ hlk
    replace hk2 := s26 _ _ hk2
    replace hk3 := s26 _ _ hk3
    replace hk4 := s26 _ _ hk4
    replace hk5 := s26 _ _ hk5
    replace hr0 := s26 _ _ hr0
    replace hr1 := s26 _ _ hr1
    replace hra := s26 _ _ hra
    replace hr2 := s26 _ _ hr2
    replace hrb := s26 _ _ hrb
    refine ⟨ra, rc, _, _, rfl, rfl, hra, hrc, by show 2 + 3 ≤ sizeLine; decide, fun rd nrd => ?_⟩
    have s27 : Same H26 (upd H26 rd (.lst [.ref r0, .ref r1, .ref r2, .ref r2, .ref r2])) := same_new nrd
    have hrd : upd H26 rd (.lst [.ref r0, .ref r1, .ref r2, .ref r2, .ref r2]) rd = some (.lst [.ref r0, .ref r1, .ref r2, .ref r2, .ref r2]) := upd_same
    show tLst _ _ (upd H26 rd (.lst [.ref r0, .ref r1, .ref r2, .ref r2, .ref r2])) _
    generalize upd H26 rd (.lst [.ref r0, .ref r1, .ref r2, .ref r2, .ref r2]) = H27 at s27 hrd
    have q27 : Same H H27 := q26.trans s27
    replace m0 := m0.same s27
    replace m1 := m1.same s27
    replace m2 := m2.same s27
    replace m3 := m3.same s27
    replace m4 := m4.same s27
    replace m5 := m5.same s27
    replace hla := s27 _ _ hla
    replace hlb := s27 _ _ hlb
    replace hlc := s27 _ _ hlc
    replace hk0 := s27 _ _ hk0
    replace hk1 := s27 _ _ hk1
    replace hlk := s27 _ _ hlk
    replace hk2 := s27 _ _ hk2
    replace hk3 := s27 _ _ hk3
    replace hk4 := s27 _ _ hk4
    replace hk5 := s27 _ _ hk5
    replace hr0 := s27 _ _ hr0
    replace hr1 := s27 _ _ hr1
    replace hra := s27 _ _ hra
    replace hr2 := s27 _ _ hr2
    replace hrb := s27 _ _ hrb
    replace hrc := s27 _ _ hrc
    refine ⟨_, rfl, by show 1 ≤ sizeLine; decide, fun r3 nr3 => ?_⟩
    have s28 : Same H27 (upd H27 r3 (.lst [u0])) := same_new nr3
    have hr3 : upd H27 r3 (.lst [u0]) r3 = some (.lst [u0]) := upd_same
    generalize upd H27 r3 (.lst [u0]) = H28 at s28 hr3
    have q28 : Same H H28 := q27.trans s28
    replace m0 := m0.same s28
    replace m1 := m1.same s28
    replace m2 := m2.same s28
    replace m3 := m3.same s28
    replace m4 := m4.same s28
    replace m5 := m5.same s28
    replace hla := s28 _ _ hla
    replace hlb := s28 _ _ hlb
    replace hlc := s28 _ _ hlc
    replace hk0 := s28 _ _ hk0
    replace hk1 := s28 _ _ hk1
    replace hlk := s28 _ _ hlk
    replace hk2 := s28 _ _ hk2
    replace hk3 := s28 _ _ hk3
    replace hk4 := s28 _ _ hk4
    replace hk5 := s28 _ _ hk5
    replace hr0 := s28 _ _ hr0
    replace hr1 := s28 _ _ hr1
    replace hra := s28 _ _ hra
    replace hr2 := s28 _ _ hr2
    replace hrb := s28 _ _ hrb
    replace hrc := s28 _ _ hrc
    replace hrd := s28 _ _ hrd
    refine ⟨by show 1 ≤ sizeLine; decide, fun re nre => ?_⟩
    have s29 : Same H28 (upd H28 re (.lst [.ref r3])) := same_new nre
    have hre : upd H28 re (.lst [.ref r3]) re = some (.lst [.ref r3]) := upd_same
    generalize upd H28 re (.lst [.ref r3]) = H29 at s29 hre
    have q29 : Same H H29 := q28.trans s29
    replace m0 := m0.same s29
    replace m1 := m1.same s29
    replace m2 := m2.same s29
    replace m3 := m3.same s29
    replace m4 := m4.same s29
    replace m5 := m5.same s29
    replace hla := s29 _ _ hla
    replace hlb := s29 _ _ hlb
    replace hlc := s29 _ _ hlc
    replace hk0 := s29 _ _ hk0
    replace hk1 := s29 _ _ hk1
    replace hlk := s29 _ _ hlk
    replace hk2 := s29 _ _ hk2
    replace hk3 := s29 _ _ hk3
    replace hk4 := s29 _ _ hk4
    replace hk5 := s29 _ _ hk5
    replace hr0 := s29 _ _ hr0
    replace hr1 := s29 _ _ hr1
    replace hra := s29 _ _ hra
    replace hr2 := s29 _ _ hr2
    replace hrb := s29 _ _ hrb
    replace hrc := s29 _ _ hrc
    replace hrd := s29 _ _ hrd
    replace hr3 := s29 _ _ hr3
    refine ⟨rd, re, _, _, rfl, rfl, hrd, hre, by show 5 + 1 ≤ sizeLine; decide, fun rf nrf => ?_⟩
    have s30 : Same H29 (upd H29 rf (.lst [.ref r0, .ref r1, .ref r2, .ref r2, .ref r2, .ref r3])) := same_new nrf
    have hrf : upd H29 rf (.lst [.ref r0, .ref r1, .ref r2, .ref r2, .ref r2, .ref r3]) rf = some (.lst [.ref r0, .ref r1, .ref r2, .ref r2, .ref r2, .ref r3]) := upd_same
    show tNil _ (upd H29 rf (.lst [.ref r0, .ref r1, .ref r2, .ref r2, .ref r2, .ref r3])) _
    generalize upd H29 rf (.lst [.ref r0, .ref r1, .ref r2, .ref r2, .ref r2, .ref r3]) = H30 at s30 hrf
    have q30 : Same H H30 := q29.trans s30
    replace m0 := m0.same s30
    replace m1 := m1.same s30
    replace m2 := m2.same s30
    replace m3 := m3.same s30
    replace m4 := m4.same s30
    replace m5 := m5.same s30
    replace hla := s30 _ _ hla
    replace hlb := s30 _ _ hlb
    replace hlc := s30 _ _ hlc
    replace hk0 := s30 _ _ hk0
    replace hk1 := s30 _ _ hk1
    replace hlk := s30 _ _ hlk
    replace hk2 := s30 _ _ hk2
    replace hk3 := s30 _ _ hk3
    replace hk4 := s30 _ _ hk4
    replace hk5 := s30 _ _ hk5
    replace hr0 := s30 _ _ hr0
    replace hr1 := s30 _ _ hr1
    replace hra := s30 _ _ hra
    replace hr2 := s30 _ _ hr2
    replace hrb := s30 _ _ hrb
    replace hrc := s30 _ _ hrc
    replace hrd := s30 _ _ hrd
    replace hr3 := s30 _ _ hr3
    replace hre := s30 _ _ hre
    refine ⟨_, _, rfl, .list hrf (.cons (.list hr0 (zt_few (ks := [k0, k1]) ⟨Zv.same q30 z0, Zv.same q30 z1, True.intro⟩)) (.cons (.list hr1 (zt_few (ks := [k0, k1, k2]) ⟨Zv.same q30 z0, Zv.same q30 z1, Zv.same q30 z2, True.intro⟩)) (.cons (.list hr2 (zt_few (ks := [k0, k1, k2, k3]) ⟨Zv.same q30 z0, Zv.same q30 z1, Zv.same q30 z2, Zv.same q30 z3, True.intro⟩)) (.cons (.list hr2 (zt_few (ks := [k0, k1, k2, k3]) ⟨Zv.same q30 z0, Zv.same q30 z1, Zv.same q30 z2, Zv.same q30 z3, True.intro⟩)) (.cons (.list hr2 (zt_few (ks := [k0, k1, k2, k3]) ⟨Zv.same q30 z0, Zv.same q30 z1, Zv.same q30 z2, Zv.same q30 z3, True.intro⟩)) (.cons (.list hr3 (zt_few (ks := [k0]) ⟨Zv.same q30 z0, True.intro⟩)) (.nil))))))), fd.1, fd.2, rfl, _, rfl, noB (by rw [decide_eq_true rfl]; rfl) ?_⟩
    have tms : ∀ (j : Nat) (e : V), [V.ref x0, V.ref x1, V.ref x2, V.ref x3, V.ref x4, V.ref x5][j]? = some e → ∃ ks, Th cs H30 (j + 4) ks e := fun j e h => by
      match j, h with
      | 0, h => cases h; exact ⟨_, m0⟩
      | 1, h => cases h; exact ⟨_, m1⟩
      | 2, h => cases h; exact ⟨_, m2⟩
      | 3, h => cases h; exact ⟨_, m3⟩
      | 4, h => cases h; exact ⟨_, m4⟩
      | 5, h => cases h; exact ⟨_, m5⟩
      | n + 6, h => simp at h
    refine ⟨_, rfl, lc, rfl, ⟨_, SqL.of hlc⟩, fun D hD => lc_it walk_list (fun j G4 => Same H30 G4 ∧ G4 D = some (.lst [])) ⟨same_new hD, upd_same⟩ (fun j G4 _ c => SqL.of (c.1 _ _ hlc)) ?_ ?_⟩
    · rintro j v G4 G5 hj ⟨sm, hDl⟩ yp
      obtain ⟨rfl, hv⟩ := yp
      obtain ⟨ks, tv⟩ := tms j v hv
      have hj6 : j < 6 := hj
      replace tv := tv.same sm
      have tvx := tv
      obtain ⟨_, av, dv, gv, ev, hvv, _⟩ := tvx
      have fl : trB (j + 4) = false := by rcases (by omega : j = 0 ∨ j = 1 ∨ j = 2 ∨ j = 3 ∨ j = 4 ∨ j = 5) with rfl | rfl | rfl | rfl | rfl | rfl <;> rfl
      refine ⟨rfl, _, rfl, j + 4, _, tv, by omega, noB fl ?_⟩
      refine ⟨_, rfl, _, .ref Vd, _, .ref Vd, _, rfl, .own _, by rw [ev]; exact .base (R.fam.ty (j + 4) (by omega) _ _ _ _ hvv), R.fam.ver (j + 4) (by omega), _, rfl, noB (by rw [decide_eq_true (show j + 4 ≠ 11 by omega)]; rfl) ⟨sm, hDl⟩⟩
    rintro H31 ⟨s31, hD1⟩
    have q31 : Same H H31 := q30.trans s31
    replace m0 := m0.same s31
    replace m1 := m1.same s31
    replace m2 := m2.same s31
    replace m3 := m3.same s31
    replace m4 := m4.same s31
    replace m5 := m5.same s31
    replace hla := s31 _ _ hla
    replace hlb := s31 _ _ hlb
    replace hlc := s31 _ _ hlc
    replace hk0 := s31 _ _ hk0
    replace hk1 := s31 _ _ hk1
    replace hlk := s31 _ _ hlk
    replace hk2 := s31 _ _ hk2
    replace hk3 := s31 _ _ hk3
    replace hk4 := s31 _ _ hk4
    replace hk5 := s31 _ _ hk5
    replace hr0 := s31 _ _ hr0
    replace hr1 := s31 _ _ hr1
    replace hra := s31 _ _ hra
    replace hr2 := s31 _ _ hr2
    replace hrb := s31 _ _ hrb
    replace hrc := s31 _ _ hrc
    replace hrd := s31 _ _ hrd
    replace hr3 := s31 _ _ hr3
    replace hre := s31 _ _ hre
    replace hrf := s31 _ _ hrf
    refine ⟨by show 0 ≤ sizeLine; decide, fun lf nlf => ?_⟩
    have s32 : Same H31 (upd H31 lf (.lst [])) := same_new nlf
    refine ⟨.list [], .list [], .lst (SqL.of (s32 _ _ hD1)) .nil, .lst (SqL.of upd_same) .nil, rfl, rfl, _, rfl, noB rfl ?_⟩
    generalize upd H31 lf (.lst []) = H32 at s32
    have q32 : Same H H32 := q31.trans s32
    replace m0 := m0.same s32
    replace m1 := m1.same s32
    replace m2 := m2.same s32
    replace m3 := m3.same s32
    replace m4 := m4.same s32
    replace m5 := m5.same s32
    replace hla := s32 _ _ hla
    replace hlb := s32 _ _ hlb
    replace hlc := s32 _ _ hlc
    replace hk0 := s32 _ _ hk0
    replace hk1 := s32 _ _ hk1
    replace hlk := s32 _ _ hlk
    replace hk2 := s32 _ _ hk2
    replace hk3 := s32 _ _ hk3
    replace hk4 := s32 _ _ hk4
    replace hk5 := s32 _ _ hk5
    replace hr0 := s32 _ _ hr0
    replace hr1 := s32 _ _ hr1
    replace hra := s32 _ _ hra
    replace hr2 := s32 _ _ hr2
    replace hrb := s32 _ _ hrb
    replace hrc := s32 _ _ hrc
    replace hrd := s32 _ _ hrd
    replace hr3 := s32 _ _ hr3
    replace hre := s32 _ _ hre
    replace hrf := s32 _ _ hrf
    clear fd tms
    clear hla
    clear hlb
    clear hk0
    clear hk1
    clear hlk
    clear hk2
    clear hk3
    clear hk4
    clear hk5
    clear hr0
    clear hr1
    clear hra
    clear hr2
    clear hrb
    clear hrc
    clear hrd
    clear hr3
    clear hre
    clear hrf
    refine ⟨_, rfl, _, rfl, rfl, rfl, fun y0 dx n1 n2 ne => made_of (cs := cs) (i := 4) (vs := [u0, u1]) (js := [k0, k1]) (by decide) n1 n2 ne rfl ⟨Zv.same q32 z0, Zv.same q32 z1, True.intro⟩ (fun H33 s33 b0 => ?_)⟩
    have q33 : Same H H33 := q32.trans s33
    replace m0 := m0.same s33
    replace m1 := m1.same s33
    replace m2 := m2.same s33
    replace m3 := m3.same s33
    replace m4 := m4.same s33
    replace m5 := m5.same s33
    replace hlc := s33 _ _ hlc
    refine ⟨_, rfl, _, rfl, _, rfl, rfl, rfl, fun y1 dx n1 n2 ne => made_of (cs := cs) (i := 5) (vs := [u0, u1, u2]) (js := [k0, k1, k2]) (by decide) n1 n2 ne rfl ⟨Zv.same q33 z0, Zv.same q33 z1, Zv.same q33 z2, True.intro⟩ (fun H34 s34 b1 => ?_)⟩
    have q34 : Same H H34 := q33.trans s34
    replace m0 := m0.same s34
    replace m1 := m1.same s34
    replace m2 := m2.same s34
    replace m3 := m3.same s34
    replace m4 := m4.same s34
    replace m5 := m5.same s34
    replace b0 := b0.same s34
    replace hlc := s34 _ _ hlc
    refine ⟨by show 2 ≤ sizeLine; decide, fun ld nld => ?_⟩
    have ne2_hlc : lc ≠ ld := ne_of_none hlc nld
    have nB2 : ∀ b u, H b = some u → b ≠ ld := fun b u e => ne_of_none (q34 _ _ e) nld
    have s35 : Same H34 (upd H34 ld (.lst [.ref y0, .ref y1])) := same_new nld
    have hld : upd H34 ld (.lst [.ref y0, .ref y1]) ld = some (.lst [.ref y0, .ref y1]) := upd_same
    generalize upd H34 ld (.lst [.ref y0, .ref y1]) = H35 at s35 hld
    have q35 : Same H H35 := q34.trans s35
    replace m0 := m0.same s35
    replace m1 := m1.same s35
    replace m2 := m2.same s35
    replace m3 := m3.same s35
    replace m4 := m4.same s35
    replace m5 := m5.same s35
    replace b0 := b0.same s35
    replace b1 := b1.same s35
    replace hlc := s35 _ _ hlc
    refine ⟨_, rfl, .inl ⟨rfl, _, SqL.of hld⟩, _, rfl, _, rfl, _, rfl, _, rfl, rfl, rfl, fun y2 dx n1 n2 ne => made_of (cs := cs) (i := 6) (vs := [u0, u1, u2, u3]) (js := [k0, k1, k2, k3]) (by decide) n1 n2 ne rfl ⟨Zv.same q35 z0, Zv.same q35 z1, Zv.same q35 z2, Zv.same q35 z3, True.intro⟩ (fun H36 s36 b2 => ?_)⟩
    have q36 : Same H H36 := q35.trans s36
    replace m0 := m0.same s36
    replace m1 := m1.same s36
    replace m2 := m2.same s36
    replace m3 := m3.same s36
    replace m4 := m4.same s36
    replace m5 := m5.same s36
    replace b0 := b0.same s36
    replace b1 := b1.same s36
    replace hlc := s36 _ _ hlc
    replace hld := s36 _ _ hld
    refine ⟨ld, _, _, rfl, rfl, hld, by show 2 < sizeLine; decide, ?_⟩
    have gr : ∀ b u, b ≠ ld → H36 b = some u → upd H36 ld (.lst [.ref y0, .ref y1, .ref y2]) b = some u := fun b u e h => by rw [upd_ne e]; exact h
    have q37 : Same H (upd H36 ld (.lst [.ref y0, .ref y1, .ref y2])) := fun b u e => gr b u (nB2 b u e) (q36 _ _ e)
    replace m0 := m0.grow hld gr
    replace m1 := m1.grow hld gr
    replace m2 := m2.grow hld gr
    replace m3 := m3.grow hld gr
    replace m4 := m4.grow hld gr
    replace m5 := m5.grow hld gr
    replace b0 := b0.grow hld gr
    replace b1 := b1.grow hld gr
    replace b2 := b2.grow hld gr
    replace hlc := gr _ _ ne2_hlc hlc
    replace hld : upd H36 ld (.lst [.ref y0, .ref y1, .ref y2]) ld = some (.lst [.ref y0, .ref y1, .ref y2]) := upd_same
    clear gr
    show tSeq _ _ _ _ (upd H36 ld (.lst [.ref y0, .ref y1, .ref y2]))
    generalize upd H36 ld (.lst [.ref y0, .ref y1, .ref y2]) = H37 at q37 hld m0 m1 m2 m3 m4 m5 b0 b1 b2 hlc
    refine ⟨_, rfl, .inl ⟨rfl, _, SqL.of hld⟩, _, rfl, _, rfl, _, rfl, _, rfl, rfl, rfl, fun y3 dx n1 n2 ne => made_of (cs := cs) (i := 7) (vs := [u0, u1, u2, u3]) (js := [k0, k1, k2, k3]) (by decide) n1 n2 ne rfl ⟨Zv.same q37 z0, Zv.same q37 z1, Zv.same q37 z2, Zv.same q37 z3, True.intro⟩ (fun H38 s38 b3 => ?_)⟩
    have q38 : Same H H38 := q37.trans s38
    replace m0 := m0.same s38
    replace m1 := m1.same s38
    replace m2 := m2.same s38
    replace m3 := m3.same s38
    replace m4 := m4.same s38
    replace m5 := m5.same s38
    replace b0 := b0.same s38
    replace b1 := b1.same s38
    replace b2 := b2.same s38
    replace hlc := s38 _ _ hlc
    replace hld := s38 _ _ hld
    refine ⟨ld, _, _, rfl, rfl, hld, by show 3 < sizeLine; decide, ?_⟩
    have gr : ∀ b u, b ≠ ld → H38 b = some u → upd H38 ld (.lst [.ref y0, .ref y1, .ref y2, .ref y3]) b = some u := fun b u e h => by rw [upd_ne e]; exact h
    have q39 : Same H (upd H38 ld (.lst [.ref y0, .ref y1, .ref y2, .ref y3])) := fun b u e => gr b u (nB2 b u e) (q38 _ _ e)
    replace m0 := m0.grow hld gr
    replace m1 := m1.grow hld gr
    replace m2 := m2.grow hld gr
    replace m3 := m3.grow hld gr
    replace m4 := m4.grow hld gr
    replace m5 := m5.grow hld gr
    replace b0 := b0.grow hld gr
    replace b1 := b1.grow hld gr
    replace b2 := b2.grow hld gr
    replace b3 := b3.grow hld gr
    replace hlc := gr _ _ ne2_hlc hlc
    replace hld : upd H38 ld (.lst [.ref y0, .ref y1, .ref y2, .ref y3]) ld = some (.lst [.ref y0, .ref y1, .ref y2, .ref y3]) := upd_same
    clear gr
    show tSeq _ _ _ _ (upd H38 ld (.lst [.ref y0, .ref y1, .ref y2, .ref y3]))
    generalize upd H38 ld (.lst [.ref y0, .ref y1, .ref y2, .ref y3]) = H39 at q39 hld m0 m1 m2 m3 m4 m5 b0 b1 b2 b3 hlc
    refine ⟨_, rfl, ?_⟩
    refine ⟨_, rfl, _, rfl, _, rfl, _, rfl, rfl, rfl, fun y4 dx n1 n2 ne => made_of (cs := cs) (i := 8) (vs := [u0, u1, u2, u3]) (js := [k0, k1, k2, k3]) (by decide) n1 n2 ne rfl ⟨Zv.same q39 z0, Zv.same q39 z1, Zv.same q39 z2, Zv.same q39 z3, True.intro⟩ (fun H40 s40 b4 => ?_)⟩
    have q40 : Same H H40 := q39.trans s40
    replace m0 := m0.same s40
    replace m1 := m1.same s40
    replace m2 := m2.same s40
    replace m3 := m3.same s40
    replace m4 := m4.same s40
    replace m5 := m5.same s40
    replace b0 := b0.same s40
    replace b1 := b1.same s40
    replace b2 := b2.same s40
    replace b3 := b3.same s40
    replace hlc := s40 _ _ hlc
    replace hld := s40 _ _ hld
    refine ⟨_, rfl, rfl, rfl, fun y5 dx n1 n2 ne => made_of (cs := cs) (i := 9) (vs := [u0]) (js := [k0]) (by decide) n1 n2 ne rfl ⟨Zv.same q40 z0, True.intro⟩ (fun H41 s41 b5 => ?_)⟩
    have q41 : Same H H41 := q40.trans s41
    replace m0 := m0.same s41
    replace m1 := m1.same s41
    replace m2 := m2.same s41
    replace m3 := m3.same s41
    replace m4 := m4.same s41
    replace m5 := m5.same s41
    replace b0 := b0.same s41
    replace b1 := b1.same s41
    replace b2 := b2.same s41
    replace b3 := b3.same s41
    replace b4 := b4.same s41
    replace hlc := s41 _ _ hlc
    replace hld := s41 _ _ hld
    refine ⟨by show 2 ≤ sizeLine; decide, fun lh nlh => ?_⟩
    have s42 : Same H41 (upd H41 lh (.lst [.ref y4, .ref y5])) := same_new nlh
    have hlh : upd H41 lh (.lst [.ref y4, .ref y5]) lh = some (.lst [.ref y4, .ref y5]) := upd_same
    generalize upd H41 lh (.lst [.ref y4, .ref y5]) = H42 at s42 hlh
    have q42 : Same H H42 := q41.trans s42
    replace m0 := m0.same s42
    replace m1 := m1.same s42
    replace m2 := m2.same s42
    replace m3 := m3.same s42
    replace m4 := m4.same s42
    replace m5 := m5.same s42
    replace b0 := b0.same s42
    replace b1 := b1.same s42
    replace b2 := b2.same s42
    replace b3 := b3.same s42
    replace b4 := b4.same s42
    replace b5 := b5.same s42
    replace hlc := s42 _ _ hlc
    replace hld := s42 _ _ hld
    refine ⟨ld, lh, _, _, rfl, rfl, hld, hlh, by show 6 ≤ sizeLine; decide, fun lg nlg => ?_⟩
    have s43 : Same H42 (upd H42 lg (.lst [.ref y0, .ref y1, .ref y2, .ref y3, .ref y4, .ref y5])) := same_new nlg
    have hlg : upd H42 lg (.lst [.ref y0, .ref y1, .ref y2, .ref y3, .ref y4, .ref y5]) lg = some (.lst [.ref y0, .ref y1, .ref y2, .ref y3, .ref y4, .ref y5]) := upd_same
    show gName _ _ _ (upd H42 lg (.lst [.ref y0, .ref y1, .ref y2, .ref y3, .ref y4, .ref y5])) _
    generalize upd H42 lg (.lst [.ref y0, .ref y1, .ref y2, .ref y3, .ref y4, .ref y5]) = H43 at s43 hlg
    have q43 : Same H H43 := q42.trans s43
    replace m0 := m0.same s43
    replace m1 := m1.same s43
    replace m2 := m2.same s43
    replace m3 := m3.same s43
    replace m4 := m4.same s43
    replace m5 := m5.same s43
    replace b0 := b0.same s43
    replace b1 := b1.same s43
    replace b2 := b2.same s43
    replace b3 := b3.same s43
    replace b4 := b4.same s43
    replace b5 := b5.same s43
    replace hlc := s43 _ _ hlc
    replace hld := s43 _ _ hld
    replace hlh := s43 _ _ hlh
    refine ⟨_, rfl, _, rfl, ⟨lc, lg, _, _, rfl, rfl, hlc, hlg, (.cons ⟨_, _, m0, b0⟩ (.cons ⟨_, _, m1, b1⟩ (.cons ⟨_, _, m2, b2⟩ (.cons ⟨_, _, m3, b3⟩ (.cons ⟨_, _, m4, b4⟩ (.cons ⟨_, _, m5, b5⟩ .nil))))))⟩, fun H44 s44 => ⟨_, rfl, noB rfl ?_⟩⟩
    replace s44 : Same H43 H44 := s44
    have q44 : Same H H44 := q43.trans s44
    replace m0 := m0.same s44
    replace m1 := m1.same s44
    replace m2 := m2.same s44
    replace m3 := m3.same s44
    replace m4 := m4.same s44
    replace m5 := m5.same s44
    replace b0 := b0.same s44
    replace b1 := b1.same s44
    replace b2 := b2.same s44
    replace b3 := b3.same s44
    replace b4 := b4.same s44
    replace b5 := b5.same s44
    replace hlc := s44 _ _ hlc
    replace hld := s44 _ _ hld
    replace hlh := s44 _ _ hlh
    replace hlg := s44 _ _ hlg
    have tms : ∀ (j : Nat) (e : V), [V.ref x0, V.ref x1, V.ref x2, V.ref x3, V.ref x4, V.ref x5][j]? = some e → ∃ ks, Th cs H44 (j + 4) ks e := fun j e h => by
      match j, h with
      | 0, h => cases h; exact ⟨_, m0⟩
      | 1, h => cases h; exact ⟨_, m1⟩
      | 2, h => cases h; exact ⟨_, m2⟩
      | 3, h => cases h; exact ⟨_, m3⟩
      | 4, h => cases h; exact ⟨_, m4⟩
      | 5, h => cases h; exact ⟨_, m5⟩
      | n + 6, h => simp at h
    refine ⟨6, rfl, by decide, by decide, for_range (n := 6) (fun i σ G => Same H44 G ∧ ∃ v9 v10 v11 v12 v13, σ = [some (.ref a), some u0, some u1, some u2, some u3, some u4, some (.ref lc), some (.ref lk), some (.ref lg), v9, v10, v11, v12, v13]) ?_ ?_ ?_⟩
    · exact ⟨fun b o e => e, _, _, _, _, _, rfl⟩
    · rintro i σ G hi ⟨sg, v9, v10, v11, v12, v13, rfl⟩
      obtain ⟨ei, hei⟩ : ∃ e, [V.ref x0, V.ref x1, V.ref x2, V.ref x3, V.ref x4, V.ref x5][i]? = some e := ⟨_, List.getElem?_eq_getElem (by simpa using hi)⟩
      obtain ⟨ki, ti⟩ := tms i ei hei
      refine ⟨6, rfl, by decide, by decide, fun D hD => lc_range (lo := 0) (n := 6) (fun j G4 => Same G G4 ∧ G4 D = some (.lst [])) ⟨same_new hD, upd_same⟩ ?_ ?_⟩
      · rintro j G4 hj ⟨sm, hDl⟩
        obtain ⟨ej, hej⟩ : ∃ e, [V.ref x0, V.ref x1, V.ref x2, V.ref x3, V.ref x4, V.ref x5][j]? = some e := ⟨_, List.getElem?_eq_getElem (by simpa using hj)⟩
        obtain ⟨kj, tj⟩ := tms j ej hej
        have sq := sg.trans sm
        have key : decide (i + 4 = j + 4 ∧ ki = kj) = decide (V.int (0 + (i : Int)) = V.int (0 + (j : Int))) ∨ i = j := by
          by_cases e : i = j
          · exact .inr e
          · refine .inl ?_
            rw [decide_eq_false (fun z => e (by omega)), decide_eq_false (fun z => e (by injection z with z; omega))]
        rcases key with key | e
        · refine ⟨rfl, _, rfl, _, rfl, lc, _, _, ei, rfl, rfl, SqL.of (sq _ _ hlc), at_i hei, _, rfl, _, rfl, lc, _, _, ej, rfl, rfl, SqL.of (sq _ _ hlc), at_i hej, i + 4, j + 4, _, _, ti.same sq, tj.same sq, _, rfl, _, rfl, rfl, rfl, _, rfl, noB ?_ ⟨sm, hDl⟩⟩
          rw [key, decide_eq_true rfl]; rfl
        · subst e
          rw [hei] at hej; cases hej
          refine ⟨rfl, _, rfl, _, rfl, lc, _, _, ei, rfl, rfl, SqL.of (sq _ _ hlc), at_i hei, _, rfl, _, rfl, lc, _, _, ei, rfl, rfl, SqL.of (sq _ _ hlc), at_i hei, i + 4, i + 4, _, _, ti.same sq, ti.same sq, _, rfl, _, rfl, rfl, rfl, _, rfl, noB ?_ ⟨sm, hDl⟩⟩
          simp
      · rintro G4 ⟨sm, hDl⟩
        refine ⟨by show 0 ≤ sizeLine; decide, fun lf nlf => ?_⟩
        refine ⟨.list [], .list [], .lst (SqL.of ((same_new nlf) _ _ hDl)) .nil, .lst (SqL.of upd_same) .nil, rfl, rfl, _, rfl, noB rfl ⟨?_, _, _, _, _, _, rfl⟩⟩
        exact (sg.trans sm).trans (same_new nlf)
    rintro σ H45 ⟨s45, v9, v10, v11, v12, v13, rfl⟩
    have q45 : Same H H45 := q44.trans s45
    replace m0 := m0.same s45
    replace m1 := m1.same s45
    replace m2 := m2.same s45
    replace m3 := m3.same s45
    replace m4 := m4.same s45
    replace m5 := m5.same s45
    replace hlc := s45 _ _ hlc
    refine ⟨_, rfl, _, rfl, fun w0 dx n1 n2 ne => made_of (cs := cs) (i := 4) (vs := [u0, u4]) (js := [k0, k4]) (by decide) n1 n2 ne rfl ⟨Zv.same q45 z0, Zv.same q45 z4, True.intro⟩ (fun H46 s46 c0 => ?_)⟩
    have q46 : Same H H46 := q45.trans s46
    replace m0 := m0.same s46
    replace m1 := m1.same s46
    replace m2 := m2.same s46
    replace m3 := m3.same s46
    replace m4 := m4.same s46
    replace m5 := m5.same s46
    replace hlc := s46 _ _ hlc
    refine ⟨_, rfl, _, rfl, _, rfl, fun w1 dx n1 n2 ne => made_of (cs := cs) (i := 5) (vs := [u0, u1, u4]) (js := [k0, k1, k4]) (by decide) n1 n2 ne rfl ⟨Zv.same q46 z0, Zv.same q46 z1, Zv.same q46 z4, True.intro⟩ (fun H47 s47 c1 => ?_)⟩
    have q47 : Same H H47 := q46.trans s47
    replace m0 := m0.same s47
    replace m1 := m1.same s47
    replace m2 := m2.same s47
    replace m3 := m3.same s47
    replace m4 := m4.same s47
    replace m5 := m5.same s47
    replace c0 := c0.same s47
    replace hlc := s47 _ _ hlc
    refine ⟨_, rfl, _, rfl, _, rfl, _, rfl, fun w2 dx n1 n2 ne => made_of (cs := cs) (i := 6) (vs := [u0, u1, u2, u4]) (js := [k0, k1, k2, k4]) (by decide) n1 n2 ne rfl ⟨Zv.same q47 z0, Zv.same q47 z1, Zv.same q47 z2, Zv.same q47 z4, True.intro⟩ (fun H48 s48 c2 => ?_)⟩
    have q48 : Same H H48 := q47.trans s48
    replace m0 := m0.same s48
    replace m1 := m1.same s48
    replace m2 := m2.same s48
    replace m3 := m3.same s48
    replace m4 := m4.same s48
    replace m5 := m5.same s48
    replace c0 := c0.same s48
    replace c1 := c1.same s48
    replace hlc := s48 _ _ hlc
    refine ⟨_, rfl, _, rfl, _, rfl, _, rfl, fun w3 dx n1 n2 ne => made_of (cs := cs) (i := 7) (vs := [u0, u1, u2, u4]) (js := [k0, k1, k2, k4]) (by decide) n1 n2 ne rfl ⟨Zv.same q48 z0, Zv.same q48 z1, Zv.same q48 z2, Zv.same q48 z4, True.intro⟩ (fun H49 s49 c3 => ?_)⟩
    have q49 : Same H H49 := q48.trans s49
    replace m0 := m0.same s49
    replace m1 := m1.same s49
    replace m2 := m2.same s49
    replace m3 := m3.same s49
    replace m4 := m4.same s49
    replace m5 := m5.same s49
    replace c0 := c0.same s49
    replace c1 := c1.same s49
    replace c2 := c2.same s49
    replace hlc := s49 _ _ hlc
    refine ⟨by show 4 ≤ sizeLine; decide, fun lw nlw => ?_⟩
    have s50 : Same H49 (upd H49 lw (.lst [.ref w0, .ref w1, .ref w2, .ref w3])) := same_new nlw
    have hlw : upd H49 lw (.lst [.ref w0, .ref w1, .ref w2, .ref w3]) lw = some (.lst [.ref w0, .ref w1, .ref w2, .ref w3]) := upd_same
    generalize upd H49 lw (.lst [.ref w0, .ref w1, .ref w2, .ref w3]) = H50 at s50 hlw
    have q50 : Same H H50 := q49.trans s50
    replace m0 := m0.same s50
    replace m1 := m1.same s50
    replace m2 := m2.same s50
    replace m3 := m3.same s50
    replace m4 := m4.same s50
    replace m5 := m5.same s50
    replace c0 := c0.same s50
    replace c1 := c1.same s50
    replace c2 := c2.same s50
    replace c3 := c3.same s50
    replace hlc := s50 _ _ hlc
    have leaf : ∀ k : Nat, (zD k).shown.length ≤ sizeLine ∧ (zD k).depth ≤ 60 := fun k => by
      obtain ⟨_, f2, f3⟩ := zd_fine k
      exact ⟨Nat.le_trans f2 (by decide), by omega⟩
    refine ⟨_, rfl, _, _, rfl, .leaf (Zv.same q50 z4), (leaf k4).1, (leaf k4).2, _, rfl, _, _, rfl, .leaf (Zv.same q50 z1), (leaf k1).1, (leaf k1).2, rfl, _, rfl, _, _, rfl, .leaf (Zv.same q50 z4), (leaf k4).1, (leaf k4).2, _, rfl, _, _, rfl, .leaf (Zv.same q50 z2), (leaf k2).1, (leaf k2).2, rfl, _, rfl, _, _, rfl, .leaf (Zv.same q50 z4), (leaf k4).1, (leaf k4).2, _, rfl, _, _, rfl, .leaf (Zv.same q50 z3), (leaf k3).1, (leaf k3).2, rfl, _, rfl, _, _, rfl, .leaf (Zv.same q50 z4), (leaf k4).1, (leaf k4).2, _, rfl, _, _, rfl, .leaf (Zv.same q50 z3), (leaf k3).1, (leaf k3).2, rfl, by show 4 ≤ sizeLine; decide, fun lu nlu => ?_⟩
    have s51 : Same H50 (upd H50 lu (.lst [V.bl (decide (V.str (zD k4).shown = V.str (zD k1).shown)), V.bl (decide (V.str (zD k4).shown = V.str (zD k2).shown)), V.bl (decide (V.str (zD k4).shown = V.str (zD k3).shown)), V.bl (decide (V.str (zD k4).shown = V.str (zD k3).shown))])) := same_new nlu
    have hlu : upd H50 lu (.lst [V.bl (decide (V.str (zD k4).shown = V.str (zD k1).shown)), V.bl (decide (V.str (zD k4).shown = V.str (zD k2).shown)), V.bl (decide (V.str (zD k4).shown = V.str (zD k3).shown)), V.bl (decide (V.str (zD k4).shown = V.str (zD k3).shown))]) lu = some (.lst [V.bl (decide (V.str (zD k4).shown = V.str (zD k1).shown)), V.bl (decide (V.str (zD k4).shown = V.str (zD k2).shown)), V.bl (decide (V.str (zD k4).shown = V.str (zD k3).shown)), V.bl (decide (V.str (zD k4).shown = V.str (zD k3).shown))]) := upd_same
    generalize upd H50 lu (.lst [V.bl (decide (V.str (zD k4).shown = V.str (zD k1).shown)), V.bl (decide (V.str (zD k4).shown = V.str (zD k2).shown)), V.bl (decide (V.str (zD k4).shown = V.str (zD k3).shown)), V.bl (decide (V.str (zD k4).shown = V.str (zD k3).shown))]) = H51 at s51 hlu
    have q51 : Same H H51 := q50.trans s51
    replace m0 := m0.same s51
    replace m1 := m1.same s51
    replace m2 := m2.same s51
    replace m3 := m3.same s51
    replace m4 := m4.same s51
    replace m5 := m5.same s51
    replace c0 := c0.same s51
    replace c1 := c1.same s51
    replace c2 := c2.same s51
    replace c3 := c3.same s51
    replace hlc := s51 _ _ hlc
    replace hlw := s51 _ _ hlw
    rw [shown_eq z4 z1, shown_eq z4 z2, shown_eq z4 z3] at hlu
    refine gset (σ2 := [some (.ref a), some u0, some u1, some u2, some u3, some u4, some (.ref lc), some (.ref lk), some (.ref lg), v9, some (.ref lw), some (.ref lu), v12, v13]) rfl ?_
    exact wro_end hlc hlw m0 m1 m2 m3 c0 c1 c2 c3 hlu (fun H' s => post _ (q51.trans s))
end
end Kpp
namespace Gd
open PySem PySem.Spec PyProof.Rows L2
/-! ### a call of a def that wants no repr under way -/
section
variable {X : Cx} {CX : CXT} {k : Nat} {f : Addr} {fd : FuncData} {ps : List Str} {sp : Sp} {E : XK} {x : Str} {p pos : Pos} {e : Expr} {es : List Expr} {t : TA}
theorem run_G {pins : List (Addr × Obj)} {σ : L2.St} {H : Hp} {s : Shared} {Q : VK} {us : List Value} {vs : List V} (F : FnG X.prog X.w X.K X.mg X.base CX k f fd ps sp) (hG : X.A.guards = some []) (hr : Room k X.A) (hb : Binds X.K fd ps []) (hx : Passes CX X E)
    (I : Inv X pins σ H s) (r : Vals vs us) (h : sp vs H Q E) : wpAny (model X.prog X.w) X.A (call (.ref f) us) (EP X pins σ Q) X.xe s := by
  have hl : us.length = ps.length := by rw [← r.length]; exact F.len _ _ _ _ h
  have b := hb s us I.kIn (by rw [List.append_nil]; exact hl)
  rw [List.append_nil] at b
  apply wpAny_call
  apply codeAny_mono (F.run X.A X.stack s H ⟨us, []⟩ us vs Q E hG hr I.env0 b r h)
  intro r s' hq
  match r, hq with
  | .error e, hq => exact hx pins σ H s e s' I hq
  | .ok (.ret u), hq => exact I.after hq
  | .ok .next, hq => exact False.elim hq
  | .ok .brk, hq => exact False.elim hq
  | .ok .cont, hq => exact False.elim hq
theorem pe_callG (F : FnG X.prog X.w X.K X.mg X.base CX k f fd ps sp) (hG : X.A.guards = some []) (hr : Room k X.A) (hg : Gl X x) (hm : X.mg x = some (.ref f)) (hk : PySem.W.keepIn X.K (.ref f) = true) (hb : Binds X.K fd ps []) (hx : Passes CX X E)
    (ha : PA X (e :: es) t) (hdb : (x == ("__debug__" : Str)) = false := by decide) (he : starEach (e :: es) X.env = (false, eval e X.env) :: starEach es X.env := by rfl) (hpl : (backTo pos (starEach es X.env)).any (·.1) = false := by rfl) :
    PE X (.Call (.Name x p) (e :: es) [] pos) (fun σ H Q => t σ H fun vs H1 => sp vs H1 Q E) := by
  constructor
  intro pins s σ H Q I h
  apply wpAny_Call_Name_kw
  apply ld_glob I hg hm ?_ hdb
  refine PySem.W.callWith_K (h₀ := X.base) I.ok.mod.kin hk (thn (ha.run pos pins s σ H _ I h) ?_) he hpl
  intro us s1 ⟨vs, H1, I1, r, q⟩
  exact ⟨I1.kIn, run_G F hG hr hb hx I1 r q⟩
end
end Gd
namespace Kpp
open PySem PySem.Spec PyProof.Rows L2 Gd
open Kone (Def Pen Keep spPen spDraw spPick TxtD same_new hide hide_same hide_at newIn newIn_of)
abbrev sLaw : Stmt := top 32
abbrev NL : List Str := ["_law_script", "_law_pen_here", "_law_told", "_law_lap", "_law_spot"]
theorem scLaw : FnScope NL ["_law_script"] (defScope sLaw) := ⟨rfl, rfl, rfl, by decide +kernel, rfl, by decide +kernel, by decide +kernel⟩
def spLaw (K : PySem.W.Frag) : Sp := fun vs H Q _ => ∃ (a : Addr) (ns : List Int), vs = [.ref a] ∧ SqL K H a (ns.map V.int) ∧ ∀ H', Q (.bl true) H'
theorem ZvAll.grow {H H' : Hp} {l : Addr} {y : V} {ys : List V} (hl : H l = some (.lst (y :: ys))) (s : ∀ b o, b ≠ l → H b = some o → H' b = some o) : ∀ {vs : List V} {ks : List Nat}, ZvAll H vs ks → ZvAll H' vs ks
  | [], [], _ => True.intro
  | _ :: _, _ :: _, ⟨h, r⟩ => ⟨Zv.grow hl s h, ZvAll.grow hl s r⟩
  | [], _ :: _, h => h.elim
  | _ :: _, [], h => h.elim
theorem Pen.off {H : Hp} {p c D : Addr} {n : Nat} {o : HO} (h : Pen H p c n) (np : D ≠ p) (nc : D ≠ c) : Pen (upd H D o) p c n := by
  obtain ⟨cl, a, g, e1, e2, r⟩ := h
  exact ⟨cl, a, g, by rw [upd_ne np.symm]; exact e1, by rw [upd_ne nc.symm]; exact e2, r⟩
theorem ZvAll.snoc {H : Hp} {v : V} {k : Nat} (h : Zv H k v) : ∀ {vs : List V} {ks : List Nat}, ZvAll H vs ks → ZvAll H (vs ++ [v]) (ks ++ [k])
  | [], [], _ => ⟨h, True.intro⟩
  | _ :: _, _ :: _, ⟨h', r⟩ => ⟨h', ZvAll.snoc h r⟩
  | [], _ :: _, h => h.elim
  | _ :: _, [], h => h.elim
section
variable {P : Program} {w : World} {K : PySem.W.Frag} {mg : Str → Option Value} {base : Heap} {cs : Nat → Addr} {Vd : Addr}
theorem ok_law (R : Lq P w K mg base cs Vd) {f fN fA fP fD f1 f2 f3 : Addr} {fd dN dA dP dD d1 d2 d3 : FuncData} (F : Fun K "law" "law" sLaw f fd) (T : TxtD mg fD)
    (UN : Def K mg "_law_pen" sPen ["_law_script"] fN dN) (UA : Def K mg "_law_any" sAny ["_law_pen_here"] fA dA) (UP : Def K mg "_law_pick" sPick ["_law_pen_here", "_law_some"] fP dP) (UD : Def K mg "_law_draw" sDraw ["_law_pen_here", "_law_many"] fD dD)
    (U1 : Def K mg "_law_pairs_right" sPairs ["_law_told"] f1 d1) (U2 : Def K mg "_law_wrongs_right" sWro ["_law_told"] f2 d2) (U3 : Def K mg "_law_others_right" sOth ["_law_told"] f3 d3) : FnG P w K mg base CX0 10 f fd ["_law_script"] (spLaw K) := by
  have GN : FnOk P w K mg base CX0 1 fN dN ["_law_script"] (spPen K) := ok_pen (fD := fD) UN.F T
  have GA : FnOk P w K mg base CX0 3 fA dA ["_law_pen_here"] spAny := ok_any UA.F T UP UD
  have G1 : FnG P w K mg base CX0 9 f1 d1 ["_law_told"] spTold := ok_pairs R U1.F
  have G2 : FnG P w K mg base CX0 9 f2 d2 ["_law_told"] spTold := ok_wro R U2.F
  have G3 : FnG P w K mg base CX0 9 f3 d3 ["_law_told"] spTold := ok_oth R U3.F
  refine Fun.okG F scLaw (fun vs H Q E h => ?_) (fun cdv A outer s H vs Q E hG hr h => ?_)
  · obtain ⟨a, ns, rfl, _⟩ := h
    rfl
  · obtain ⟨a, ns, rfl, hS, k⟩ := h
    have hG2 : (A.deeper (PyProof.Rows.envOfC "law" (defScope sLaw) s.heap.objs.size f cdv)).guards = some [] := hG
    refine ⟨_, (pss_cons (ps_set (i := 1) scLaw.nd rfl (Or.inr rfl) (pe_call GN (hr.mono (by decide)) rfl UN.g UN.k UN.b .nil pass0 (pa_cons (pv 0) pa_nil)))
      (pss_cons (ps_for PassesOwn.never rfl (pi_range1 rfl R.rng (pa_cons pe_int pa_nil)) (pg_name (i := 3) scLaw.nd rfl (Or.inl rfl))
        (pss_cons (ps_setLc (i := 2) (own := [("_law_spot", 4)]) (g := gName 4) (tt := tYes) (te := tCall spAny [] E0 (tCons (tVar 1) tNil)) rfl scLaw.nd rfl rfl (sw_true rfl rfl rfl (by decide +kernel)) (pi_range1 rfl R.rng (pa_cons pe_int pa_nil)) (blkOk_by (N := NL) (sc := defScope sLaw) (by decide +kernel)) (fun _ _ _ _ _ => pg_name (i := 4) scLaw.nd rfl (Or.inl rfl)) (fun _ _ _ _ _ => pts_nil) (fun _ _ _ _ _ => pe_call GA (hr.mono (by decide)) rfl UA.g UA.k UA.b .nil pass0 (pa_cons (pv 1) pa_nil)))
        (pss_one (ps_if (PW.pt (pw_or (pt_not (pt_val (pe_callG G1 hG2 (hr.mono (by decide)) rfl U1.g U1.k U1.b pass0 (pa_cons (pv 2) pa_nil)))) (pw_or (pt_not (pt_val (pe_callG G2 hG2 (hr.mono (by decide)) rfl U2.g U2.k U2.b pass0 (pa_cons (pv 2) pa_nil)))) (pw_or1 (pt_not (pt_val (pe_callG G3 hG2 (hr.mono (by decide)) rfl U3.g U3.k U3.b pass0 (pa_cons (pv 2) pa_nil)))))))) (pss_one (ps_ret pe_bl)) pss_nil))))
      (pss_one (ps_ret pe_bl)))), ?_⟩
    refine ⟨_, rfl, a, ns, rfl, hS, fun H1 p c s1 pen1 => ?_⟩
    show tSeq _ _ _ [some (.ref a), some (.ref p), none, none, none] _
    refine ⟨6, rfl, by decide, by decide, for_range (n := 6) (fun i σ G => Pen G p c (5 * i) ∧ ∃ v2 v3, σ = [some (.ref a), some (.ref p), v2, v3, none]) ⟨pen1, _, _, rfl⟩ ?_ ?_⟩
    · rintro i σ G hi ⟨pen, v2, v3, rfl⟩
      show tSeq _ _ _ [some (.ref a), some (.ref p), v2, some (.int (0 + (i : Int))), none] _
      refine ⟨5, rfl, by decide, by decide, fun D hD => lc_range (lo := 0) (n := 5) (fun j G4 => Pen G4 p c (5 * i + j) ∧ D ≠ p ∧ D ≠ c ∧ ∃ us ks, G4 D = some (.lst us) ∧ us.length = j ∧ ZvAll (hide D G4) us ks) ?_ ?_ ?_⟩
      · obtain ⟨_, _, _, e, e2, _⟩ := id pen
        exact ⟨pen.keep (same_new hD), (ne_of_none e hD).symm, (ne_of_none e2 hD).symm, [], [], upd_same, rfl, True.intro⟩
      · rintro j G4 hj ⟨pen4, np, nc, us, ks, hDl, len, z⟩
        refine ⟨rfl, yesY ?_⟩
        refine ⟨_, rfl, p, c, 5 * i + j, rfl, pen4, by omega, fun H' k v kp pen' zv => ?_⟩
        refine ⟨us, kp _ _ np hDl, by rw [len]; exact Nat.lt_of_lt_of_le hj (by decide), Pen.off pen' np nc, np, nc, us ++ [v], ks ++ [k], upd_same, by simp [len], ZvAll.snoc (Zv.same (fun b o e => ?_) zv) ?_⟩
        · obtain ⟨n4, e4⟩ := newIn_of e
          have nD : b ≠ D := fun z => by rw [z, hDl] at n4; cases n4
          exact hide_at nD (by rw [upd_ne nD]; exact e4)
        · obtain ⟨cl, at0, g0, e, _⟩ := pen4
          refine ZvAll.grow (hide_at np.symm e) (fun b o nb e => ?_) z
          have nD : b ≠ D := fun z => by
            rw [z] at e
            unfold hide at e
            rw [if_pos rfl] at e
            cases e
          exact hide_at nD (by rw [upd_ne nD]; exact kp _ _ nb (hide_same _ _ e))
      · rintro G4 ⟨pen4, np, nc, us, ks, hDl, len, z⟩
        have z4 : ZvAll G4 us ks := ZvAll.same hide_same z
        refine gset (σ2 := [some (.ref a), some (.ref p), some (.ref D), some (.int (0 + (i : Int))), none]) rfl ?_
        refine ⟨_, rfl, D, us, ks, rfl, hDl, z4, len, fun H5 s5 => ⟨_, rfl, noB rfl ?_⟩⟩
        refine ⟨_, rfl, D, us, ks, rfl, s5 _ _ hDl, ZvAll.same s5 z4, len, fun H6 s6 => ⟨_, rfl, noB rfl ?_⟩⟩
        refine ⟨_, rfl, D, us, ks, rfl, s6 _ _ (s5 _ _ hDl), ZvAll.same (s5.trans s6) z4, len, fun H7 s7 => ⟨_, rfl, noB rfl ?_⟩⟩
        exact ⟨(pen4.keep ((s5.trans s6).trans s7)).mono (by omega), _, _, rfl⟩
    · rintro σ G ⟨_, _, _, rfl⟩
      exact k _
end
end Kpp
namespace Kpp
open PySem PySem.Spec PyProof.Rows L2 Gd
open Kone (Def Pen Keep spPen spDraw spPick TxtD TxtK same_new)
/-! ### the texts of the classes -/
/-- an __init__: each field a kept argument -/
structure TxI (i : Nat) (q : Str) (st : Stmt) : Prop where
  ex : ∃ r : List (Str × Ps6), r.map (·.1) = fldN i ∧ (defBody st = (idx 1 r).map fun x => fdS x.1 x.2.2) ∧ Each (Fdx (defScope st) (("self" : Str) :: fldN i)) (idx 1 r)
  S : FnScope (("self" : Str) :: fldN i) (("self" : Str) :: fldN i) (defScope st)
  h0 : Vis (defScope st) "self"
  hk : (defScope st).names.lookup ("kept" : Str) = some .globalImplicit
  b : ∀ (kV doc pm : Value) (an : Option Addr) (cdv ct : Value) (us : List Value), us.length = (("self" : Str) :: fldN i).length → bindArgs (PySem.W.fnOf "__init__" q (defArgs st) (defBody st) (defScope st) .none kV doc pm an cdv ct) ⟨us, []⟩ = pure ((("self" : Str) :: fldN i).zip us)
  k : ∀ (kV doc pm : Value) (an : Option Addr) (cdv ct : Value) (us ws : List Value), us.length = 1 → ws.length = (fldN i).reverse.length → bindArgs (PySem.W.fnOf "__init__" q (defArgs st) (defBody st) (defScope st) .none kV doc pm an cdv ct) ⟨us, (fldN i).reverse.zip ws⟩ = pure ((("self" : Str) :: fldN i).zip (gRev us ws))
/-- an __eq__ -/
structure TxE (i : Nat) (q : Str) (st : Stmt) : Prop where
  ex : ∃ (l : List (Str × Ps5)) (z : Ps4) (p1 p2 : Pos), l.map (·.1) = fldN i ∧ (defBody st = [.Return (some (.BoolOp .And (isE (clsN i) z :: l.map fun x => cmpE x.1 x.2) p1)) p2] ∨ (l = [] ∧ defBody st = [.Return (some (isE (clsN i) z)) p2]))
  S : FnScope ["self", "other"] ["self", "other"] (defScope st)
  h0 : Vis (defScope st) "self"
  h1 : Vis (defScope st) "other"
  hi : (defScope st).names.lookup ("isinstance" : Str) = some .globalImplicit
  hx : (defScope st).names.lookup (clsN i) = some .globalImplicit
  b : ∀ (kV doc pm : Value) (an : Option Addr) (cdv ct : Value) (us : List Value), us.length = (["self", "other"] : List Str).length → bindArgs (PySem.W.fnOf "__eq__" q (defArgs st) (defBody st) (defScope st) .none kV doc pm an cdv ct) ⟨us, []⟩ = pure ((["self", "other"] : List Str).zip us)
/-- a __bool__ -/
structure TxB (i : Nat) (q : Str) (st : Stmt) : Prop where
  ex : ∃ (n : Nat) (p1 p2 : Pos), defBody st = [.Return (some (.Constant (.bool (trB i)) n p1)) p2]
  S : FnScope ["self"] ["self"] (defScope st)
  b : ∀ (kV doc pm : Value) (an : Option Addr) (cdv ct : Value) (us : List Value), us.length = (["self"] : List Str).length → bindArgs (PySem.W.fnOf "__bool__" q (defArgs st) (defBody st) (defScope st) .none kV doc pm an cdv ct) ⟨us, []⟩ = pure ((["self"] : List Str).zip us)
theorem vals_rev : ∀ {vs : List V} {us : List Value}, Vals vs us → Vals vs.reverse us.reverse
  | _, _, .nil => .nil
  | _, _, .cons r t => by
    rw [List.reverse_cons, List.reverse_cons]
    exact Vals.append (vals_rev t) (.cons r .nil)
section
variable {K : PySem.W.Frag} {f : Addr} {oc : Value} {od an : Option Addr} {sl : Array (Option Value)} {kV dc pm cd ct : Value} {q : Str} {st : Stmt} {i : Nat}
/-- what a class asks of its __init__, whatever runs -/
def MK (K : PySem.W.Frag) (i : Nat) (C : Addr) : Prop := ∀ (P : Program) (w : World) (mg : Str → Option Value) (base : Heap), TxtK mg → ∀ {fK : Addr} {fdK : FuncData}, Def K mg "kept" Kone.sKept ["value"] fK fdK → ∀ cs : Nat → Addr, cs i = C → Cls K C → (∀ f ∈ fldN i, NoAttr K C f) →
  ∃ fI fd, Mk K (cs i) fI ∧ FnOk P w K mg base CX0 6 fI fd (("self" : Str) :: fldN i) (spMk cs i) ∧ Binds K fd (("self" : Str) :: fldN i) [] ∧ KBn K fd (("self" : Str) :: fldN i) 1 (fldN i).reverse gRev gRev
theorem each_of {α : Type} {F : α → Prop} : ∀ {l : List α}, (∀ x ∈ l, F x) → Each F l
  | [], _ => True.intro
  | _ :: _, h => ⟨h _ (List.mem_cons_self ..), each_of fun y m => h y (List.mem_cons_of_mem _ m)⟩
theorem mk_mk {C : Addr} (T : TxI i q st) (li : i < 13) (mk : PySem.W.makesIn K C = true) (fi : PySem.W.findIn K (.ref C) "__init__" = some (some (.ref f))) (ii : PySem.W.isFn K (.ref f) = true) (kc : PySem.W.keepIn K (.ref C) = true)
    (l : K.lookup f = some ⟨oc, od, .func (PySem.W.fnOf "__init__" q (defArgs st) (defBody st) (defScope st) .none kV dc pm an cd ct), sl⟩) (c : PySem.W.codeIn K cd q = true) (k : PySem.W.keepIn K (.ref f) = true) : MK K i C := by
  intro P w mg base TK fK fdK U cs hC cl na
  subst hC
  have F := fun_mk (st := st) l c k
  obtain ⟨r, hr, hB, each⟩ := T.ex
  have rn : (idx 1 r).map (·.1) = fldN i := by rw [idx_names, hr]
  refine ⟨f, _, ⟨mk, fi, ii, kc⟩, mk_of_ini rfl hr (ok_ini F TK U T.S hB rfl T.h0 T.hk each cl (each_of fun x m => na x.1 (by rw [← rn]; exact List.mem_map_of_mem m)) (by rw [rn]; exact nodup_fld i) ?_), F.binds T.b, ⟨fun s us ws _ l1 l2 => .of_eq (T.k _ _ _ _ _ _ us ws l1 l2), fun a b => Vals.append a (vals_rev b)⟩⟩
  have e : (idx 1 r).length = (fldN i).length := by rw [← rn, List.length_map]
  rw [e]
  match i, li with
  | 0, _ | 1, _ | 2, _ | 3, _ | 4, _ | 5, _ | 6, _ | 7, _ | 8, _ | 9, _ | 10, _ | 11, _ | 12, _ => decide
/-- .. of its __eq__ -/
def ME (K : PySem.W.Frag) (i : Nat) (C : Addr) : Prop := ∀ (P : Program) (w : World) (mg : Str → Option Value) (base : Heap), mg "isinstance" = none → mg (clsN i) = some (.ref C) → Cls K C → (∀ (H : Hp) (b dy : Addr) (hs : List (Str × V)), H b = some (.ins C dy hs) → TyOf K H (.ref b) (.ref C)) → PySem.W.kitOne K (.ref C) (.ref C) = some true → (∀ f ∈ fldN i, NoAttr K C f) →
  ∃ fE fd, PySem.W.findIn K (.ref C) "__eq__" = some (some (.ref fE)) ∧ PySem.W.isFn K (.ref fE) = true ∧ FnOk P w K mg base CX0 1 fE fd ["self", "other"] (spEqC K C (fldN i)) ∧ Binds K fd ["self", "other"] []
theorem me_mk {C : Addr} (T : TxE i q st) (hd : (clsN i == ("__debug__" : Str)) = false) (fi : PySem.W.findIn K (.ref C) "__eq__" = some (some (.ref f))) (ii : PySem.W.isFn K (.ref f) = true)
    (l : K.lookup f = some ⟨oc, od, .func (PySem.W.fnOf "__eq__" q (defArgs st) (defBody st) (defScope st) .none kV dc pm an cd ct), sl⟩) (c : PySem.W.codeIn K cd q = true) (k : PySem.W.keepIn K (.ref f) = true) : ME K i C := by
  intro P w mg base isi hx cl ty kit na
  have F := fun_mk (st := st) l c k
  obtain ⟨r, z, p1, p2, hr, hB⟩ := T.ex
  refine ⟨f, _, fi, ii, ?_, F.binds T.b⟩
  have z := ok_eqC (P := P) (w := w) (base := base) F T.S hB T.h0 T.h1 T.hi T.hx hd isi hx cl ty kit (by rw [hr]; exact na) (by rw [hr]; exact nodup_fld i)
  rw [hr] at z
  exact z
/-- .. of its __bool__ -/
def MB (K : PySem.W.Frag) (i : Nat) (C : Addr) : Prop := ∀ (P : Program) (w : World) (mg : Str → Option Value) (base : Heap), ∃ fB fd, PySem.W.findIn K (.ref C) "__bool__" = some (some (.ref fB)) ∧ PySem.W.isFn K (.ref fB) = true ∧ FnOk P w K mg base CX0 1 fB fd ["self"] (spBool (trB i)) ∧ Binds K fd ["self"] []
theorem mb_mk {C : Addr} (T : TxB i q st) (fi : PySem.W.findIn K (.ref C) "__bool__" = some (some (.ref f))) (ii : PySem.W.isFn K (.ref f) = true)
    (l : K.lookup f = some ⟨oc, od, .func (PySem.W.fnOf "__bool__" q (defArgs st) (defBody st) (defScope st) .none kV dc pm an cd ct), sl⟩) (c : PySem.W.codeIn K cd q = true) (k : PySem.W.keepIn K (.ref f) = true) : MB K i C := by
  intro P w mg base
  have F := fun_mk (st := st) l c k
  obtain ⟨n, p1, p2, hB⟩ := T.ex
  exact ⟨f, _, fi, ii, ok_bool F T.S hB, F.binds T.b⟩
end
theorem txI0 : TxI 0 "Nought.__init__" (inClass (Kone.top 17) 0) := ⟨⟨[("readings", ⟨_, _, _, _, _, _⟩), ("factors", ⟨_, _, _, _, _, _⟩)], rfl, rfl, ⟨rfl, Or.inl rfl, by decide, by decide, fun _ => rfl⟩, ⟨rfl, Or.inl rfl, by decide, by decide, fun _ => rfl⟩, True.intro⟩, ⟨rfl, rfl, rfl, by decide +kernel, rfl, by decide +kernel, by decide +kernel⟩, Or.inl rfl, rfl, fun _ _ _ _ _ _ us hl => match us, hl with | [_, _, _], _ => rfl, fun _ _ _ _ _ _ us ws h1 h2 => match us, ws, h1, h2 with | [_], [_, _], _, _ => rfl⟩
theorem txE0 : TxE 0 "Nought.__eq__" (inClass (Kone.top 17) 1) := ⟨⟨[("readings", ⟨_, _, _, _, _⟩), ("factors", ⟨_, _, _, _, _⟩)], ⟨_, _, _, _⟩, _, _, rfl, Or.inl rfl⟩, ⟨rfl, rfl, rfl, by decide +kernel, rfl, by decide +kernel, by decide +kernel⟩, Or.inl rfl, Or.inl rfl, rfl, rfl, fun _ _ _ _ _ _ us hl => match us, hl with | [_, _], _ => rfl⟩
theorem txB0 : TxB 0 "Nought.__bool__" (inClass (Kone.top 17) 2) := ⟨⟨_, _, _, rfl⟩, ⟨rfl, rfl, rfl, by decide +kernel, rfl, by decide +kernel, by decide +kernel⟩, fun _ _ _ _ _ _ us hl => match us, hl with | [_], _ => rfl⟩
theorem txI1 : TxI 1 "Alike.__init__" (inClass (Kone.top 8) 0) := ⟨⟨[("readings", ⟨_, _, _, _, _, _⟩), ("factors", ⟨_, _, _, _, _, _⟩)], rfl, rfl, ⟨rfl, Or.inl rfl, by decide, by decide, fun _ => rfl⟩, ⟨rfl, Or.inl rfl, by decide, by decide, fun _ => rfl⟩, True.intro⟩, ⟨rfl, rfl, rfl, by decide +kernel, rfl, by decide +kernel, by decide +kernel⟩, Or.inl rfl, rfl, fun _ _ _ _ _ _ us hl => match us, hl with | [_, _, _], _ => rfl, fun _ _ _ _ _ _ us ws h1 h2 => match us, ws, h1, h2 with | [_], [_, _], _, _ => rfl⟩
theorem txE1 : TxE 1 "Alike.__eq__" (inClass (Kone.top 8) 1) := ⟨⟨[("readings", ⟨_, _, _, _, _⟩), ("factors", ⟨_, _, _, _, _⟩)], ⟨_, _, _, _⟩, _, _, rfl, Or.inl rfl⟩, ⟨rfl, rfl, rfl, by decide +kernel, rfl, by decide +kernel, by decide +kernel⟩, Or.inl rfl, Or.inl rfl, rfl, rfl, fun _ _ _ _ _ _ us hl => match us, hl with | [_, _], _ => rfl⟩
theorem txB1 : TxB 1 "Alike.__bool__" (inClass (Kone.top 8) 2) := ⟨⟨_, _, _, rfl⟩, ⟨rfl, rfl, rfl, by decide +kernel, rfl, by decide +kernel, by decide +kernel⟩, fun _ _ _ _ _ _ us hl => match us, hl with | [_], _ => rfl⟩
theorem txI2 : TxI 2 "Right.__init__" (inClass (Kone.top 5) 0) := ⟨⟨[("readings", ⟨_, _, _, _, _, _⟩), ("factors", ⟨_, _, _, _, _, _⟩)], rfl, rfl, ⟨rfl, Or.inl rfl, by decide, by decide, fun _ => rfl⟩, ⟨rfl, Or.inl rfl, by decide, by decide, fun _ => rfl⟩, True.intro⟩, ⟨rfl, rfl, rfl, by decide +kernel, rfl, by decide +kernel, by decide +kernel⟩, Or.inl rfl, rfl, fun _ _ _ _ _ _ us hl => match us, hl with | [_, _, _], _ => rfl, fun _ _ _ _ _ _ us ws h1 h2 => match us, ws, h1, h2 with | [_], [_, _], _, _ => rfl⟩
theorem txE2 : TxE 2 "Right.__eq__" (inClass (Kone.top 5) 1) := ⟨⟨[("readings", ⟨_, _, _, _, _⟩), ("factors", ⟨_, _, _, _, _⟩)], ⟨_, _, _, _⟩, _, _, rfl, Or.inl rfl⟩, ⟨rfl, rfl, rfl, by decide +kernel, rfl, by decide +kernel, by decide +kernel⟩, Or.inl rfl, Or.inl rfl, rfl, rfl, fun _ _ _ _ _ _ us hl => match us, hl with | [_, _], _ => rfl⟩
theorem txB2 : TxB 2 "Right.__bool__" (inClass (Kone.top 5) 2) := ⟨⟨_, _, _, rfl⟩, ⟨rfl, rfl, rfl, by decide +kernel, rfl, by decide +kernel, by decide +kernel⟩, fun _ _ _ _ _ _ us hl => match us, hl with | [_], _ => rfl⟩
theorem txI3 : TxI 3 "Whole.__init__" (inClass (Kone.top 11) 0) := ⟨⟨[("readings", ⟨_, _, _, _, _, _⟩), ("factors", ⟨_, _, _, _, _, _⟩)], rfl, rfl, ⟨rfl, Or.inl rfl, by decide, by decide, fun _ => rfl⟩, ⟨rfl, Or.inl rfl, by decide, by decide, fun _ => rfl⟩, True.intro⟩, ⟨rfl, rfl, rfl, by decide +kernel, rfl, by decide +kernel, by decide +kernel⟩, Or.inl rfl, rfl, fun _ _ _ _ _ _ us hl => match us, hl with | [_, _, _], _ => rfl, fun _ _ _ _ _ _ us ws h1 h2 => match us, ws, h1, h2 with | [_], [_, _], _, _ => rfl⟩
theorem txE3 : TxE 3 "Whole.__eq__" (inClass (Kone.top 11) 1) := ⟨⟨[("readings", ⟨_, _, _, _, _⟩), ("factors", ⟨_, _, _, _, _⟩)], ⟨_, _, _, _⟩, _, _, rfl, Or.inl rfl⟩, ⟨rfl, rfl, rfl, by decide +kernel, rfl, by decide +kernel, by decide +kernel⟩, Or.inl rfl, Or.inl rfl, rfl, rfl, fun _ _ _ _ _ _ us hl => match us, hl with | [_, _], _ => rfl⟩
theorem txB3 : TxB 3 "Whole.__bool__" (inClass (Kone.top 11) 2) := ⟨⟨_, _, _, rfl⟩, ⟨rfl, rfl, rfl, by decide +kernel, rfl, by decide +kernel, by decide +kernel⟩, fun _ _ _ _ _ _ us hl => match us, hl with | [_], _ => rfl⟩
theorem txI4 : TxI 4 "Somewhere.__init__" (inClass (Kone.top 18) 0) := ⟨⟨[("words", ⟨_, _, _, _, _, _⟩), ("value", ⟨_, _, _, _, _, _⟩)], rfl, rfl, ⟨rfl, Or.inl rfl, by decide, by decide, fun _ => rfl⟩, ⟨rfl, Or.inl rfl, by decide, by decide, fun _ => rfl⟩, True.intro⟩, ⟨rfl, rfl, rfl, by decide +kernel, rfl, by decide +kernel, by decide +kernel⟩, Or.inl rfl, rfl, fun _ _ _ _ _ _ us hl => match us, hl with | [_, _, _], _ => rfl, fun _ _ _ _ _ _ us ws h1 h2 => match us, ws, h1, h2 with | [_], [_, _], _, _ => rfl⟩
theorem txE4 : TxE 4 "Somewhere.__eq__" (inClass (Kone.top 18) 1) := ⟨⟨[("words", ⟨_, _, _, _, _⟩), ("value", ⟨_, _, _, _, _⟩)], ⟨_, _, _, _⟩, _, _, rfl, Or.inl rfl⟩, ⟨rfl, rfl, rfl, by decide +kernel, rfl, by decide +kernel, by decide +kernel⟩, Or.inl rfl, Or.inl rfl, rfl, rfl, fun _ _ _ _ _ _ us hl => match us, hl with | [_, _], _ => rfl⟩
theorem txB4 : TxB 4 "Somewhere.__bool__" (inClass (Kone.top 18) 2) := ⟨⟨_, _, _, rfl⟩, ⟨rfl, rfl, rfl, by decide +kernel, rfl, by decide +kernel, by decide +kernel⟩, fun _ _ _ _ _ _ us hl => match us, hl with | [_], _ => rfl⟩
theorem txI5 : TxI 5 "Apart.__init__" (inClass (Kone.top 9) 0) := ⟨⟨[("words", ⟨_, _, _, _, _, _⟩), ("one", ⟨_, _, _, _, _, _⟩), ("other", ⟨_, _, _, _, _, _⟩)], rfl, rfl, ⟨rfl, Or.inl rfl, by decide, by decide, fun _ => rfl⟩, ⟨rfl, Or.inl rfl, by decide, by decide, fun _ => rfl⟩, ⟨rfl, Or.inl rfl, by decide, by decide, fun _ => rfl⟩, True.intro⟩, ⟨rfl, rfl, rfl, by decide +kernel, rfl, by decide +kernel, by decide +kernel⟩, Or.inl rfl, rfl, fun _ _ _ _ _ _ us hl => match us, hl with | [_, _, _, _], _ => rfl, fun _ _ _ _ _ _ us ws h1 h2 => match us, ws, h1, h2 with | [_], [_, _, _], _, _ => rfl⟩
theorem txE5 : TxE 5 "Apart.__eq__" (inClass (Kone.top 9) 1) := ⟨⟨[("words", ⟨_, _, _, _, _⟩), ("one", ⟨_, _, _, _, _⟩), ("other", ⟨_, _, _, _, _⟩)], ⟨_, _, _, _⟩, _, _, rfl, Or.inl rfl⟩, ⟨rfl, rfl, rfl, by decide +kernel, rfl, by decide +kernel, by decide +kernel⟩, Or.inl rfl, Or.inl rfl, rfl, rfl, fun _ _ _ _ _ _ us hl => match us, hl with | [_, _], _ => rfl⟩
theorem txB5 : TxB 5 "Apart.__bool__" (inClass (Kone.top 9) 2) := ⟨⟨_, _, _, rfl⟩, ⟨rfl, rfl, rfl, by decide +kernel, rfl, by decide +kernel, by decide +kernel⟩, fun _ _ _ _ _ _ us hl => match us, hl with | [_], _ => rfl⟩
theorem txI6 : TxI 6 "Wrong.__init__" (inClass (Kone.top 6) 0) := ⟨⟨[("entry", ⟨_, _, _, _, _, _⟩), ("question", ⟨_, _, _, _, _, _⟩), ("told", ⟨_, _, _, _, _, _⟩), ("due", ⟨_, _, _, _, _, _⟩)], rfl, rfl, ⟨rfl, Or.inl rfl, by decide, by decide, fun _ => rfl⟩, ⟨rfl, Or.inl rfl, by decide, by decide, fun _ => rfl⟩, ⟨rfl, Or.inl rfl, by decide, by decide, fun _ => rfl⟩, ⟨rfl, Or.inl rfl, by decide, by decide, fun _ => rfl⟩, True.intro⟩, ⟨rfl, rfl, rfl, by decide +kernel, rfl, by decide +kernel, by decide +kernel⟩, Or.inl rfl, rfl, fun _ _ _ _ _ _ us hl => match us, hl with | [_, _, _, _, _], _ => rfl, fun _ _ _ _ _ _ us ws h1 h2 => match us, ws, h1, h2 with | [_], [_, _, _, _], _, _ => rfl⟩
theorem txE6 : TxE 6 "Wrong.__eq__" (inClass (Kone.top 6) 1) := ⟨⟨[("entry", ⟨_, _, _, _, _⟩), ("question", ⟨_, _, _, _, _⟩), ("told", ⟨_, _, _, _, _⟩), ("due", ⟨_, _, _, _, _⟩)], ⟨_, _, _, _⟩, _, _, rfl, Or.inl rfl⟩, ⟨rfl, rfl, rfl, by decide +kernel, rfl, by decide +kernel, by decide +kernel⟩, Or.inl rfl, Or.inl rfl, rfl, rfl, fun _ _ _ _ _ _ us hl => match us, hl with | [_, _], _ => rfl⟩
theorem txB6 : TxB 6 "Wrong.__bool__" (inClass (Kone.top 6) 2) := ⟨⟨_, _, _, rfl⟩, ⟨rfl, rfl, rfl, by decide +kernel, rfl, by decide +kernel, by decide +kernel⟩, fun _ _ _ _ _ _ us hl => match us, hl with | [_], _ => rfl⟩
theorem txI7 : TxI 7 "Torn.__init__" (inClass (Kone.top 12) 0) := ⟨⟨[("entry", ⟨_, _, _, _, _, _⟩), ("question", ⟨_, _, _, _, _, _⟩), ("cell", ⟨_, _, _, _, _, _⟩), ("worth", ⟨_, _, _, _, _, _⟩)], rfl, rfl, ⟨rfl, Or.inl rfl, by decide, by decide, fun _ => rfl⟩, ⟨rfl, Or.inl rfl, by decide, by decide, fun _ => rfl⟩, ⟨rfl, Or.inl rfl, by decide, by decide, fun _ => rfl⟩, ⟨rfl, Or.inl rfl, by decide, by decide, fun _ => rfl⟩, True.intro⟩, ⟨rfl, rfl, rfl, by decide +kernel, rfl, by decide +kernel, by decide +kernel⟩, Or.inl rfl, rfl, fun _ _ _ _ _ _ us hl => match us, hl with | [_, _, _, _, _], _ => rfl, fun _ _ _ _ _ _ us ws h1 h2 => match us, ws, h1, h2 with | [_], [_, _, _, _], _, _ => rfl⟩
theorem txE7 : TxE 7 "Torn.__eq__" (inClass (Kone.top 12) 1) := ⟨⟨[("entry", ⟨_, _, _, _, _⟩), ("question", ⟨_, _, _, _, _⟩), ("cell", ⟨_, _, _, _, _⟩), ("worth", ⟨_, _, _, _, _⟩)], ⟨_, _, _, _⟩, _, _, rfl, Or.inl rfl⟩, ⟨rfl, rfl, rfl, by decide +kernel, rfl, by decide +kernel, by decide +kernel⟩, Or.inl rfl, Or.inl rfl, rfl, rfl, fun _ _ _ _ _ _ us hl => match us, hl with | [_, _], _ => rfl⟩
theorem txB7 : TxB 7 "Torn.__bool__" (inClass (Kone.top 12) 2) := ⟨⟨_, _, _, rfl⟩, ⟨rfl, rfl, rfl, by decide +kernel, rfl, by decide +kernel, by decide +kernel⟩, fun _ _ _ _ _ _ us hl => match us, hl with | [_], _ => rfl⟩
theorem txI8 : TxI 8 "Uncovered.__init__" (inClass (Kone.top 15) 0) := ⟨⟨[("entry", ⟨_, _, _, _, _, _⟩), ("question", ⟨_, _, _, _, _, _⟩), ("told", ⟨_, _, _, _, _, _⟩), ("due", ⟨_, _, _, _, _, _⟩)], rfl, rfl, ⟨rfl, Or.inl rfl, by decide, by decide, fun _ => rfl⟩, ⟨rfl, Or.inl rfl, by decide, by decide, fun _ => rfl⟩, ⟨rfl, Or.inl rfl, by decide, by decide, fun _ => rfl⟩, ⟨rfl, Or.inl rfl, by decide, by decide, fun _ => rfl⟩, True.intro⟩, ⟨rfl, rfl, rfl, by decide +kernel, rfl, by decide +kernel, by decide +kernel⟩, Or.inl rfl, rfl, fun _ _ _ _ _ _ us hl => match us, hl with | [_, _, _, _, _], _ => rfl, fun _ _ _ _ _ _ us ws h1 h2 => match us, ws, h1, h2 with | [_], [_, _, _, _], _, _ => rfl⟩
theorem txE8 : TxE 8 "Uncovered.__eq__" (inClass (Kone.top 15) 1) := ⟨⟨[("entry", ⟨_, _, _, _, _⟩), ("question", ⟨_, _, _, _, _⟩), ("told", ⟨_, _, _, _, _⟩), ("due", ⟨_, _, _, _, _⟩)], ⟨_, _, _, _⟩, _, _, rfl, Or.inl rfl⟩, ⟨rfl, rfl, rfl, by decide +kernel, rfl, by decide +kernel, by decide +kernel⟩, Or.inl rfl, Or.inl rfl, rfl, rfl, fun _ _ _ _ _ _ us hl => match us, hl with | [_, _], _ => rfl⟩
theorem txB8 : TxB 8 "Uncovered.__bool__" (inClass (Kone.top 15) 2) := ⟨⟨_, _, _, rfl⟩, ⟨rfl, rfl, rfl, by decide +kernel, rfl, by decide +kernel, by decide +kernel⟩, fun _ _ _ _ _ _ us hl => match us, hl with | [_], _ => rfl⟩
theorem txI9 : TxI 9 "TwoWays.__init__" (inClass (Kone.top 23) 0) := ⟨⟨[("words", ⟨_, _, _, _, _, _⟩)], rfl, rfl, ⟨rfl, Or.inl rfl, by decide, by decide, fun _ => rfl⟩, True.intro⟩, ⟨rfl, rfl, rfl, by decide +kernel, rfl, by decide +kernel, by decide +kernel⟩, Or.inl rfl, rfl, fun _ _ _ _ _ _ us hl => match us, hl with | [_, _], _ => rfl, fun _ _ _ _ _ _ us ws h1 h2 => match us, ws, h1, h2 with | [_], [_], _, _ => rfl⟩
theorem txE9 : TxE 9 "TwoWays.__eq__" (inClass (Kone.top 23) 1) := ⟨⟨[("words", ⟨_, _, _, _, _⟩)], ⟨_, _, _, _⟩, _, _, rfl, Or.inl rfl⟩, ⟨rfl, rfl, rfl, by decide +kernel, rfl, by decide +kernel, by decide +kernel⟩, Or.inl rfl, Or.inl rfl, rfl, rfl, fun _ _ _ _ _ _ us hl => match us, hl with | [_, _], _ => rfl⟩
theorem txB9 : TxB 9 "TwoWays.__bool__" (inClass (Kone.top 23) 2) := ⟨⟨_, _, _, rfl⟩, ⟨rfl, rfl, rfl, by decide +kernel, rfl, by decide +kernel, by decide +kernel⟩, fun _ _ _ _ _ _ us hl => match us, hl with | [_], _ => rfl⟩
theorem txI10 : TxI 10 "Covered.__init__" (inClass (Kone.top 14) 0) := ⟨⟨[("pairs", ⟨_, _, _, _, _, _⟩)], rfl, rfl, ⟨rfl, Or.inl rfl, by decide, by decide, fun _ => rfl⟩, True.intro⟩, ⟨rfl, rfl, rfl, by decide +kernel, rfl, by decide +kernel, by decide +kernel⟩, Or.inl rfl, rfl, fun _ _ _ _ _ _ us hl => match us, hl with | [_, _], _ => rfl, fun _ _ _ _ _ _ us ws h1 h2 => match us, ws, h1, h2 with | [_], [_], _, _ => rfl⟩
theorem txE10 : TxE 10 "Covered.__eq__" (inClass (Kone.top 14) 1) := ⟨⟨[("pairs", ⟨_, _, _, _, _⟩)], ⟨_, _, _, _⟩, _, _, rfl, Or.inl rfl⟩, ⟨rfl, rfl, rfl, by decide +kernel, rfl, by decide +kernel, by decide +kernel⟩, Or.inl rfl, Or.inl rfl, rfl, rfl, fun _ _ _ _ _ _ us hl => match us, hl with | [_, _], _ => rfl⟩
theorem txB10 : TxB 10 "Covered.__bool__" (inClass (Kone.top 14) 2) := ⟨⟨_, _, _, rfl⟩, ⟨rfl, rfl, rfl, by decide +kernel, rfl, by decide +kernel, by decide +kernel⟩, fun _ _ _ _ _ _ us hl => match us, hl with | [_], _ => rfl⟩
theorem txI11 : TxI 11 "Rank.__init__" (inClass (Kone.top 20) 0) := ⟨⟨[("number", ⟨_, _, _, _, _, _⟩), ("ahead", ⟨_, _, _, _, _, _⟩), ("behind", ⟨_, _, _, _, _, _⟩)], rfl, rfl, ⟨rfl, Or.inl rfl, by decide, by decide, fun _ => rfl⟩, ⟨rfl, Or.inl rfl, by decide, by decide, fun _ => rfl⟩, ⟨rfl, Or.inl rfl, by decide, by decide, fun _ => rfl⟩, True.intro⟩, ⟨rfl, rfl, rfl, by decide +kernel, rfl, by decide +kernel, by decide +kernel⟩, Or.inl rfl, rfl, fun _ _ _ _ _ _ us hl => match us, hl with | [_, _, _, _], _ => rfl, fun _ _ _ _ _ _ us ws h1 h2 => match us, ws, h1, h2 with | [_], [_, _, _], _, _ => rfl⟩
theorem txE11 : TxE 11 "Rank.__eq__" (inClass (Kone.top 20) 1) := ⟨⟨[("number", ⟨_, _, _, _, _⟩), ("ahead", ⟨_, _, _, _, _⟩), ("behind", ⟨_, _, _, _, _⟩)], ⟨_, _, _, _⟩, _, _, rfl, Or.inl rfl⟩, ⟨rfl, rfl, rfl, by decide +kernel, rfl, by decide +kernel, by decide +kernel⟩, Or.inl rfl, Or.inl rfl, rfl, rfl, fun _ _ _ _ _ _ us hl => match us, hl with | [_, _], _ => rfl⟩
theorem txE12 : TxE 12 "OneWay.__eq__" (inClass (Kone.top 22) 0) := ⟨⟨[], ⟨_, _, _, _⟩, ⟨0, 0, 0, 0⟩, _, rfl, Or.inr ⟨rfl, rfl⟩⟩, ⟨rfl, rfl, rfl, by decide +kernel, rfl, by decide +kernel, by decide +kernel⟩, Or.inl rfl, Or.inl rfl, rfl, rfl, fun _ _ _ _ _ _ us hl => match us, hl with | [_, _], _ => rfl⟩
theorem txB12 : TxB 12 "OneWay.__bool__" (inClass (Kone.top 22) 1) := ⟨⟨_, _, _, rfl⟩, ⟨rfl, rfl, rfl, by decide +kernel, rfl, by decide +kernel, by decide +kernel⟩, fun _ _ _ _ _ _ us hl => match us, hl with | [_], _ => rfl⟩
end Kpp
namespace Kpp
open PySem PySem.Spec PyProof.Rows L2 Gd
open Kone (Def Pen Keep spPen spDraw spPick TxtD TxtK same_new)
def DK (K : PySem.W.Frag) (x : Str) (st : Stmt) (ps : List Str) (f : Addr) : Prop := ∀ (mg : Str → Option Value) (h : Heap), K.In h → h.Ns mainGlobals mg → ∃ fd, Def K mg x st ps f fd
theorem dl_mk {K : PySem.W.Frag} {f : Addr} {oc : Value} {od an : Option Addr} {sl : Array (Option Value)} {kV dc pm cd ct : Value}
    (a : PySem.W.nsIn K mainGlobals "law" = some (some (.ref f))) (l : K.lookup f = some ⟨oc, od, .func (PySem.W.fnOf "law" "law" (defArgs sLaw) (defBody sLaw) (defScope sLaw) .none kV dc pm an cd ct), sl⟩) (c : PySem.W.codeIn K cd "law" = true) (k : PySem.W.keepIn K (.ref f) = true) :
    ∀ (mg : Str → Option Value) (h : Heap), K.In h → h.Ns mainGlobals mg → ∃ fd, Def K mg "law" sLaw ["_law_script"] f fd ∧ ∀ (s : Shared) (u : Value), BindsTo s fd ⟨[u], []⟩ [(("_law_script" : Str), u)] := fun mg h X G => by
  have F := fun_mk (st := sLaw) l c k
  exact ⟨_, ⟨PySem.W.mg_of X G a, k, F.binds (fun _ _ _ _ _ _ us hl => match us, hl with | [_], _ => rfl), F⟩, fun s u => .of_eq rfl⟩
/-- what is asked of the classes and can be reckoned -/
def one13 (K : PySem.W.Frag) (c : Addr) : Bool := PySem.W.plainGet K c Str.empty && PySem.W.hasDictIn K c && PySem.W.plainOver K c && decide (PySem.W.findIn K (.ref c) "__setattr__" = some (some (.builtin "object.__setattr__"))) && decide (PySem.W.findIn K (.ref c) "__class__" = some (some (.builtin "object.__class__"))) && decide (PySem.W.mroIn K c (.type "object") = some true) && decide (PySem.W.findIn K (.ref c) "__ne__" = some (some (.builtin "object.__ne__")))
def two13 (K : PySem.W.Frag) (cs : Nat → Addr) (i j : Nat) : Bool := PySem.W.notFirst K (cs i) (.ref (cs j)) && decide (PySem.W.kitOne K (.ref (cs j)) (.ref (cs i)) = some (decide (i = j)))
def fld13 (K : PySem.W.Frag) (cs : Nat → Addr) (Vd : Addr) (i : Nat) : Bool := ((fldN i).all fun f => decide (PySem.W.findIn K (.ref (cs i)) f = some none)) && decide (PySem.W.kitOne K (.ref (cs i)) (.ref Vd) = some (decide (i ≠ 11)))
def rest13 (K : PySem.W.Frag) (cs : Nat → Addr) : Bool := decide (PySem.W.specialIn K (.builtin "object.__class__") "__get__" = some (some (.builtin "getset_descriptor.__get__"))) && decide (PySem.W.takesIn K (.builtin "object.__class__") = some true) && PySem.W.notFirst K (cs 11) (.type "tuple") && decide (PySem.W.kitOne K (.type "tuple") (.ref (cs 11)) = some false) && PySem.W.makesIn K (cs 12) && decide (PySem.W.findIn K (.ref (cs 12)) "__init__" = some (some (.builtin "object.__init__"))) && PySem.W.keepIn K (.ref (cs 12))
theorem all_range {n : Nat} {p : Nat → Bool} (h : (List.range n).all p = true) {i : Nat} (hi : i < n) : p i = true := List.all_eq_true.mp h i (List.mem_range.mpr hi)
def csL (l : List Addr) (i : Nat) : Addr := l.getD i 0
theorem fam_mk {P : Program} {w : World} {K : PySem.W.Frag} {mg : Str → Option Value} {base : Heap} {cs : Nat → Addr} {Vd : Addr} (b1 : (List.range 13).all (fun i => one13 K (cs i)) = true) (b2 : (List.range 13).all (fun i => (List.range 13).all (two13 K cs i)) = true) (b3 : (List.range 13).all (fld13 K cs Vd) = true) (b4 : rest13 K cs = true)
    (isi : mg "isinstance" = none) (nm : ∀ i, i < 13 → mg (clsN i) = some (.ref (cs i))) (me : ∀ i, i < 13 → ME K i (cs i)) (mb : ∀ i, i < 13 → i ≠ 11 → MB K i (cs i)) : Fam P w K mg base cs Vd := by
  have o : ∀ i, i < 13 → one13 K (cs i) = true := fun i hi => all_range b1 hi
  have t : ∀ i j, i < 13 → j < 13 → two13 K cs i j = true := fun i j hi hj => all_range (all_range b2 hi) hj
  have g : ∀ i, i < 13 → fld13 K cs Vd i = true := fun i hi => all_range b3 hi
  unfold one13 at o
  unfold two13 at t
  unfold fld13 at g
  unfold rest13 at b4
  simp only [Bool.and_eq_true, decide_eq_true_eq] at o t g b4
  have cl : ∀ i, i < 13 → Cls K (cs i) := fun i hi => by
    obtain ⟨⟨⟨⟨⟨⟨a1, a2⟩, a3⟩, a4⟩, _⟩, _⟩, _⟩ := o i hi
    exact ⟨a1, a2, a3, a4⟩
  have na : ∀ i, i < 13 → ∀ f ∈ fldN i, NoAttr K (cs i) f := fun i hi f hf => (of_decide_eq_true (List.all_eq_true.mp (g i hi).1 f hf) : PySem.W.findIn K (.ref (cs i)) f = some none)
  have ty : ∀ i, i < 13 → ∀ (H : Hp) (b dy : Addr) (hs : List (Str × V)), H b = some (.ins (cs i) dy hs) → TyOf K H (.ref b) (.ref (cs i)) := fun i hi H b dy hs e => by
    obtain ⟨⟨⟨_, a5⟩, a6⟩, _⟩ := o i hi
    exact .ins e (cl i hi) a5 b4.1.1.1.1.1.1 b4.1.1.1.1.1.2 a6
  refine ⟨cl, na, fun i hi => ?_, fun i hi => (o i hi).2, fun i hi => (o i hi).1.2, fun i j hi hj => (t i j hi hj).1, fun i j hi hj => (t i j hi hj).2, b4.1.1.1.1.2, b4.1.1.1.2, fun i hi => (g i hi).2, ty, fun i hi n => mb i hi n P w mg base⟩
  have k1 := (t i i hi hi).2
  rw [decide_eq_true rfl] at k1
  exact me i hi P w mg base isi (nm i hi) (cl i hi) (ty i hi) k1 (na i hi)
theorem all_mk {P : Program} {w : World} {K : PySem.W.Frag} {h : Heap} {mg : Str → Option Value} {fa Vd C0 C1 C2 C3 C4 C5 C6 C7 C8 C9 C10 C11 C12 f_kept f_pen f_draw f_pick f_any f_pairs f_wro f_oth f_law : Addr} (X : K.In h) (G : h.Ns mainGlobals mg) (hfa : mg "law" = some (.ref fa))
    (n0 : PySem.W.nsIn K mainGlobals "Nought" = some (some (.ref C0)))
    (n1 : PySem.W.nsIn K mainGlobals "Alike" = some (some (.ref C1)))
    (n2 : PySem.W.nsIn K mainGlobals "Right" = some (some (.ref C2)))
    (n3 : PySem.W.nsIn K mainGlobals "Whole" = some (some (.ref C3)))
    (n4 : PySem.W.nsIn K mainGlobals "Somewhere" = some (some (.ref C4)))
    (n5 : PySem.W.nsIn K mainGlobals "Apart" = some (some (.ref C5)))
    (n6 : PySem.W.nsIn K mainGlobals "Wrong" = some (some (.ref C6)))
    (n7 : PySem.W.nsIn K mainGlobals "Torn" = some (some (.ref C7)))
    (n8 : PySem.W.nsIn K mainGlobals "Uncovered" = some (some (.ref C8)))
    (n9 : PySem.W.nsIn K mainGlobals "TwoWays" = some (some (.ref C9)))
    (n10 : PySem.W.nsIn K mainGlobals "Covered" = some (some (.ref C10)))
    (n11 : PySem.W.nsIn K mainGlobals "Rank" = some (some (.ref C11)))
    (n12 : PySem.W.nsIn K mainGlobals "OneWay" = some (some (.ref C12)))
    (nV : PySem.W.nsIn K mainGlobals "Verdict" = some (some (.ref Vd)))
    (r0 : MK K 0 C0)
    (r1 : MK K 1 C1)
    (r2 : MK K 2 C2)
    (r3 : MK K 3 C3)
    (r4 : MK K 4 C4)
    (r5 : MK K 5 C5)
    (r6 : MK K 6 C6)
    (r7 : MK K 7 C7)
    (r8 : MK K 8 C8)
    (r9 : MK K 9 C9)
    (r10 : MK K 10 C10)
    (r11 : MK K 11 C11)
    (e0 : ME K 0 C0)
    (e1 : ME K 1 C1)
    (e2 : ME K 2 C2)
    (e3 : ME K 3 C3)
    (e4 : ME K 4 C4)
    (e5 : ME K 5 C5)
    (e6 : ME K 6 C6)
    (e7 : ME K 7 C7)
    (e8 : ME K 8 C8)
    (e9 : ME K 9 C9)
    (e10 : ME K 10 C10)
    (e11 : ME K 11 C11)
    (e12 : ME K 12 C12)
    (q0 : MB K 0 C0)
    (q1 : MB K 1 C1)
    (q2 : MB K 2 C2)
    (q3 : MB K 3 C3)
    (q4 : MB K 4 C4)
    (q5 : MB K 5 C5)
    (q6 : MB K 6 C6)
    (q7 : MB K 7 C7)
    (q8 : MB K 8 C8)
    (q9 : MB K 9 C9)
    (q10 : MB K 10 C10)
    (q12 : MB K 12 C12)
    (b1 : (List.range 13).all (fun i => one13 K (csL [C0, C1, C2, C3, C4, C5, C6, C7, C8, C9, C10, C11, C12] i)) = true)
    (b2 : (List.range 13).all (fun i => (List.range 13).all (two13 K (csL [C0, C1, C2, C3, C4, C5, C6, C7, C8, C9, C10, C11, C12]) i)) = true)
    (b3 : (List.range 13).all (fld13 K (csL [C0, C1, C2, C3, C4, C5, C6, C7, C8, C9, C10, C11, C12]) Vd) = true)
    (b4 : rest13 K (csL [C0, C1, C2, C3, C4, C5, C6, C7, C8, C9, C10, C11, C12]) = true)
    (z_isinstance : PySem.W.nsIn K mainGlobals "isinstance" = some none)
    (z_repr : PySem.W.nsIn K mainGlobals "repr" = some none)
    (z_range : PySem.W.nsIn K mainGlobals "range" = some none)
    (z_enumerate : PySem.W.nsIn K mainGlobals "enumerate" = some none)
    (z_int : PySem.W.nsIn K mainGlobals "int" = some none)
    (z_len : PySem.W.nsIn K mainGlobals "len" = some none)
    (z_abs : PySem.W.nsIn K mainGlobals "abs" = some none)
    (z_list : PySem.W.nsIn K mainGlobals "list" = some none)
    (z_tuple : PySem.W.nsIn K mainGlobals "tuple" = some none)
    (z_dict : PySem.W.nsIn K mainGlobals "dict" = some none)
    (z_any : PySem.W.nsIn K mainGlobals "any" = some none)
    (d_kept : DK K "kept" Kone.sKept ["value"] f_kept)
    (d_pen : DK K "_law_pen" sPen ["_law_script"] f_pen)
    (d_draw : DK K "_law_draw" sDraw ["_law_pen_here", "_law_many"] f_draw)
    (d_pick : DK K "_law_pick" sPick ["_law_pen_here", "_law_some"] f_pick)
    (d_any : DK K "_law_any" sAny ["_law_pen_here"] f_any)
    (d_pairs : DK K "_law_pairs_right" sPairs ["_law_told"] f_pairs)
    (d_wro : DK K "_law_wrongs_right" sWro ["_law_told"] f_wro)
    (d_oth : DK K "_law_others_right" sOth ["_law_told"] f_oth)
    (d_law : ∀ (mg : Str → Option Value) (h : Heap), K.In h → h.Ns mainGlobals mg → ∃ fd, Def K mg "law" sLaw ["_law_script"] f_law fd ∧ ∀ (s : Shared) (u : Value), BindsTo s fd ⟨[u], []⟩ [(("_law_script" : Str), u)])
    : ∃ fd : FuncData, (∀ (s : Shared) (u : Value), BindsTo s fd ⟨[u], []⟩ [(("_law_script" : Str), u)]) ∧ ∀ base : Heap, K.In base → base.Ns mainGlobals mg → FnG P w K mg base CX0 10 fa fd ["_law_script"] (spLaw K) := by
  obtain ⟨fdl, Ul, hbl⟩ := d_law mg h X G
  have e := hfa.symm.trans Ul.g
  cases e
  obtain ⟨fd_kept, U_kept⟩ := d_kept mg h X G
  obtain ⟨fd_pen, U_pen⟩ := d_pen mg h X G
  obtain ⟨fd_draw, U_draw⟩ := d_draw mg h X G
  obtain ⟨fd_pick, U_pick⟩ := d_pick mg h X G
  obtain ⟨fd_any, U_any⟩ := d_any mg h X G
  obtain ⟨fd_pairs, U_pairs⟩ := d_pairs mg h X G
  obtain ⟨fd_wro, U_wro⟩ := d_wro mg h X G
  obtain ⟨fd_oth, U_oth⟩ := d_oth mg h X G
  refine ⟨fdl, hbl, fun base _ _ => ?_⟩
  have isi := PySem.W.mg_none_of X G z_isinstance
  have nm : ∀ i, i < 13 → mg (clsN i) = some (.ref (csL [C0, C1, C2, C3, C4, C5, C6, C7, C8, C9, C10, C11, C12] i)) := fun i hi => by
    match i, hi with
    | 0, _ => exact PySem.W.mg_of X G n0
    | 1, _ => exact PySem.W.mg_of X G n1
    | 2, _ => exact PySem.W.mg_of X G n2
    | 3, _ => exact PySem.W.mg_of X G n3
    | 4, _ => exact PySem.W.mg_of X G n4
    | 5, _ => exact PySem.W.mg_of X G n5
    | 6, _ => exact PySem.W.mg_of X G n6
    | 7, _ => exact PySem.W.mg_of X G n7
    | 8, _ => exact PySem.W.mg_of X G n8
    | 9, _ => exact PySem.W.mg_of X G n9
    | 10, _ => exact PySem.W.mg_of X G n10
    | 11, _ => exact PySem.W.mg_of X G n11
    | 12, _ => exact PySem.W.mg_of X G n12
  have F : Fam P w K mg base (csL [C0, C1, C2, C3, C4, C5, C6, C7, C8, C9, C10, C11, C12]) Vd := fam_mk b1 b2 b3 b4 isi nm (fun i hi => by
    match i, hi with
    | 0, _ => exact e0
    | 1, _ => exact e1
    | 2, _ => exact e2
    | 3, _ => exact e3
    | 4, _ => exact e4
    | 5, _ => exact e5
    | 6, _ => exact e6
    | 7, _ => exact e7
    | 8, _ => exact e8
    | 9, _ => exact e9
    | 10, _ => exact e10
    | 11, _ => exact e11
    | 12, _ => exact e12) (fun i hi n => by
    match i, hi, n with
    | 0, _, _ => exact q0
    | 1, _, _ => exact q1
    | 2, _, _ => exact q2
    | 3, _, _ => exact q3
    | 4, _, _ => exact q4
    | 5, _, _ => exact q5
    | 6, _, _ => exact q6
    | 7, _, _ => exact q7
    | 8, _, _ => exact q8
    | 9, _, _ => exact q9
    | 10, _, _ => exact q10
    | 12, _, _ => exact q12
    | 11, _, n => exact (n rfl).elim)
  have TK : TxtK mg := ⟨isi, PySem.W.mg_none_of X G z_tuple, PySem.W.mg_none_of X G z_list, PySem.W.mg_none_of X G z_dict, PySem.W.mg_none_of X G z_any⟩
  have Q : Lq P w K mg base (csL [C0, C1, C2, C3, C4, C5, C6, C7, C8, C9, C10, C11, C12]) Vd := by
    refine ⟨F, nm, fun i hi => ?_, ?_, PySem.W.mg_of X G nV, isi, PySem.W.mg_none_of X G z_repr, PySem.W.mg_none_of X G z_range, PySem.W.mg_none_of X G z_enumerate⟩
    · match i, hi with
      | 0, _ => exact r0 P w mg base TK U_kept _ rfl (F.c 0 (by decide)) (F.na 0 (by decide))
      | 1, _ => exact r1 P w mg base TK U_kept _ rfl (F.c 1 (by decide)) (F.na 1 (by decide))
      | 2, _ => exact r2 P w mg base TK U_kept _ rfl (F.c 2 (by decide)) (F.na 2 (by decide))
      | 3, _ => exact r3 P w mg base TK U_kept _ rfl (F.c 3 (by decide)) (F.na 3 (by decide))
      | 4, _ => exact r4 P w mg base TK U_kept _ rfl (F.c 4 (by decide)) (F.na 4 (by decide))
      | 5, _ => exact r5 P w mg base TK U_kept _ rfl (F.c 5 (by decide)) (F.na 5 (by decide))
      | 6, _ => exact r6 P w mg base TK U_kept _ rfl (F.c 6 (by decide)) (F.na 6 (by decide))
      | 7, _ => exact r7 P w mg base TK U_kept _ rfl (F.c 7 (by decide)) (F.na 7 (by decide))
      | 8, _ => exact r8 P w mg base TK U_kept _ rfl (F.c 8 (by decide)) (F.na 8 (by decide))
      | 9, _ => exact r9 P w mg base TK U_kept _ rfl (F.c 9 (by decide)) (F.na 9 (by decide))
      | 10, _ => exact r10 P w mg base TK U_kept _ rfl (F.c 10 (by decide)) (F.na 10 (by decide))
      | 11, _ => exact r11 P w mg base TK U_kept _ rfl (F.c 11 (by decide)) (F.na 11 (by decide))
    · unfold rest13 at b4
      simp only [Bool.and_eq_true, decide_eq_true_eq] at b4
      exact ⟨b4.1.1.2, b4.1.2, b4.2⟩
  exact ok_law Q Ul.F ⟨PySem.W.mg_none_of X G z_int, PySem.W.mg_none_of X G z_len, PySem.W.mg_none_of X G z_abs, PySem.W.mg_none_of X G z_list⟩ U_pen U_any U_pick U_draw U_pairs U_wro U_oth
end Kpp
open PySem PySem.W PyProof.Rows in
set_option maxRecDepth 100000 in
set_option maxHeartbeats 0 in
theorem PySem.Challenge.cw_sumdigits_k02_papers_made_holds : PySem.Challenge.rw_sumdigits_k02_papers_made.Holds := by
  w_on; o_law; k_head; (case hw => w_witness2)
  k_fill
  refine Gd.walk_at (l := PySem.Challenge.rw_sumdigits_k02_papers_made) (n := 63) (k := 10) (CX := L2.CX0) (sp := Kpp.spLaw) (x := "_law_script") rfl (by decide) rfl ⟨rfl, by decide, by decide⟩ (fun w h Y => PySem.W.kIn_of Y) ?F (fun K H a ns hl hS => ⟨a, ns, rfl, hS, fun _ => rfl⟩) (fun _ _ _ _ z => z)
  case F =>
    intro w mg fa h KX G hmg
    refine' Kpp.all_mk KX G hmg ?n0 ?n1 ?n2 ?n3 ?n4 ?n5 ?n6 ?n7 ?n8 ?n9 ?n10 ?n11 ?n12 ?nV ?r0 ?r1 ?r2 ?r3 ?r4 ?r5 ?r6 ?r7 ?r8 ?r9 ?r10 ?r11 ?e0 ?e1 ?e2 ?e3 ?e4 ?e5 ?e6 ?e7 ?e8 ?e9 ?e10 ?e11 ?e12 ?q0 ?q1 ?q2 ?q3 ?q4 ?q5 ?q6 ?q7 ?q8 ?q9 ?q10 ?q12 ?b1 ?b2 ?b3 ?b4 ?z_isinstance ?z_repr ?z_range ?z_enumerate ?z_int ?z_len ?z_abs ?z_list ?z_tuple ?z_dict ?z_any ?d_kept ?d_pen ?d_draw ?d_pick ?d_any ?d_pairs ?d_wro ?d_oth ?d_law
    (case n0 => k_is)
    (case n1 => k_is)
    (case n2 => k_is)
    (case n3 => k_is)
    (case n4 => k_is)
    (case n5 => k_is)
    (case n6 => k_is)
    (case n7 => k_is)
    (case n8 => k_is)
    (case n9 => k_is)
    (case n10 => k_is)
    (case n11 => k_is)
    (case n12 => k_is)
    (case nV => k_is)
    (case r0 => refine' Kpp.mk_mk Kpp.txI0 (by decide) ?mk ?fi ?ii ?kc ?l ?c ?k; (case mk => k_is); (case kc => k_is); (case fi => k_is); (case ii => k_is); (case l => k_is); (case c => k_is); (case k => k_is))
    (case r1 => refine' Kpp.mk_mk Kpp.txI1 (by decide) ?mk ?fi ?ii ?kc ?l ?c ?k; (case mk => k_is); (case kc => k_is); (case fi => k_is); (case ii => k_is); (case l => k_is); (case c => k_is); (case k => k_is))
    (case r2 => refine' Kpp.mk_mk Kpp.txI2 (by decide) ?mk ?fi ?ii ?kc ?l ?c ?k; (case mk => k_is); (case kc => k_is); (case fi => k_is); (case ii => k_is); (case l => k_is); (case c => k_is); (case k => k_is))
    (case r3 => refine' Kpp.mk_mk Kpp.txI3 (by decide) ?mk ?fi ?ii ?kc ?l ?c ?k; (case mk => k_is); (case kc => k_is); (case fi => k_is); (case ii => k_is); (case l => k_is); (case c => k_is); (case k => k_is))
    (case r4 => refine' Kpp.mk_mk Kpp.txI4 (by decide) ?mk ?fi ?ii ?kc ?l ?c ?k; (case mk => k_is); (case kc => k_is); (case fi => k_is); (case ii => k_is); (case l => k_is); (case c => k_is); (case k => k_is))
    (case r5 => refine' Kpp.mk_mk Kpp.txI5 (by decide) ?mk ?fi ?ii ?kc ?l ?c ?k; (case mk => k_is); (case kc => k_is); (case fi => k_is); (case ii => k_is); (case l => k_is); (case c => k_is); (case k => k_is))
    (case r6 => refine' Kpp.mk_mk Kpp.txI6 (by decide) ?mk ?fi ?ii ?kc ?l ?c ?k; (case mk => k_is); (case kc => k_is); (case fi => k_is); (case ii => k_is); (case l => k_is); (case c => k_is); (case k => k_is))
    (case r7 => refine' Kpp.mk_mk Kpp.txI7 (by decide) ?mk ?fi ?ii ?kc ?l ?c ?k; (case mk => k_is); (case kc => k_is); (case fi => k_is); (case ii => k_is); (case l => k_is); (case c => k_is); (case k => k_is))
    (case r8 => refine' Kpp.mk_mk Kpp.txI8 (by decide) ?mk ?fi ?ii ?kc ?l ?c ?k; (case mk => k_is); (case kc => k_is); (case fi => k_is); (case ii => k_is); (case l => k_is); (case c => k_is); (case k => k_is))
    (case r9 => refine' Kpp.mk_mk Kpp.txI9 (by decide) ?mk ?fi ?ii ?kc ?l ?c ?k; (case mk => k_is); (case kc => k_is); (case fi => k_is); (case ii => k_is); (case l => k_is); (case c => k_is); (case k => k_is))
    (case r10 => refine' Kpp.mk_mk Kpp.txI10 (by decide) ?mk ?fi ?ii ?kc ?l ?c ?k; (case mk => k_is); (case kc => k_is); (case fi => k_is); (case ii => k_is); (case l => k_is); (case c => k_is); (case k => k_is))
    (case r11 => refine' Kpp.mk_mk Kpp.txI11 (by decide) ?mk ?fi ?ii ?kc ?l ?c ?k; (case mk => k_is); (case kc => k_is); (case fi => k_is); (case ii => k_is); (case l => k_is); (case c => k_is); (case k => k_is))
    (case e0 => refine' Kpp.me_mk Kpp.txE0 (by decide) ?fi ?ii ?l ?c ?k; (case fi => k_is); (case ii => k_is); (case l => k_is); (case c => k_is); (case k => k_is))
    (case e1 => refine' Kpp.me_mk Kpp.txE1 (by decide) ?fi ?ii ?l ?c ?k; (case fi => k_is); (case ii => k_is); (case l => k_is); (case c => k_is); (case k => k_is))
    (case e2 => refine' Kpp.me_mk Kpp.txE2 (by decide) ?fi ?ii ?l ?c ?k; (case fi => k_is); (case ii => k_is); (case l => k_is); (case c => k_is); (case k => k_is))
    (case e3 => refine' Kpp.me_mk Kpp.txE3 (by decide) ?fi ?ii ?l ?c ?k; (case fi => k_is); (case ii => k_is); (case l => k_is); (case c => k_is); (case k => k_is))
    (case e4 => refine' Kpp.me_mk Kpp.txE4 (by decide) ?fi ?ii ?l ?c ?k; (case fi => k_is); (case ii => k_is); (case l => k_is); (case c => k_is); (case k => k_is))
    (case e5 => refine' Kpp.me_mk Kpp.txE5 (by decide) ?fi ?ii ?l ?c ?k; (case fi => k_is); (case ii => k_is); (case l => k_is); (case c => k_is); (case k => k_is))
    (case e6 => refine' Kpp.me_mk Kpp.txE6 (by decide) ?fi ?ii ?l ?c ?k; (case fi => k_is); (case ii => k_is); (case l => k_is); (case c => k_is); (case k => k_is))
    (case e7 => refine' Kpp.me_mk Kpp.txE7 (by decide) ?fi ?ii ?l ?c ?k; (case fi => k_is); (case ii => k_is); (case l => k_is); (case c => k_is); (case k => k_is))
    (case e8 => refine' Kpp.me_mk Kpp.txE8 (by decide) ?fi ?ii ?l ?c ?k; (case fi => k_is); (case ii => k_is); (case l => k_is); (case c => k_is); (case k => k_is))
    (case e9 => refine' Kpp.me_mk Kpp.txE9 (by decide) ?fi ?ii ?l ?c ?k; (case fi => k_is); (case ii => k_is); (case l => k_is); (case c => k_is); (case k => k_is))
    (case e10 => refine' Kpp.me_mk Kpp.txE10 (by decide) ?fi ?ii ?l ?c ?k; (case fi => k_is); (case ii => k_is); (case l => k_is); (case c => k_is); (case k => k_is))
    (case e11 => refine' Kpp.me_mk Kpp.txE11 (by decide) ?fi ?ii ?l ?c ?k; (case fi => k_is); (case ii => k_is); (case l => k_is); (case c => k_is); (case k => k_is))
    (case e12 => refine' Kpp.me_mk Kpp.txE12 (by decide) ?fi ?ii ?l ?c ?k; (case fi => k_is); (case ii => k_is); (case l => k_is); (case c => k_is); (case k => k_is))
    (case q0 => refine' Kpp.mb_mk Kpp.txB0 ?fi ?ii ?l ?c ?k; (case fi => k_is); (case ii => k_is); (case l => k_is); (case c => k_is); (case k => k_is))
    (case q1 => refine' Kpp.mb_mk Kpp.txB1 ?fi ?ii ?l ?c ?k; (case fi => k_is); (case ii => k_is); (case l => k_is); (case c => k_is); (case k => k_is))
    (case q2 => refine' Kpp.mb_mk Kpp.txB2 ?fi ?ii ?l ?c ?k; (case fi => k_is); (case ii => k_is); (case l => k_is); (case c => k_is); (case k => k_is))
    (case q3 => refine' Kpp.mb_mk Kpp.txB3 ?fi ?ii ?l ?c ?k; (case fi => k_is); (case ii => k_is); (case l => k_is); (case c => k_is); (case k => k_is))
    (case q4 => refine' Kpp.mb_mk Kpp.txB4 ?fi ?ii ?l ?c ?k; (case fi => k_is); (case ii => k_is); (case l => k_is); (case c => k_is); (case k => k_is))
    (case q5 => refine' Kpp.mb_mk Kpp.txB5 ?fi ?ii ?l ?c ?k; (case fi => k_is); (case ii => k_is); (case l => k_is); (case c => k_is); (case k => k_is))
    (case q6 => refine' Kpp.mb_mk Kpp.txB6 ?fi ?ii ?l ?c ?k; (case fi => k_is); (case ii => k_is); (case l => k_is); (case c => k_is); (case k => k_is))
    (case q7 => refine' Kpp.mb_mk Kpp.txB7 ?fi ?ii ?l ?c ?k; (case fi => k_is); (case ii => k_is); (case l => k_is); (case c => k_is); (case k => k_is))
    (case q8 => refine' Kpp.mb_mk Kpp.txB8 ?fi ?ii ?l ?c ?k; (case fi => k_is); (case ii => k_is); (case l => k_is); (case c => k_is); (case k => k_is))
    (case q9 => refine' Kpp.mb_mk Kpp.txB9 ?fi ?ii ?l ?c ?k; (case fi => k_is); (case ii => k_is); (case l => k_is); (case c => k_is); (case k => k_is))
    (case q10 => refine' Kpp.mb_mk Kpp.txB10 ?fi ?ii ?l ?c ?k; (case fi => k_is); (case ii => k_is); (case l => k_is); (case c => k_is); (case k => k_is))
    (case q12 => refine' Kpp.mb_mk Kpp.txB12 ?fi ?ii ?l ?c ?k; (case fi => k_is); (case ii => k_is); (case l => k_is); (case c => k_is); (case k => k_is))
    (case b1 => kernel_rfl)
    (case b2 => kernel_rfl)
    (case b3 => kernel_rfl)
    (case b4 => kernel_rfl)
    (case z_isinstance => k_is)
    (case z_repr => k_is)
    (case z_range => k_is)
    (case z_enumerate => k_is)
    (case z_int => k_is)
    (case z_len => k_is)
    (case z_abs => k_is)
    (case z_list => k_is)
    (case z_tuple => k_is)
    (case z_dict => k_is)
    (case z_any => k_is)
    (case d_kept => refine' Kone.d_mk (st := Kone.sKept) (fun _ _ _ _ _ _ us hl => match us, hl with | [_], _ => rfl) ?a ?l ?c ?k; (case a => k_is); (case l => k_is); (case c => k_is); (case k => k_is))
    (case d_pen => refine' Kone.d_mk (st := Kpp.sPen) (fun _ _ _ _ _ _ us hl => match us, hl with | [_], _ => rfl) ?a ?l ?c ?k; (case a => k_is); (case l => k_is); (case c => k_is); (case k => k_is))
    (case d_draw => refine' Kone.d_mk (st := Kpp.sDraw) (fun _ _ _ _ _ _ us hl => match us, hl with | [_, _], _ => rfl) ?a ?l ?c ?k; (case a => k_is); (case l => k_is); (case c => k_is); (case k => k_is))
    (case d_pick => refine' Kone.d_mk (st := Kpp.sPick) (fun _ _ _ _ _ _ us hl => match us, hl with | [_, _], _ => rfl) ?a ?l ?c ?k; (case a => k_is); (case l => k_is); (case c => k_is); (case k => k_is))
    (case d_any => refine' Kone.d_mk (st := Kpp.sAny) (fun _ _ _ _ _ _ us hl => match us, hl with | [_], _ => rfl) ?a ?l ?c ?k; (case a => k_is); (case l => k_is); (case c => k_is); (case k => k_is))
    (case d_pairs => refine' Kone.d_mk (st := Kpp.sPairs) (fun _ _ _ _ _ _ us hl => match us, hl with | [_], _ => rfl) ?a ?l ?c ?k; (case a => k_is); (case l => k_is); (case c => k_is); (case k => k_is))
    (case d_wro => refine' Kone.d_mk (st := Kpp.sWro) (fun _ _ _ _ _ _ us hl => match us, hl with | [_], _ => rfl) ?a ?l ?c ?k; (case a => k_is); (case l => k_is); (case c => k_is); (case k => k_is))
    (case d_oth => refine' Kone.d_mk (st := Kpp.sOth) (fun _ _ _ _ _ _ us hl => match us, hl with | [_], _ => rfl) ?a ?l ?c ?k; (case a => k_is); (case l => k_is); (case c => k_is); (case k => k_is))
    (case d_law => refine' Kpp.dl_mk ?a ?l ?c ?k; (case a => k_is); (case l => k_is); (case c => k_is); (case k => k_is))
