import PyProof.Rows.All
import Wide.All
import OpenK.AllK
import Wide.FinOn
import HandS.ForMost
import HandS.Exc
import HandS.ExcInit
import HandS.ExcIs
import HandS.IsInst
import HandS.MakeKw
import HandS.MakeKwOnly
import KE.KEqSeq
import KE.KIsAll
import KE.KTryMore
import HandS.DictComp
import PyProof.Rows.FactsN_isinstance
import HandS.ExcOwn
import HandS.ExcValue
import PySem.Challenge.RW_sumdigits_k01_errors_made
set_option Elab.async false
set_option linter.all false
set_option maxRecDepth 100000
set_option maxHeartbeats 4000000
namespace Gd
open PySem PySem.Spec PyProof.Rows L2
/-! A promise that is kept where no repr is under way (A.guards = some []). -/
structure FnG (P : Program) (w : World) (K : PySem.W.Frag) (mg : Str → Option Value) (base : Heap) (CX : CXT) (k : Nat) (f : Addr) (fd : FuncData) (ps : List Str) (sp : Sp) : Prop where
  len : ∀ vs H Q E, sp vs H Q E → vs.length = ps.length
  run : ∀ (A : Around) (outer : List Env) (s : Shared) (H : Hp) (args : Args) (us : List Value) (vs : List V) (Q : VK) (E : XK), A.guards = some [] → Room k A → Env0 P w K mg base A outer s H →
    BindsTo s fd args (ps.zip us) → Vals vs us → sp vs H Q E → codeAny (model P w) A (.call (.ref f) args) (CR CX outer P w H s Q E) s
theorem deeper_guards {A : Around} {env : Env} (h : A.guards = some []) : (A.deeper env).guards = some [] := h
section
variable {P : Program} {w : World} {K : PySem.W.Frag} {mg : Str → Option Value} {base : Heap} {CX : CXT}
theorem fnG_of {x qual : Str} {st : Stmt} {f : Addr} {fd : FuncData} {N ps : List Str} {k : Nat} {sp : Sp} (F : Fun K x qual st f fd) (S : FnScope N ps (defScope st))
    (len : ∀ vs H Q E, sp vs H Q E → vs.length = ps.length)
    (body : ∀ (cdv : Value) (A : Around) (outer : List Env) (s : Shared) (H : Hp) (vs : List V) (Q : VK) (E : XK), A.guards = some [] → Room k (A.deeper (envOfC qual (defScope st) s.heap.objs.size f cdv)) → sp vs H Q E →
      ∃ t, PSs (cxOf CX P w K mg base N qual (defScope st) f cdv A outer s H E) (defBody st) t ∧ t { nx := fun _ H' => Q .non H', rt := Q } (start N vs) H) : FnG P w K mg base CX (k + 1) f fd ps sp := by
  obtain ⟨oc, od, kV, doc, pm, an, cdv, ct, osl, rfl, lk, hcd⟩ := F.ex
  constructor
  · exact len
  · intro A outer s H args us vs Q E hG hr e0 hb r hsp
    obtain ⟨t, ht, hq⟩ := body cdv A outer s H vs Q E hG (hr.deeper _) hsp
    have KX : K.In s.heap := e0.mod.kin.keeps fun b o e => (e0.bs b o e).1
    have places : ∀ y ∈ ps.zip us, (defScope st).names.lookup y.1 = some .local ∨ ((defScope st).names.lookup y.1 = some .cell ∧ ((cellsFrom (s.heap.objs.size + 1) (defScope st).names []).lookup y.1).isSome = true) := by
      rintro ⟨n, v⟩ hy
      cases S.par n (List.of_mem_zip hy).1 with
      | inl q => exact .inl q
      | inr q => exact .inr ⟨q, PySem.W.cellsFrom_some _ _ _ (.inl q)⟩
    apply codeAny_call_function hr.depth (KX _ _ lk) rfl S.co S.gen rfl (PySem.W.codeRec_of KX hcd)
    apply hb
    apply wpAny_newFunctionEnv_cells S.kind places
    intro env he s1 x
    subst he
    refine ⟨(e0.mod.nolimit.keeps fun b o e => (e0.bs b o e).1).keeps x.toInCall.keep, codeAny_func ?_⟩
    have I := inv_start (CX := CX) (E := E) S hr.hd e0 (len _ _ _ _ hsp) r x
    apply wpAny_mono (ht.run [] s1 (start N vs) H _ I hq)
    · intro fl s' hs
      cases fl with
      | ret u =>
        obtain ⟨v, σ', H', J, rv, q⟩ := hs
        exact ⟨v, H', J.os, J.bare, J.base, J.hok, rv, q⟩
      | next =>
        obtain ⟨σ', H', J, q⟩ := hs
        exact ⟨.non, H', J.os, J.bare, J.base, J.hok, rfl, q⟩
      | brk => exact (hs.choose_spec.choose_spec.2 : False).elim
      | cont => exact (hs.choose_spec.choose_spec.2 : False).elim
    · intro e s' hs
      exact hs
/-- in the form of the layer's own rule -/
theorem Fun.okG {x qual : Str} {st : Stmt} {f : Addr} {fd : FuncData} {N ps : List Str} {k : Nat} {sp : Sp} (F : Fun K x qual st f fd) (S : FnScope N ps (defScope st)) (len : ∀ vs H Q E, sp vs H Q E → vs.length = ps.length)
    (body : ∀ (cdv : Value) (A : Around) (outer : List Env) (s : Shared) (H : Hp) (vs : List V) (Q : VK) (E : XK), A.guards = some [] → Room k (A.deeper (envOfC qual (defScope st) s.heap.objs.size f cdv)) → sp vs H Q E →
      ∃ t, PSs (cxOf CX0 P w K mg base N qual (defScope st) f cdv A outer s H E).nox (defBody st) t ∧ t { nx := fun _ H' => Q .non H', rt := Q } (start N vs) H) : FnG P w K mg base CX0 (k + 1) f fd ps sp :=
  fnG_of F S len fun cdv A outer s H vs Q E hG hr hsp => by
    obtain ⟨t, h, q⟩ := body cdv A outer s H vs Q E hG hr hsp
    exact ⟨t, h.nox, q⟩
end

/-! ### the law itself, called at the outermost place -/
section
variable {P : Program} {w : World} {K : PySem.W.Frag} {mg mb : Str → Option Value} {CX : CXT} {k : Nat} {fa a : Addr} {fd : FuncData} {x : Str} {sp : Sp} {s : Shared} {vs : List Value} {ns : List Int}
/-- where at most the script's list is tracked, and no written thing is -/
structure Lone (K : PySem.W.Frag) (H : Hp) (a : Addr) : Prop where
  only : Only H
  just : ∀ b u, H b = some u → b = a
  free : ∀ u, H a = some u → K.lookup a = none
theorem Lone.base {H : Hp} (L : Lone K H a) (KX : K.In s.heap) : K.In (hidT s.heap H) := by
  intro b o e
  apply hidT_get (KX b o e)
  match q : H b with
  | none => rfl
  | some u =>
    have eb := L.just b u q
    subst eb
    rw [L.free u q] at e
    exact nomatch e
theorem Lone.names {H : Hp} (L : Lone K H a) {o : Obj} (ha : s.heap.get? a = some o) (hd : ∀ es ep, o.data ≠ .dict es ep) {b : Addr} {m : Str → Option Value} (h : s.heap.Ns b m) : (hidT s.heap H).Ns b m := by
  obtain ⟨ob, es, ep, e, d, r⟩ := h
  refine ⟨ob, es, ep, hidT_get e ?_, d, r⟩
  match q : H b with
  | none => rfl
  | some u =>
    have eb := L.just b u q
    subst eb
    rw [ha] at e
    exact (hd es ep (Option.some.inj e ▸ d)).elim
theorem law_at (KX : K.In s.heap) (hns : s.heap.Ns mainGlobals mg) (hb : s.heap.Ns builtinsNs mb) (hbb : ∀ x : Str, x ≠ "__name__" → mb x = bootBuiltins x) (hlim : s.heap.NoLimit) (hg : s.gens = #[])
    (ha : s.heap.get? a = some { cls := .type "list", data := .seq vs.toArray }) (hr : Room k callerA)
    (F : ∀ base : Heap, K.In base → base.Ns mainGlobals mg → FnG P w K mg base CX k fa fd [x] sp) (hbind : ∀ (s : Shared) (u : Value), BindsTo s fd ⟨[u], []⟩ [(x, u)])
    (hCX : ∀ H e s', CX [] H s (fun _ _ _ => False) e s' → False) {H : Hp} (L : Lone K H a) (hok : HOk P w H s.heap) (hsp : sp [.ref a] H (fun v _ => v = .bl true) fun _ _ _ => False) :
    codeAny (model P w) callerA (.call (.ref fa) ⟨[.ref a], []⟩) (fun r s' => r = .ok (.ret (.bool true)) ∧ OldK s.heap s'.heap ∧ s'.os = s.os ∧ AllBare s'.gens) s := by
  have nd : ∀ (es : Array DictEntry) (ep : Nat), ({ cls := .type "list", data := .seq vs.toArray } : Obj).data ≠ .dict es ep := fun es ep z => nomatch z
  have KB := L.base KX
  have NB := L.names ha nd hns
  have lim : (hidT s.heap H).NoLimit := by
    obtain ⟨m, h1, h2⟩ := hlim
    exact ⟨m, L.names ha nd h1, h2⟩
  have none_in : ∀ b : Addr, b ∉ frs ([] : List Env) := fun b z => nomatch (show b ∈ ([] : List Addr) from z)
  have e0 : Env0 P w K mg (hidT s.heap H) callerA [] s H :=
    { frames := rfl, mod := ⟨KB, NB, ⟨mb, L.names ha nd hb, hbb⟩, lim⟩, bs := fun _ _ e => of_hidT e, bsz := Nat.le_of_eq (hidT_size _ _), funs := trivial, frf := fun b z => absurd z (none_in b), hok := hok, bare := .of_eq hg }
  have go := (F _ KB NB).run callerA [] s H ⟨[.ref a], []⟩ [.ref a] [.ref a] _ _ rfl hr e0 (hbind s (.ref a)) (.cons rfl .nil) hsp
  apply codeAny_mono go
  intro r s' h
  match r, h with
  | .error e, h => exact (hCX H e s' h).elim
  | .ok (.ret u), ⟨v, H', os, bare, un, hok', rv, q⟩ =>
    cases (show v = V.bl true from q)
    cases (show u = Value.bool true from rv)
    refine ⟨rfl, OldK.of_keep fun b o e => ?_, os, bare⟩
    cases L.only b with
    | inl n => exact un.keep b o e n (none_in b) (fun z => nomatch z)
    | inr z =>
      obtain ⟨ob, xs, z⟩ := z
      have e1 : s.heap.get? b = some ob := (show ObjOk P w H s.heap b (.frz ob (.lst xs)) from hok b _ z).1
      have e2 : s'.heap.get? b = some ob := (show ObjOk P w H' s'.heap b (.frz ob (.lst xs)) from hok' b _ (un.frzs b ob _ z)).1
      rw [e1] at e
      rw [e2, ← Option.some.inj e]
  | .ok .next, h => exact (h : False).elim
  | .ok .brk, h => exact (h : False).elim
  | .ok .cont, h => exact (h : False).elim
end
open Classical in
theorem walk_at {l : PySem.W.OpenLaw} {n k : Nat} {q : Program} {loose : List Str} {XP : (Str → Option Value) → Heap → Prop} {YP : World → Heap → Prop} {d : DefRec} {K : Params → PySem.W.Frag} {CX : CXT} {sp : PySem.W.Frag → Sp} {x : Str}
    (hn : l.most = some n) (hn2 : n ≤ sizeLine) (hdf : d.params.defaults = []) (hr : Room k callerA) (hY : ∀ (w : World) (h : Heap), YP w h → (K w.params).In h)
    (F : ∀ (w : World) (mg : Str → Option Value) (fa : Addr) (h : Heap), (K w.params).In h → h.Ns mainGlobals mg → mg d.name = some (.ref fa) →
      ∃ fd : FuncData, (∀ (s : Shared) (u : Value), BindsTo s fd ⟨[u], []⟩ [(x, u)]) ∧
        ∀ base : Heap, (K w.params).In base → base.Ns mainGlobals mg → FnG l.prog w (K w.params) mg base CX k fa fd [x] (sp (K w.params)))
    (hsp : ∀ (K : PySem.W.Frag) (H : Hp) (a : Addr) (ns : List Int), ns.length ≤ n → SqL K H a (ns.map V.int) → sp K [.ref a] H (fun v _ => v = .bl true) fun _ _ _ => False)
    (hCX : ∀ (H : Hp) (s : Shared) (e : Value) (s' : Shared), CX [] H s (fun _ _ _ => False) e s' → False) :
    PySem.W.WalkO q loose XP YP l.row.toRowW d [] (fun f vs => PySem.call f vs) := by
  refine Att.attach_call hn hdf fun w s₀ s₁ mg mb fa o pm cd doc a vs ns G Y ho hd hcd hmg hobj hints hlen hg => ?_
  have KX := hY w _ Y
  obtain ⟨fd, hb, hF⟩ := F w mg fa _ KX G.T.g hmg
  have rv := vals_ints hints
  have lv : vs.length = ns.length := hints.length
  by_cases hk : (K w.params).lookup a = none
  · let sc : HO := .frz { cls := .type "list", data := .seq vs.toArray } (.lst (ns.map V.int))
    have at_a : ∀ {b : Addr} {u : HO}, (if b = a then some sc else none) = some u → b = a ∧ u = sc := by
      intro b u z
      by_cases e : b = a
      · rw [if_pos e] at z
        exact ⟨e, (Option.some.inj z).symm⟩
      · rw [if_neg e] at z
        exact nomatch z
    refine law_at KX G.T.g G.T.b G.T.builtins G.T.nolimit hg hobj hr hF hb (fun H e s' => hCX H s₁ e s') (H := fun b => if b = a then some sc else none) ⟨fun b => ?_, fun b u z => (at_a z).1, fun u z => hk⟩ (fun b u z => ?_) (hsp _ _ a ns hlen (.inl (.inr ⟨_, if_pos rfl⟩)))
    · by_cases e : b = a
      · exact .inr ⟨_, _, if_pos e⟩
      · exact .inl (if_neg e)
    · obtain ⟨e1, e2⟩ := at_a z
      subst e1 e2
      exact ⟨hobj, by rw [List.length_map]; omega, vs, _, rv, hobj⟩
  · obtain ⟨ob, hk⟩ := Option.ne_none_iff_exists'.mp hk
    have e := KX a ob hk
    rw [hobj] at e
    cases e
    have no : ∀ {u : HO}, (none : Option HO) = some u → False := fun z => nomatch z
    exact law_at KX G.T.g G.T.b G.T.builtins G.T.nolimit hg hobj hr hF hb (fun H e s' => hCX H s₁ e s') (H := fun _ => none) ⟨fun b => .inl rfl, fun b u z => (no z).elim, fun u z => (no z).elim⟩ (fun b u z => (no z).elim)
      (hsp _ _ a ns hlen (.inr ⟨_, vs.toArray, _, hk, rfl, rfl, rfl, by rw [List.size_toArray]; omega, by simpa using rv⟩))
end Gd
namespace Gd
open PySem PySem.Spec PyProof.Rows L2
/-! ### repr of data of small depth, dicts among them -/
def Sc : V → PyData → Prop
  | .non, .none => True
  | .bl b, .bool c => b = c
  | .int i, .int j => i = j
  | .str x, .str y => x = y
  | _, _ => False
/-- of depth n at most, v is data d; with true tuples alone -/
def Dq (H : Hp) : Nat → Bool → V → PyData → Prop
  | 0, _, v, d => Sc v d
  | n + 1, b, v, d => Sc v d ∨ (b = false ∧ ∃ (a : Addr) (xs : List V) (ds : List PyData), v = .ref a ∧ d = .list ds ∧ H a = some (.lst xs) ∧ Paired (Dq H n b) xs ds ∧ xs.length ≤ 100) ∨
      (∃ (a : Addr) (xs : List V) (ds : List PyData), v = .ref a ∧ d = .tuple ds ∧ H a = some (.tup xs) ∧ Paired (Dq H n b) xs ds ∧ xs.length ≤ 100) ∨
      (b = false ∧ ∃ (a : Addr) (kvs : List (Key × V)) (kds : List (PyData × PyData)), v = .ref a ∧ d = .dict kds ∧ H a = some (.dK kvs) ∧ Paired (fun (p : Key × V) (q : PyData × PyData) => Sc (kV p.1) q.1 ∧ Dq H n true p.2 q.2) kvs kds ∧ kvs.length ≤ 100 ∧ (kvs.map (·.1)).Nodup)
/-- things that hold nothing -/
def flat : PyData → Bool
  | .none => true
  | .bool _ => true
  | .int _ => true
  | .str _ => true
  | _ => false
/-- data whose lists and tuples hold flat things alone -/
def nice : PyData → Bool
  | .list ds => ds.all flat
  | .tuple ds => ds.all flat
  | .dict _ => true
  | _ => true
theorem flat_noDict : ∀ {ds : List PyData}, ds.all flat = true → PyData.hasDictAll ds = false
  | [], _ => rfl
  | d :: ds, h => by
    rw [List.all_cons, Bool.and_eq_true] at h
    rw [PyData.hasDictAll, flat_noDict h.2]
    cases d <;> first | rfl | (exact absurd h.1 (by decide)) | (exact nomatch h.1)
theorem sc_reads {h : Heap} : ∀ {v : V} {d : PyData} {u : Value}, Sc v d → RelV v u → Reads h u d []
  | .non, .none, u, _, r => by cases (show u = Value.none from r); exact .none
  | .bl b, .bool c, u, e, r => by cases (show u = Value.bool b from r); cases (show b = c from e); exact .bool b
  | .int i, .int j, u, e, r => by obtain ⟨t, q⟩ := (show ∃ t, u = Value.int i t from r); cases q; cases (show i = j from e); exact .int i t
  | .str x, .str y, u, e, r => by obtain ⟨t, q⟩ := (show ∃ t, u = Value.str x t from r); cases q; cases (show x = y from e); exact .str x t
theorem readsAll_of {h : Heap} {R : V → PyData → Prop} {Z : List Addr → Prop} (z0 : Z []) (za : ∀ as bs, Z as → Z bs → Z (as ++ bs)) (f : ∀ v d u, R v d → RelV v u → ∃ as, Reads h u d as ∧ Z as) : ∀ {vs : List V} {ds : List PyData} {us : List Value}, Paired R vs ds → Vals vs us → ∃ as, ReadsAll h us ds as ∧ Z as
  | _, _, _, .nil, .nil => ⟨[], .nil, z0⟩
  | _, _, _, .cons r1 r2, .cons q1 q2 => by
    obtain ⟨as, x, n⟩ := f _ _ _ r1 q1
    obtain ⟨bs, y, m⟩ := readsAll_of z0 za f r2 q2
    exact ⟨_, .cons x y, za _ _ n m⟩
theorem key_reads {h : Heap} {k : Key} {d : PyData} {u : Value} (e : Sc (kV k) d) (q : keyIs k u = true) : Reads h u d [] := by
  rcases keyIs_shape q with ⟨i, t, rfl, rfl⟩ | ⟨x, t, rfl, rfl⟩
  · exact sc_reads e ⟨t, rfl⟩
  · exact sc_reads e ⟨t, rfl⟩
theorem pairs_reads {P : Program} {w : World} {h : Heap} {R : V → PyData → Prop} (f : ∀ v d u, R v d → RelV v u → ∃ as, Reads h u d as ∧ as = []) : ∀ {es : List DictEntry} {vs : List (Key × Value)} {kvs : List (Key × V)} {kds : List (PyData × PyData)},
    Pairs (mixKind P w) es vs → KV kvs vs → Paired (fun (p : Key × V) (q : PyData × PyData) => Sc (kV p.1) q.1 ∧ R p.2 q.2) kvs kds → ReadsAll h (es.map (·.key)) (kds.map (·.1)) [] ∧ ReadsAll h (es.map (·.val)) (kds.map (·.2)) []
  | _, _, _, _, .nil, .nil, .nil => ⟨.nil, .nil⟩
  | _, _, _, _, .cons k1 k2 k3, .cons r1 r2, .cons q1 q2 => by
    obtain ⟨x, y⟩ := pairs_reads f k3 r2 q2
    obtain ⟨e1, e2⟩ := r1
    obtain ⟨cs, z, ec⟩ := f _ _ _ q1.2 e2
    subst ec
    exact ⟨.cons (as := []) (key_reads (k := _) q1.1 (by rw [e1]; exact k1)) x, .cons (as := []) (by dsimp only; rw [k2]; exact z) y⟩
section
variable {X : Cx} {pins : List (Addr × Obj)} {σ : L2.St} {H : Hp} {s : Shared}
theorem dq_reads (I : Inv X pins σ H s) : ∀ (n : Nat) (b : Bool) (v : V) (d : PyData) (u : Value), Dq H n b v d → RelV v u → ∃ as, Reads s.heap u d as ∧ (b = true → as = [])
  | 0, b, v, d, u, e, r => ⟨[], sc_reads e r, fun _ => rfl⟩
  | n + 1, b, v, d, u, e, r => by
    have ih := fun b v d u => dq_reads I n b v d u
    have za : ∀ (b : Bool) (as bs : List Addr), (b = true → as = []) → (b = true → bs = []) → b = true → as ++ bs = [] := fun b as bs h1 h2 e => by rw [h1 e, h2 e]; rfl
    rcases e with e | ⟨e0, a, xs, ds, rfl, rfl, ha, hp, _⟩ | ⟨a, xs, ds, rfl, rfl, ha, hp, _⟩ | ⟨e0, a, kvs, kds, rfl, rfl, ha, hp, _⟩
    · exact ⟨[], sc_reads e r, fun _ => rfl⟩
    · cases (show u = Value.ref a from r)
      obtain ⟨_, its, m, rv, hg⟩ := (show ObjOk X.prog X.w H s.heap a (.lst xs) from I.hok a _ ha)
      obtain ⟨as, x, o⟩ := readsAll_of (fun _ => rfl) (za b) (ih b) hp rv
      exact ⟨_, .list hg rfl rfl x, fun z => by rw [e0] at z; cases z⟩
    · cases (show u = Value.ref a from r)
      obtain ⟨_, its, rv, ob, hg, hc, m, hd⟩ := (show ObjOk X.prog X.w H s.heap a (.tup xs) from I.hok a _ ha)
      obtain ⟨as, x, o⟩ := readsAll_of (fun _ => rfl) (za b) (ih b) hp rv
      exact ⟨_, .tuple hg hc hd x, o⟩
    · cases (show u = Value.ref a from r)
      obtain ⟨_, hs, vs, kv, ob, es, ep, hg, hx, hd, _, hpr, _⟩ := (show ObjOk X.prog X.w H s.heap a (.dK kvs) from I.hok a _ ha)
      obtain ⟨x, y⟩ := pairs_reads (fun v d u q r => let ⟨as, z, e⟩ := ih true v d u q r; ⟨as, z, e rfl⟩) hpr kv hp
      exact ⟨_, .dict hg hx.1 hd x y, fun z => by rw [e0] at z; cases z⟩
/-- nice data: no place of sys.modules among the dicts -/
theorem dq_nice (I : Inv X pins σ H s) {n : Nat} {v : V} {d : PyData} {u : Value} (hn : nice d = true) (e : Dq H n false v d) (r : RelV v u) : ∃ as, Reads s.heap u d as ∧ (d.hasDict = true → sysModules ∉ as) := by
  match n, e with
  | 0, e => exact ⟨[], sc_reads e r, fun _ z => nomatch z⟩
  | n + 1, e =>
    have gen := dq_reads I (n + 1) false v d u e r
    rcases e with e | ⟨e0, a, xs, ds, rfl, rfl, ha, hp, _⟩ | ⟨a, xs, ds, rfl, rfl, ha, hp, _⟩ | ⟨e0, a, kvs, kds, rfl, rfl, ha, hp, _⟩
    · exact ⟨[], sc_reads e r, fun _ z => nomatch z⟩
    · obtain ⟨as, x, _⟩ := gen
      exact ⟨as, x, fun z => by rw [PyData.hasDict, flat_noDict hn] at z; cases z⟩
    · obtain ⟨as, x, _⟩ := gen
      exact ⟨as, x, fun z => by rw [PyData.hasDict, flat_noDict hn] at z; cases z⟩
    · cases (show u = Value.ref a from r)
      obtain ⟨_, hs, vs, kv, ob, es, ep, hg, hx, hd, _, hpr, _⟩ := (show ObjOk X.prog X.w H s.heap a (.dK kvs) from I.hok a _ ha)
      obtain ⟨x, y⟩ := pairs_reads (fun v d u q r => let ⟨as, z, e⟩ := dq_reads I n true v d u q r; ⟨as, z, e rfl⟩) hpr kv hp
      refine ⟨_, .dict hg hx.1 hd x y, fun _ z => ?_⟩
      rcases List.mem_cons.mp z with z | z
      · rw [← z] at hs
        exact absurd hs (by decide)
      · exact nomatch z
/-- the parts of a list of nice data, each by itself -/
theorem parts_shown {P : Program} {w : World} {h : Heap} : ∀ {us : List Value} {ds : List PyData} {as : List Addr}, ReadsAll h us ds as → (∀ (i : Nat) (u : Value) (d : PyData), us[i]? = some u → ds[i]? = some d → ∃ bs, Reads h u d bs ∧ (d.hasDict = true → sysModules ∉ bs)) →
    (∀ d ∈ ds, d.showable = true ∧ d.shown.length ≤ sizeLine) → ∃ bs, ReadAtMost h (PyData.depthAll ds) bs ∧ ReprAllK P w bs h (PyData.depthAll ds) us (PyData.shownAll ds)
  | [], [], _, .nil, _, _ => ⟨[], (fun _ z => nomatch z), ReprAllK.nil⟩
  | u :: us, d :: ds, _, .cons r rs, f, g => by
    obtain ⟨as1, r1, h1⟩ := f 0 u d rfl rfl
    obtain ⟨g1, g2⟩ := g d (List.mem_cons_self ..)
    obtain ⟨b1, m1, k1⟩ := ReprK.of_reads (prog := P) (w := w) r1 g1 h1 g2
    obtain ⟨b2, m2, k2⟩ := parts_shown (P := P) (w := w) rs (fun i u d e1 e2 => f (i + 1) u d e1 e2) (fun d hd => g d (List.mem_cons_of_mem _ hd))
    have l1 : d.depth ≤ PyData.depthAll (d :: ds) := by rw [PyData.depthAll]; exact Nat.le_max_left _ _
    have l2 : PyData.depthAll ds ≤ PyData.depthAll (d :: ds) := by rw [PyData.depthAll]; exact Nat.le_max_right _ _
    refine ⟨b1 ++ b2, (m1.mono l1).append (m2.mono l2), ?_⟩
    rw [PyData.shownAll]
    exact .cons ((k1.more fun b q => List.mem_append_left _ q).level_le l1) (k2.more_le (fun b q => List.mem_append_right _ q) l2)
/-- repr(x), x nice data or a list of such -/
def rRepr : List V → Hp → VK → Prop := fun xs H Q => ∃ (n : Nat) (x : V) (d : PyData), xs = [x] ∧ Dq H n false x d ∧ (nice d = true ∨ ∃ ds, d = .list ds ∧ ds ≠ [] ∧ ∀ e ∈ ds, nice e = true ∧ e.showable = true ∧ e.shown.length ≤ sizeLine) ∧ d.showable = true ∧ d.shown.length ≤ sizeLine ∧ d.depth ≤ 60 ∧ Q (.str d.shown) H
theorem call_repr (hG : X.A.guards = some []) (hu : X.A.units + 64 < cLine) : CallR X (.builtin "repr") rRepr := by
  intro pins s σ H xs us Q I r h
  obtain ⟨n, x, d, rfl, hd, hc, hs, hz, hp, q⟩ := h
  cases r with
  | cons r1 r2 =>
    cases r2
    rename_i u
    have out : ∀ (h' : Heap) (t : Tok) (tk : Nat), (∀ b o, s.heap.get? b = some o → h'.get? b = some o) → EP X pins σ Q (.str d.shown t) { s with heap := h', toks := tk } := fun h' t tk hk => ⟨.str d.shown, H, I.kept (t' := tk) hk, ⟨t, rfl⟩, q⟩
    rcases hc with hn | ⟨ds, rfl, ne, hn⟩
    · obtain ⟨as, rd, hno⟩ := dq_nice I hn hd r1
      cases rd with
      | none => exact PySem.P.repr_of_none (out s.heap _ _ fun _ _ e => e)
      | bool b => exact PySem.P.repr_of_bool (by simpa only [PyData.shown] using out s.heap _ _ fun _ _ e => e)
      | int i t => exact PySem.P.repr_of_int (by simpa only [PyData.showable, decide_eq_true_eq] using hs) (by simpa only [PyData.shown] using out s.heap s.toks (s.toks + 1) fun _ _ e => e)
      | str z t => exact PySem.P.repr_of_str (by simpa only [PyData.shown] using out s.heap s.toks (s.toks + 1) fun _ _ e => e) (by simpa only [PyData.shown] using hz)
      | list a b c e => exact repr_of_reads' (.list a b c e) hs hno hG (by omega) (fun _ _ e => e) (fun h' t tk hk => out h' t tk hk) hz
      | tuple a b c e => exact repr_of_reads' (.tuple a b c e) hs hno hG (by omega) (fun _ _ e => e) (fun h' t tk hk => out h' t tk hk) hz
      | dict a b c e f => exact repr_of_reads' (.dict a b c e f) hs hno hG (by omega) (fun _ _ e => e) (fun h' t tk hk => out h' t tk hk) hz
    · match n, hd with
      | 0, hd => exact (show False by cases x <;> exact hd).elim
      | n + 1, hd =>
        rcases hd with e | ⟨_, a, ys, ds', rfl, e, ha, hpr, _⟩ | ⟨_, _, _, _, e, _⟩ | ⟨_, _, _, _, _, e, _⟩
        · exact (show False by cases x <;> exact e).elim
        · cases e
          cases (show u = Value.ref a from r1)
          obtain ⟨_, its, m, rv, hg⟩ := (show ObjOk X.prog X.w H s.heap a (.lst ys) from I.hok a _ ha)
          obtain ⟨as, rd, _⟩ := readsAll_of (Z := fun _ => True) True.intro (fun _ _ _ _ => True.intro) (fun v d u q r => let ⟨as, z, _⟩ := dq_reads I n false v d u q r; ⟨as, z, True.intro⟩) hpr rv
          have each : ∀ {ys : List V} {ds : List PyData} {its : List Value}, Paired (Dq H n false) ys ds → Vals ys its → (∀ e ∈ ds, nice e = true) → ∀ (i : Nat) (u : Value) (d : PyData), its[i]? = some u → ds[i]? = some d → ∃ bs, Reads s.heap u d bs ∧ (d.hasDict = true → sysModules ∉ bs) := by
            intro ys ds its p
            induction p generalizing its with
            | nil => intro _ _ i u d _ e2; simp at e2
            | cons q t ih =>
              intro rv hn i u d e1 e2
              cases rv with
              | cons w1 w2 =>
                cases i with
                | zero =>
                  cases e1
                  cases e2
                  exact dq_nice I (hn _ (List.mem_cons_self ..)) q w1
                | succ i => exact ih w2 (fun e he => hn e (List.mem_cons_of_mem _ he)) i u d (by simpa using e1) (by simpa using e2)
          obtain ⟨bs, hb, hk⟩ := parts_shown (P := X.prog) (w := X.w) rd (each hpr rv fun e he => (hn e he).1) (fun e he => (hn e he).2)
          have whole : Reads s.heap (.ref a) (.list ds) _ := .list hg rfl rfl rd
          have dp : (PyData.list ds).depth = PyData.depthAll ds + 1 := by rw [PyData.depth]
          have away : a ∉ bs := not_mem_of_deeper whole (by rw [dp]; omega) hb
          have hz2 : (listText (PyData.shownAll ds)).length ≤ sizeLine := by simpa only [PyData.shown] using hz
          have ty : s.TypeIs (.ref a) "list" := ⟨_, hg, rfl⟩
          refine call_repr_slot (by omega) ty F.slot_list_repr.toG ?_
          cases its with
          | nil =>
            cases rd
            exact absurd rfl ne
          | cons u1 its =>
            refine call_list_reprK hg rfl rfl away (by simpa using hk.length_eq) (fun i y e => hk.item i y (by simpa using e)) hG (fun b _ => Clear.nil b) (by rw [dp] at hp; show X.A.units + 1 + _ < cLine; omega) (fun _ _ e => e) (fun h' t tk hk => ?_) hz2
            refine ⟨_, _, rfl, ?_⟩
            have z := out h' t tk hk
            simpa only [PyData.shown] using z
        · cases e
        · cases e
end
end Gd
namespace Gd
open PySem PySem.Spec PyProof.Rows L2 PySem.HandSPX Builtin Builtin.ObjectAttr
/-! ### an exception class of one's own called with keywords, too -/
section
variable {prog : Program} {w : World} {A : Around} {E : Value → Shared → Prop} {R : Result → Shared → Prop} {h : Heap} {g : Array GenState} {d : Drawn} {t : Nat} {os : OsState}
variable {nm q : Str} {C N : Addr} {bs bm bmB : List Value} {hdct : Bool} {sn : List Str} {sub : List Value} {ab : Bool} {col : Option Bool} {dd : Option Addr} {k0 k1 k2 k3 k5 : Option Value} {B newId initId : String}
  {rest : List Value} {kw : List (Str × Value)}
theorem kw_check {M : Model} (F : ExcBaseFacts B newId initId bmB) (same : ∀ X : String, bm.contains (.type X) = bmB.contains (.type X)) {Q : Unit → Shared → Prop}
    (hC : h.get? C = some (excClassObj nm q C N bs bm hdct sn sub ab col dd k0 k1 k2 k3 k5 newId)) (hq : Q () ⟨h, g, d, t, os⟩) : wpAny M A (checkBuiltinCall newId ⟨.ref C :: rest, kw⟩) Q E ⟨h, g, d, t, os⟩ := by
  have below : (Value.ref C :: bm).contains (.type B) = true := by simp only [List.contains_cons, same, F.hasB, Bool.or_true]
  have star := F.noStar
  simp only [checkBuiltinCall, F.newSplit, F.newKind, F.newRow]
  repeat first
    | refine wpAny_staticBase_exc hC ?_
    | refine wpAny_madeBy_exc hC ?_
    | (refine wpAny_isSubtype_exc hC ?_; rw [below])
    | refine wpAny_loadPart_at hC ?_
    | simp only [Bool.false_eq_true, bne_self_eq_false, if_false]
    | wp_step
  exact hq
theorem kw_new (F : ExcBaseFacts B newId initId bmB) (same : ∀ X : String, bm.contains (.type X) = bmB.contains (.type X)) (hC : h.get? C = some (excClassObj nm q C N bs bm hdct sn sub ab col dd k0 k1 k2 k3 k5 newId)) (hl : rest.length ≤ sizeLine)
    (hq : R (.ok (.ret (.ref (h.objs.size + 1)))) ⟨(h.push (PySem.W.kdv_tup rest)).push (excO C h.objs.size), g, d, t, os⟩) :
    codeAny (model prog w) A (.builtin newId ⟨.ref C :: rest, kw⟩) R ⟨h, g, d, t, os⟩ := by
  have ends := F.ends
  have isB : (Value.ref C :: bm).contains (.type B) = true := by simp only [List.contains_cons, same, F.hasB, Bool.or_true]
  have notA : (Value.ref C :: bm).contains (.type "AttributeError") = false := by simp only [List.contains_cons, same, F.noAttr, Bool.or_false]; rfl
  have notN : (Value.ref C :: bm).contains (.type "NameError") = false := by simp only [List.contains_cons, same, F.noName, Bool.or_false]; rfl
  apply codeAny_builtinAt F.entry
  unfold Builtin.«BaseException.__new__»
  refine PySem.wpAt_bind ?_
  show PySem.wpAt _ _ _ (stack >>= _) _ _ _
  refine PySem.wpAt_bind ?_
  refine PySem.wpAt_stack fun p below => ?_
  apply PySem.wpAt_of_wpAny
  wp_walk
  apply PySem.wpAt_of_wpAny
  rw [F.owner]
  repeat first
    | with_reducible refine wpAny_loadPart_at hC ?_
    | with_reducible refine wpAny_madeHere_exc F.canon hC ?_
    | (with_reducible refine wpAny_isSubtype_exc hC ?_; first | rw [notN] | rw [notA] | rw [isB])
    | wp_step
  show R _ _
  rw [Heap.size_push]
  exact hq
/-- C(*rest, **kw): the new exception, then C's own __init__ over it -/
theorem kw_make (F : ExcBaseFacts B newId initId bmB) (same : ∀ X : String, bm.contains (.type X) = bmB.contains (.type X)) {fI : Addr} (hC : h.get? C = some (excClassObj nm q C N bs bm hdct sn sub ab col dd k0 k1 k2 k3 k5 newId)) (hl : rest.length ≤ sizeLine)
    (hi : PySem.W.Looks (model prog w) h (typeLookup (.ref C) "__init__") (some (.ref fI))) (hb : ∀ self, PySem.W.Looks (model prog w) h (bindSpecial (.ref fI) self) (.ref fI, [self]))
    (hq : codeAny (model prog w) (A.under (.builtin "type.__call__" ⟨.ref C :: rest, kw⟩)) (.call (.ref fI) ⟨.ref (h.objs.size + 1) :: rest, kw⟩) (PySem.W.InitBack (h.objs.size + 1) R)
      ⟨(h.push (PySem.W.kdv_tup rest)).push (excO C h.objs.size), g, d, t, os⟩) :
    codeAny (model prog w) A (.call (.ref C) ⟨rest, kw⟩) R ⟨h, g, d, t, os⟩ := by
  have f1 := tc_lookup
  have f2 := tc_bind (.ref C)
  have ty : (⟨h, g, d, t, os⟩ : Shared).TypeIs (.ref C) "type" := ⟨_, hC, rfl⟩
  have old : ∀ b o, h.get? b = some o → ((h.push (PySem.W.kdv_tup rest)).push (excO C h.objs.size)).get? b = some o := fun b o e => Heap.get?_push_of_some _ (Heap.get?_push_of_some _ e)
  have new : ((h.push (PySem.W.kdv_tup rest)).push (excO C h.objs.size)).get? (h.objs.size + 1) = some (excO C h.objs.size) := by heap_get
  have mine : (Value.ref C :: bm).contains (.ref C) = true := by simp only [List.contains_cons, beq_self_eq_true, Bool.true_or]
  apply codeAny_of_tree
  show wpAny _ _ (callAny (.ref C) _) _ _ _
  repeat any_goals first
    | assumption
    | with_reducible refine wpAny_loadPart_at hC ?_
    | wp_step
  refine ⟨rfl, ?_⟩
  apply codeAny_call_builtin_at (Code.quiet_builtin _ (by decide +kernel)) entry_typeCall
  apply wpAny_check_type_call_sub hC
  repeat first
    | with_reducible refine wpAny_madeBy_exc hC ?_
    | with_reducible refine wpAny_loadPart_at hC ?_
    | wp_step
  apply codeAny_call_builtin_code (Code.quiet_builtin _ F.quiet)
  apply kw_check F same hC
  apply kw_new F same hC hl
  show wpAny _ _ _ _ _ _
  have hC1 := old _ _ hC
  unfold isInstance
  repeat first
    | with_reducible refine wpAny_loadPart_at new ?_
    | (with_reducible refine wpAny_isSubtype_exc hC1 ?_; rw [mine])
    | wp_step
  show wpAny _ _ (typeLookup (.ref C) _) _ _ _
  apply (hi.keeps old).at
  apply wpAny_holding
  apply wpAny_bind
  apply ((hb (.ref (h.objs.size + 1))).keeps old).at
  apply wpAny_bind
  apply wpAny_call
  apply codeAny_mono hq
  intro r s' z
  match r, z with
  | .error e, z => exact z
  | .ok (.ret v), z =>
    obtain ⟨ev, y⟩ := (show v = Value.none ∧ R (.ok (.ret (.ref (h.objs.size + 1)))) s' from z)
    subst ev
    wp_walk
    exact y
  | .ok .next, z => exact (z : False).elim
  | .ok .brk, z => exact (z : False).elim
  | .ok .cont, z => exact (z : False).elim
end
end Gd
namespace Gd
open PySem PySem.Spec PyProof.Rows L2
theorem pe_weak {X : Cx} {e : Expr} {t t' : TE} (h : PE X e t) (f : ∀ σ H Q, t' σ H Q → t σ H Q) : PE X e t' := ⟨fun pins s σ H Q I q => h.run pins s σ H Q I (f σ H Q q)⟩
/-- at a: an exception of the class at C with these fields -/
def ExAt (H : Hp) (a C : Addr) (fs : List (Str × V)) : Prop := ∃ d, H a = some (exo a C (some d)) ∧ H d = some (exd d fs)
theorem ExAt.same {H H' : Hp} {a C : Addr} {fs : List (Str × V)} (x : ExAt H a C fs) (s : Same H H') : ExAt H' a C fs := by
  obtain ⟨d, h1, h2⟩ := x
  exact ⟨d, s _ _ h1, s _ _ h2⟩
/-- C(.., k = ..) as a value; C's own __init__ keeps sp -/
def tMkX (C : Addr) (sp : Sp) (gV : List V → List V → List V) (t tk : TA) : TE := fun σ H Q => t σ H fun vs H1 => tk σ H1 fun zs H2 => vs.length ≤ 1000 ∧ ∀ a, H2 a = none →
  sp (gV (.ref a :: vs) zs) (upd H2 a (exo a C none)) (fun v H3 => v = .non ∧ Q (.ref a) H3) (fun _ _ _ => False)
section
variable {X : Cx} {CX : CXT} {k : Nat} {fI C : Addr} {fd : FuncData} {ps ks : List Str} {sp : Sp} {x : Str} {p pos : Pos} {e : Expr} {es : List Expr} {kws : List Keyword} {t tk : TA} {g : List Value → List Value → List Value} {gV : List V → List V → List V}
theorem run_mkX {pins : List (Addr × Obj)} {σ : L2.St} {H : Hp} {s : Shared} {Q : VK} {us ws : List Value} {vs zs : List V} (T : OexC X.K C) (iC : PySem.W.findIn X.K (.ref C) "__init__" = some (some (.ref fI)))
    (tI : PySem.W.typeIn X.K (.ref fI) = some (.type "function")) (F1 : FnOk X.prog X.w X.K X.mg X.base CX k fI fd ps sp) (hr : Room (k + 1) X.A) (hb : KBinds X.K fd ps ks g gV) (hx : Passes CX X (fun _ _ _ => False))
    (I : Inv X pins σ H s) (r : Vals vs us) (rz : Vals zs ws) (hl : vs.length ≤ 1000)
    (h : ∀ a, H a = none → sp (gV (.ref a :: vs) zs) (upd H a (exo a C none)) (fun v H3 => v = .non ∧ Q (.ref a) H3) (fun _ _ _ => False)) :
    wpAny (model X.prog X.w) X.A (call (.ref C) us (ks.zip ws)) (EP X pins σ Q) X.xe s := by
  obtain ⟨nm, q, N, bs, bm, sn, sub, ab, col, dd, k0, k1, k2, k3, k5, hC, hbm⟩ := T.cls
  obtain ⟨hp, gs, dr, n, os⟩ := s
  have more : hp.objs.size ≤ hp.objs.size + 1 := Nat.le_succ _
  have hq := h (hp.objs.size + 1) (I.hok.fresh more)
  have new : ((hp.push (PySem.W.kdv_tup us)).push (PySem.HandSPX.excO C hp.objs.size)).get? (hp.objs.size + 1) = some (PySem.HandSPX.excO C hp.objs.size) := by heap_get
  have J : Inv X pins σ (upd H (hp.objs.size + 1) (exo (hp.objs.size + 1) C none)) ⟨(hp.push (PySem.W.kdv_tup us)).push (PySem.HandSPX.excO C hp.objs.size), gs, dr, n, os⟩ :=
    I.laid (t' := n) (a := hp.objs.size + 1) (o := exo (hp.objs.size + 1) C none) (fun b o e => Heap.get?_push_of_some _ (Heap.get?_push_of_some _ e)) more (exo_ok new)
  have r1 : Vals (V.ref (hp.objs.size + 1) :: vs) (Value.ref (hp.objs.size + 1) :: us) := .cons rfl r
  have r2 := hb.rel r1 rz
  have len : (g (Value.ref (hp.objs.size + 1) :: us) ws).length = ps.length := by rw [← r2.length]; exact F1.len _ _ _ _ hq
  have lus : us.length ≤ sizeLine := by rw [← r.length, sizeLine_eq]; omega
  apply wpAny_call
  apply kw_make PySem.F.excBase_ValueError (fun Y => PySem.HandSPX.refsVE_contains Y bm hbm) (I.kIn _ _ hC) lus (PySem.W.looks_findIn I.kIn iC) (fun self => PySem.W.bind_fn I.kIn self tI)
  apply codeAny_mono (F1.run _ X.stack _ _ ⟨Value.ref (hp.objs.size + 1) :: us, ks.zip ws⟩ _ _ _ _ (hr.make C us (ks.zip ws)) (J.env0.make C us (ks.zip ws)) (hb.to _ (Value.ref (hp.objs.size + 1) :: us) ws J.kIn len) r2 hq)
  intro z s' hz
  match z, hz with
  | .error er, hz => exact hx pins σ _ _ er s' J hz
  | .ok (.ret u), hz =>
    obtain ⟨v, H', I3, rv, ev, q3⟩ := J.after hz
    subst ev
    exact ⟨rv, .ref (hp.objs.size + 1), H', I3, rfl, q3⟩
  | .ok .next, hz => exact (hz : False).elim
  | .ok .brk, hz => exact (hz : False).elim
  | .ok .cont, hz => exact (hz : False).elim
theorem pe_mkX (T : OexC X.K C) (iC : PySem.W.findIn X.K (.ref C) "__init__" = some (some (.ref fI))) (tI : PySem.W.typeIn X.K (.ref fI) = some (.type "function")) (F1 : FnOk X.prog X.w X.K X.mg X.base CX k fI fd ps sp) (hr : Room (k + 1) X.A)
    (hb : KBinds X.K fd ps [] g gV) (hx : Passes CX X (fun _ _ _ => False)) (hg : Gl X x) (hm : X.mg x = some (.ref C)) (ha : PA X (e :: es) t)
    (hdb : (x == ("__debug__" : Str)) = false := by decide) (he : starEach (e :: es) X.env = (false, eval e X.env) :: starEach es X.env := by rfl) (hpl : (backTo pos (starEach es X.env)).any (·.1) = false := by rfl) :
    PE X (.Call (.Name x p) (e :: es) [] pos) (tMkX C sp gV t tNil) := by
  constructor
  intro pins s σ H Q I h
  apply wpAny_Call_Name_kw
  apply ld_glob I hg hm ?_ hdb
  refine PySem.W.callWith_K (h₀ := X.base) I.ok.mod.kin T.kC (thn (ha.run pos pins s σ H _ I h) ?_) he hpl
  intro us s1 ⟨vs, H1, I1, r, l, q⟩
  exact ⟨I1.kIn, run_mkX (ws := []) T iC tI F1 hr hb hx I1 r .nil l q⟩
theorem pe_mkXK (T : OexC X.K C) (iC : PySem.W.findIn X.K (.ref C) "__init__" = some (some (.ref fI))) (tI : PySem.W.typeIn X.K (.ref fI) = some (.type "function")) (F1 : FnOk X.prog X.w X.K X.mg X.base CX k fI fd ps sp) (hr : Room (k + 1) X.A)
    (hb : KBinds X.K fd ps ks g gV) (hx : Passes CX X (fun _ _ _ => False)) (hg : Gl X x) (hm : X.mg x = some (.ref C)) (hkw : PK X kws tk)
    (hall : (backToKw pos (keywordEach kws X.env)).all (·.1.isSome) = true := by rfl) (hks : (backToKw pos (keywordEach kws X.env)).filterMap (·.1) = ks := by rfl) (hdb : (x == ("__debug__" : Str)) = false := by decide)
    (hpl : ((backTo pos (starEach [] X.env)).any (·.1) || (backToKw pos (keywordEach kws X.env)).any (·.1.isNone)) = false := by rfl) :
    PE X (.Call (.Name x p) [] kws pos) (tMkX C sp gV tNil tk) := by
  constructor
  intro pins s σ H Q I h
  apply wpAny_Call_Name_kw
  apply ld_glob I hg hm ?_ hdb
  refine PySem.W.callWith_KW0 (h₀ := X.base) I.ok.mod.kin T.kC hall ?_ hpl
  refine thn (hkw.run pos pins s σ H _ I h) ?_
  intro ws s2 ⟨zs, H2, I2, rz, l, q2⟩
  refine ⟨I2.kIn, ?_⟩
  rw [hks]
  exact run_mkX (us := []) T iC tI F1 hr hb hx I2 .nil rz l q2
end
end Gd
namespace Gd
open PySem PySem.Spec PySem.Calls PyProof.Rows PySem.W
/-! ### isinstance of an exception that may have attributes -/
section
variable {prog : Program} {w : World} {A : Around} {E : Value → Shared → Prop} {s : Shared} {K : Frag} {x D : Addr} {ox : Obj} {od : Option Obj}
theorem class_found (T : L2.ExcC K D) : findObj K D od "__class__" = some (.bind (.builtin "getset_descriptor.__get__") (.builtin "object.__class__")) := by
  obtain ⟨cd, hc, _⟩ := any_some T.hd
  unfold findObj
  simp [hc, T.ha, T.hn, T.ht]
theorem class_asked (T : L2.ExcC K D) {Q : Option Value → Shared → Prop} (X : K.In s.heap) (I : InstAt s.heap x ox D od) (h : Q (some (.ref D)) { s with toks := s.toks + 1 }) : wpAny (model prog w) A (getAttr? (.ref x) "__class__") Q E s := by
  obtain ⟨hp, g, d, t, os⟩ := s
  have ty := I.type (M := model prog w)
  have found := looks_find (M := model prog w) X I (class_found T)
  have get := looks_findIn (M := model prog w) X T.hg
  have none_else := looks_findIn (M := model prog w) X T.hk
  have below : Looks (model prog w) hp (isInstance (.ref x) (.type "BaseException")) true := ty.andThen (looks_subIn X T.hs)
  have ne : (Value.builtin "BaseException.__getattribute__" == Value.builtin "object.__getattribute__") = false := by decide +kernel
  have n1 : (onTheHeap (Value.ref D) && Value.builtin "BaseException.__getattribute__" == Value.builtin "object.__getattribute__") = false := by rw [ne]; rfl
  have n2 : (false && onTheHeap (Value.builtin "BaseException.__getattribute__")) = false := rfl
  unfold getAttr? getAttrBy? getAttrBy
  apply wpAny_bind
  apply wpAny_mkText
  apply wpAny_bind
  apply wpAny_attempt
  apply wpAny_holding
  apply wpAny_bind
  apply ty.at
  apply wpAny_bind
  apply get.at
  show wpAny _ _ (if (onTheHeap (Value.ref D) && Value.builtin "BaseException.__getattribute__" == Value.builtin "object.__getattribute__") = true then _ else _) _ _ _
  rw [n1, if_neg Bool.false_ne_true]
  unfold getAttrByItsOwn hookBefore
  apply wpAny_bind
  rw [if_pos (show onTheHeap (Value.ref D) = true from rfl)]
  apply none_else.at
  apply wpAny_bind
  apply wpAny_attempt
  apply wpAny_holding
  unfold callGetattribute
  rw [n2, if_neg Bool.false_ne_true]
  unfold boundAndCalled
  rw [PySem.F.excAttr_ValueError.ga.bind (.ref x)]
  apply wpAny_bind
  apply wpAny_pure
  show wpAny _ _ (call (.builtin "BaseException.__getattribute__") [.ref x, .str "__class__" t]) _ _ _
  apply wpAny_call
  apply codeAny_call_builtin PySem.F.excAttr_ValueError.ga.plain PySem.F.entry_bexc_ga
  apply @check_slot (model prog w) _ _ ⟨hp, g, d, t + 1, os⟩ "BaseException.__getattribute__" "BaseException" "__getattribute__" (.ref x) [.str "__class__" t] [] _ (by decide +kernel) (by decide +kernel) below (PySem.F.args_bexc_ga (.ref x) (.str "__class__" t))
  unfold Builtin.«object.__getattribute__»
  apply wpAny_bind
  apply wpAny_of_eq (a := ((Value.ref x : Value), [Value.str "__class__" t])) (by first | rfl | (simp only [slotArgs]; rfl))
  apply wpAny_bind
  apply wpAny_pure
  apply wpAny_bind
  apply ty.at
  apply wpAny_bind
  apply found.at
  show wpAny _ _ (holding [Value.builtin "object.__class__"] (call (.builtin "getset_descriptor.__get__") [.builtin "object.__class__", .ref x, .ref D]) >>= ret) _ _ _
  apply wpAny_bind
  apply wpAny_holding
  apply wpAny_call
  apply class_get (s := ⟨hp, g, d, t + 1, os⟩) (ox := ox) (od := od) X I T.hm
  apply wpAny_pure
  show wpAny _ _ (handedOut (.ref D)) _ _ _
  rw [handedOut_of (v := .ref D) rfl]
  first
    | exact wpAny_pure (wpAny_pure h)
    | exact wpAny_pure h
    | exact wpAny_pure (wpAny_bind (wpAny_pure (wpAny_pure h)))
theorem kitx_of (T : L2.ExcC K D) : KitX K (.ref x) (.ref D) (fun h => ∃ (ox : Obj) (od : Option Obj), InstAt h x ox D od) := by
  have part : ∃ (c : Value) (d' : Option Addr) (cd' : ClassData) (sl' : Array (Option Value)), K.lookup D = some ⟨c, d', .cls cd', sl'⟩ := by
    obtain ⟨cd, hc, _⟩ := any_some T.hd
    unfold clsIn at hc
    split at hc
    · rename_i c' d' cd' sl' ho
      exact ⟨c', d', cd', sl', ho⟩
    · cases hc
  obtain ⟨c', d', cd', sl', ho⟩ := part
  constructor
  · intro _ _ _ ⟨ox, od, I⟩
    exact I.type
  · intro M h X _ A' Q' E' s' k q
    unfold isType loadHead
    exact wpAny_bind (wpAny_loadPart (k _ _ (X _ _ ho)) (wpAny_pure q))
  · intro h tp dd its n sl X htp
    cases e : ((Value.ref D) == .ref tp) with
    | false => rfl
    | true =>
      have e' : D = tp := Value.ref.inj (beq_iff_eq.mp e)
      subst e'
      exact nomatch (X _ _ ho).symm.trans htp
  · intro _ _ _ _ _ _ X ⟨ox, od, I⟩ q
    exact class_asked T X I q
end
end Gd
namespace Gd
open PySem PySem.Spec PyProof.Rows L2
/-- at a: an exception of the class at D -/
def XAt (H : Hp) (a D : Addr) : Prop := (∃ fs, ExAt H a D fs) ∨ H a = some (exo a D none)
theorem XAt.same {H H' : Hp} {a D : Addr} (x : XAt H a D) (s : Same H H') : XAt H' a D := by
  rcases x with ⟨fs, x⟩ | x
  · exact .inl ⟨fs, x.same s⟩
  · exact .inr (s _ _ x)
section
variable {X : Cx} {pins : List (Addr × Obj)} {σ : L2.St} {H : Hp} {s : Shared}
theorem xat_inst (I : Inv X pins σ H s) {a D : Addr} (x : XAt H a D) : ∃ (ox : Obj) (od : Option Obj), PySem.W.InstAt s.heap a ox D od := by
  rcases x with ⟨fs, d, h1, h2⟩ | h1
  · obtain ⟨t1, ho⟩ := exo_at I.hok h1
    obtain ⟨mA, hn, _⟩ := exd_at I.hok h2
    obtain ⟨o, _, _, e, _⟩ := hn
    exact ⟨_, some o, ho, rfl, rfl, e⟩
  · obtain ⟨t1, ho⟩ := exo_at I.hok h1
    exact ⟨_, none, ho, rfl, rfl, trivial⟩
/-- isinstance(e, c), e an exception held as a value -/
def rIsX (K : PySem.W.Frag) : List V → Hp → VK → Prop := fun xs H Q => ∃ (a D : Addr) (c : V) (cv : Value) (b : Bool), xs = [.ref a, c] ∧ XAt H a D ∧ ClsV c cv ∧ ExcC K D ∧ PySem.W.kitOne K (.ref D) cv = some b ∧ Q (.bl b) H
theorem call_isX : CallR X (.builtin "isinstance") (rIsX X.K) := by
  intro pins s σ H xs us Q I r h
  obtain ⟨a, D, c, cv, b, rfl, hx, hc, T, e, q⟩ := h
  obtain ⟨u1, u2, rfl, r1, r2⟩ := vals2 r
  cases (show u1 = Value.ref a from r1)
  have e2 := hc.eq r2
  subst e2
  exact PySem.W.kia_one (kitx_of T) I.kIn (xat_inst I hx) e (fun z => nomatch z) fun tk => ⟨.bl b, H, I.tok tk, rfl, q⟩
/-- e.f, e an exception held as a value -/
def tXf (K : PySem.W.Frag) (f : Str) (te : TE) : TE := fun σ H Q => te σ H fun x H1 => ∃ (a C : Addr) (fs : List (Str × V)) (v : V), x = .ref a ∧ ExAt H1 a C fs ∧ ExcC K C ∧ PySem.W.findIn K (.ref C) f = some none ∧ fs.lookup f = some v ∧ Q v H1
theorem pe_xf {e : Expr} {te : TE} {f : Str} {pos : Pos} (he : PE X e te) (hb : attributeBase e f X.env (eval e X.env) = eval e X.env := by rfl) : PE X (.Attribute e f pos) (tXf X.K f te) := by
  constructor
  intro pins s σ H Q I h
  apply attr_of hb
  refine thn (he.run pins s σ H _ I h) ?_
  intro u s1 ⟨x, H1, I1, rx, a, C, fs, v, ex, ⟨d, h1, h2⟩, T, no, hv, q⟩
  subst ex
  cases (show u = Value.ref a from rx)
  obtain ⟨t1, ho⟩ := exo_at I1.hok h1
  obtain ⟨mA, hn, hr⟩ := exd_at I1.hok h2
  obtain ⟨od, hod, hl⟩ := lookIn_ns hn
  obtain ⟨w, hw, rw'⟩ := RelO.some_of (v := v) (o := mA f) (by rw [← hv]; exact hr f)
  have J : PySem.W.InstAt s1.heap a _ C (some od) := ⟨ho, rfl, rfl, hod⟩
  exact PySem.HandSPX.exc_get I1.kIn J T.hg T.hk T.hs (PySem.W.findObj_own T.hd no rfl (by rw [hl, hw])) (handed_of rw') ⟨v, H1, I1.tok _, rw', q⟩
end
end Gd
namespace Gd
open PySem PySem.Spec PyProof.Rows L2
/-- [..], where it is told that the place is not that of sys.modules -/
def tLstN (t : TA) : TE := fun σ H Q => t σ H fun xs H1 => xs.length ≤ sizeLine ∧ ∀ p, H1 p = none → p ≠ sysModules → Q (.ref p) (upd H1 p (.lst xs))
theorem pe_lstN {X : Cx} {es : List Expr} {pos : Pos} {t : TA} (h : PA X es t) : PE X (.List es pos) (tLstN t) := by
  constructor
  intro pins s σ H Q I hq
  apply wpAny_List_spliced
  apply thn (h.run pos pins s σ H _ I hq)
  intro us s1 ⟨xs, H1, I1, r, z, q⟩
  refine ⟨by rw [← r.length]; exact z, ?_⟩
  have low : 1 < s1.heap.objs.size := by
    obtain ⟨o, es, ep, e, _⟩ := I1.ok.mod.glob
    have : (3 : Nat) < s1.heap.objs.size := Heap.lt_size (I1.bk _ _ e)
    omega
  have ns : s1.heap.objs.size ≠ sysModules := fun z => by
    have : s1.heap.objs.size = 1 := z
    omega
  exact ⟨.ref s1.heap.objs.size, upd H1 s1.heap.objs.size (.lst xs), I1.laid (t' := s1.toks) (fun b u e => Heap.get?_push_of_some _ e) (Nat.le_refl _) (show ObjOk X.prog X.w _ _ _ (.lst xs) from ⟨z, us, 0, r, Heap.get?_push_size _ rfl⟩), rfl, q _ (I1.hok.fresh (Nat.le_refl _)) ns⟩
theorem Dq.same {H H' : Hp} (s : Same H H') : ∀ {n : Nat} {b : Bool} {v : V} {d : PyData}, Dq H n b v d → Dq H' n b v d
  | 0, _, _, _, h => h
  | n + 1, b, v, d, h => by
    have ih : ∀ {b v d}, Dq H n b v d → Dq H' n b v d := fun h => Dq.same s h
    rcases h with h | ⟨e0, a, xs, ds, e1, e2, h1, h2, h3⟩ | ⟨a, xs, ds, e1, e2, h1, h2, h3⟩ | ⟨e0, a, xs, ds, e1, e2, h1, h2, h3⟩
    · exact .inl h
    · exact .inr (.inl ⟨e0, a, xs, ds, e1, e2, s _ _ h1, L2.Paired.mapP h2 fun _ _ z => ih z, h3⟩)
    · exact .inr (.inr (.inl ⟨a, xs, ds, e1, e2, s _ _ h1, L2.Paired.mapP h2 fun _ _ z => ih z, h3⟩))
    · exact .inr (.inr (.inr ⟨e0, a, xs, ds, e1, e2, s _ _ h1, L2.Paired.mapP h2 fun _ _ z => ⟨z.1, ih z.2⟩, h3⟩))
/-- what holds of tuples alone holds -/
theorem Dq.weak {H : Hp} : ∀ {n : Nat} {b : Bool} {v : V} {d : PyData}, Dq H n true v d → Dq H n b v d
  | 0, _, _, _, h => h
  | n + 1, b, v, d, h => by
    have ih : ∀ {v d}, Dq H n true v d → Dq H n b v d := fun h => Dq.weak h
    rcases h with h | ⟨e0, _⟩ | ⟨a, xs, ds, e1, e2, h1, h2, h3⟩ | ⟨e0, _⟩
    · exact .inl h
    · cases e0
    · exact .inr (.inr (.inl ⟨a, xs, ds, e1, e2, h1, L2.Paired.mapP h2 fun _ _ z => ih z, h3⟩))
    · cases e0
/-- tuples stay where they are when something else is stored -/
theorem Dq.tups {H H' : Hp} (s : ∀ b xs, H b = some (.tup xs) → H' b = some (.tup xs)) : ∀ {n : Nat} {v : V} {d : PyData}, Dq H n true v d → Dq H' n true v d
  | 0, _, _, h => h
  | n + 1, v, d, h => by
    have ih : ∀ {v d}, Dq H n true v d → Dq H' n true v d := fun h => Dq.tups s h
    rcases h with h | ⟨e0, _⟩ | ⟨a, xs, ds, e1, e2, h1, h2, h3⟩ | ⟨e0, _⟩
    · exact .inl h
    · cases e0
    · exact .inr (.inr (.inl ⟨a, xs, ds, e1, e2, s _ _ h1, L2.Paired.mapP h2 fun _ _ z => ih z, h3⟩))
    · cases e0
theorem Dq.sc {H : Hp} {v : V} {d : PyData} {b : Bool} (h : Sc v d) : ∀ {n : Nat}, Dq H n b v d
  | 0 => h
  | n + 1 => .inl h
end Gd
namespace Kone
open PySem L2
def top (i : Nat) : Stmt := PySem.Challenge.pw_sumdigits_k01_errors_made.main.body.getD i (.Pass ⟨0, 0, 0, 0⟩)
abbrev sPen : Stmt := top 28
abbrev sDraw : Stmt := top 29
abbrev sPick : Stmt := top 30
abbrev sAny : Stmt := top 31
abbrev sOnes : Stmt := top 32
abbrev sTwos : Stmt := top 33
abbrev sKinds : Stmt := top 34
abbrev sLaw : Stmt := top 35
/-- all that was tracked but what stands at p stands as before -/
def Keep (p : Addr) (H H' : Hp) : Prop := ∀ b o, b ≠ p → H b = some o → H' b = some o
theorem Keep.refl {p : Addr} {H : Hp} : Keep p H H := fun _ _ _ e => e
theorem Keep.trans {p : Addr} {H H1 H2 : Hp} (a : Keep p H H1) (b : Keep p H1 H2) : Keep p H H2 := fun c o n e => b c o n (a c o n e)
theorem Keep.of {p : Addr} {H H1 : Hp} (a : Same H H1) : Keep p H H1 := fun c o _ e => a c o e
/-- at p the state of the draws -/
def Pen (H : Hp) (p c : Addr) (n : Nat) : Prop := ∃ (cs : List Int) (a g : Int), H p = some (.lst [.ref c, .int a, .int g]) ∧ H c = some (.lst (cs.map V.int)) ∧ c ≠ p ∧ 0 ≤ a ∧ a ≤ (n : Int)
theorem Pen.keep {H H' : Hp} {p c : Addr} {n : Nat} (x : Pen H p c n) (s : Same H H') : Pen H' p c n := by
  obtain ⟨cs, a, g, h1, h2, h3, h4, h5⟩ := x
  exact ⟨cs, a, g, s _ _ h1, s _ _ h2, h3, h4, h5⟩
def spPen (K : PySem.W.Frag) : Sp := fun vs H Q _ => ∃ (a : Addr) (ns : List Int), vs = [.ref a] ∧ SqL K H a (ns.map V.int) ∧ ∀ (H' : Hp) (p c : Addr), Same H H' → Pen H' p c 0 → Q (.ref p) H'
def spDraw : Sp := fun vs H Q _ => ∃ (p c : Addr) (m : Int) (n : Nat), vs = [.ref p, .int m] ∧ Pen H p c n ∧ n ≤ 100000 ∧ 0 < m ∧ m < 1000 ∧ ∀ (H' : Hp) (d : Int), Keep p H H' → Pen H' p c (n + 1) → 0 ≤ d → d < m → Q (.int d) H'
def spPick : Sp := fun vs H Q _ => ∃ (p c l : Addr) (n : Nat) (xs : List V), vs = [.ref p, .ref l] ∧ Pen H p c n ∧ n ≤ 100000 ∧ H l = some (.lst xs) ∧ l ≠ p ∧ 0 < xs.length ∧ xs.length < 1000 ∧
  ∀ (H' : Hp) (x : V), Keep p H H' → Pen H' p c (n + 1) → x ∈ xs → Q x H'
structure TxtD (mg : Str → Option Value) (fD : Addr) : Prop where
  int : mg "int" = none
  len : mg "len" = none
  abs : mg "abs" = none
  list : mg "list" = none
section
variable {P : Program} {w : World} {K : PySem.W.Frag} {mg : Str → Option Value} {base : Heap} {fD : Addr}
theorem scPen : FnScope ["_law_script"] ["_law_script"] (defScope sPen) := ⟨rfl, rfl, rfl, by decide +kernel, rfl, by decide +kernel, by decide +kernel⟩
theorem map_cut (ns : List Int) (lo hi : Option Int) : ∃ ms : List Int, cutV (ns.map V.int) lo hi = ms.map V.int := by
  unfold cutV
  exact ⟨_, by rw [← List.map_drop, ← List.map_take]⟩
theorem ok_pen {f : Addr} {fd : FuncData} (F : Fun K "_law_pen" "_law_pen" sPen f fd) (T : TxtD mg fD) : FnOk P w K mg base CX0 1 f fd ["_law_script"] (spPen K) := by
  refine F.ok scPen (fun vs H Q E h => ?_) (fun cdv A outer s H vs Q E hr h => ?_)
  · obtain ⟨a, ns, rfl, _⟩ := h
    rfl
  · obtain ⟨a, ns, rfl, hS, k⟩ := h
    refine ⟨_, pss_one (ps_ret (pe_lst (pa_cons (pe_callTy call_list_of (by rfl) T.list (by decide +kernel) (pa_cons (pe_slice sl_list (pv 0) po_none (po_some pe_int)) pa_nil)) (pa_cons pe_int (pa_cons pe_int pa_nil))))), ?_⟩
    refine ⟨_, rfl, _, rfl, a, _, rfl, hS, fun q hq => ?_⟩
    obtain ⟨ms, e⟩ := map_cut ns none (some 63)
    refine ⟨q, _, rfl, .inl (SqL.of upd_same), fun l hl => ?_⟩
    refine ⟨by show 3 ≤ sizeLine; decide, fun p hp => ?_⟩
    have hqp : H p = none := by
      by_cases z : p = l
      · subst z; rw [upd_same] at hp; cases hp
      · rw [upd_ne z] at hp
        by_cases z2 : p = q
        · subst z2; rw [upd_same] at hp; cases hp
        · rwa [upd_ne z2] at hp
    have nl : l ≠ p := fun z => by subst z; rw [upd_same] at hp; cases hp
    have nlq : l ≠ q := fun z => by subst z; rw [upd_same] at hl; cases hl
    have hl0 : H l = none := by rwa [upd_ne nlq] at hl
    refine k _ p l (fun b o e => ?_) ⟨ms, 0, 0, upd_same, ?_, nl, by omega, by omega⟩
    · rw [upd_ne (ne_of_none e hqp), upd_ne (ne_of_none e hl0), upd_ne (ne_of_none e hq)]
      exact e
    · rw [upd_ne nl, upd_same, ← e]
end
end Kone
namespace Kone
open PySem PySem.W L2
section
variable {P : Program} {w : World} {K : PySem.W.Frag} {mg : Str → Option Value} {base : Heap} {fD : Addr}
theorem scDraw : FnScope ["_law_pen_here", "_law_many", "_law_digit", "_law_at", "_law_cell", "_law_great", "_law_mixed"] ["_law_pen_here", "_law_many"] (defScope sDraw) := ⟨rfl, rfl, rfl, by decide +kernel, rfl, by decide +kernel, by decide +kernel⟩
theorem fmod_range {a m : Int} (h : 0 < m) : 0 ≤ a.fmod m ∧ a.fmod m < m := ⟨Int.fmod_nonneg_of_pos a h, Int.fmod_lt_of_pos a h⟩
theorem Pen.set2 {H : Hp} {p c : Addr} {cs : List Int} {a g : Int} {n : Nat} (h2 : H c = some (.lst (cs.map V.int))) (h3 : c ≠ p) (h4 : 0 ≤ a) (h5 : a ≤ (n : Int)) : Pen (upd H p (.lst [.ref c, .int a, .int g])) p c n :=
  ⟨cs, a, g, upd_same, by rw [upd_ne h3]; exact h2, h3, h4, h5⟩
theorem Pen.mono {H : Hp} {p c : Addr} {n m : Nat} (x : Pen H p c n) (h : n ≤ m) : Pen H p c m := by
  obtain ⟨cs, a, g, h1, h2, h3, h4, h5⟩ := x
  exact ⟨cs, a, g, h1, h2, h3, h4, by omega⟩
theorem keep_upd {H : Hp} {p : Addr} {o : HO} : Keep p H (upd H p o) := fun b u n e => by rw [upd_ne n]; exact e
theorem same_new {H : Hp} {p : Addr} {o : HO} (h : H p = none) : Same H (upd H p o) := fun b u e => by rw [upd_ne (ne_of_none e h)]; exact e
theorem dp_ints {K : PySem.W.Frag} {H : Hp} (cs : List Int) : DpAll K H (cs.map V.int) (cs.map PyData.int) := by
  induction cs with
  | nil => exact .nil
  | cons c cs ih => exact .cons (.int c) ih
theorem at_nat {xs : List V} {i : Int} (h0 : 0 ≤ i) (h1 : i < (xs.length : Int)) : ∃ v, atI xs i = some v ∧ v ∈ xs := by
  have hl : i.toNat < xs.length := by omega
  refine ⟨xs[i.toNat], ?_, List.getElem_mem hl⟩
  unfold atI ixN
  rw [if_pos h0, if_pos h1]
  simp [hl]
theorem nzA : (2147483587 : Int) ≠ 0 := by decide
theorem nzB : (2147483563 : Int) ≠ 0 := by decide
theorem mix1 {x a : Int} (h0 : 0 ≤ a) (h1 : a < 200000) : (x.fmod 2147483587 + 35065 * a + 315).natAbs < 2 ^ 64 := by
  have r := fmod_range (a := x) (m := 2147483587) (by decide)
  omega
theorem mix2 {x a : Int} (h0 : 0 ≤ a) (h1 : a < 200000) : (x.fmod 2147483563 * (2 * a + 133) + 62077 * a * a + 19).natAbs < 2 ^ 64 := by
  have r := fmod_range (a := x) (m := 2147483563) (by decide)
  have e1 : x.fmod 2147483563 * (2 * a + 133) ≤ 2147483563 * 400133 := Int.mul_le_mul (by omega) (by omega) (by omega) (by omega)
  have e0 : 0 ≤ x.fmod 2147483563 * (2 * a + 133) := Int.mul_nonneg r.1 (by omega)
  have e2 : 62077 * a * a ≤ (62077 * 200000) * 200000 := Int.mul_le_mul (by omega) (by omega) (by omega) (by omega)
  have e3 : 0 ≤ 62077 * a * a := Int.mul_nonneg (by omega) h0
  omega
theorem ok_draw {f : Addr} {fd : FuncData} (F : Fun K "_law_draw" "_law_draw" sDraw f fd) (T : TxtD mg fD) : FnOk P w K mg base CX0 1 f fd ["_law_pen_here", "_law_many"] spDraw := by
  refine F.ok scDraw (fun vs H Q E h => ?_) (fun cdv A outer s H vs Q E hr h => ?_)
  · obtain ⟨p, c, m, n, rfl, _⟩ := h
    rfl
  · obtain ⟨p, c, m, n, rfl, ⟨cs, a, g, h1, h2, h3, h4, h5⟩, hn, m0, m1, k⟩ := h
    refine ⟨_, (pss_cons (ps_if (pt_cmpR op_gt (pe_ix ix_list (pv 0) pe_int (fun _ _ => rfl)) pe_int (nomark _)) (pss_cons (ps_set (i := 2) scDraw.nd rfl (Or.inl rfl) (pe_op op_modN (pe_callTy call_int1 (by rfl) T.int (by decide +kernel) (pa_cons (pe_ix ix_list (pv 0) pe_int (fun _ _ => rfl)) pa_nil)) (pv 1)))
        (pss_cons (ps_asg (pe_op op_fdivN (pe_callTy call_int1 (by rfl) T.int (by decide +kernel) (pa_cons (pe_ix ix_list (pv 0) pe_int (fun _ _ => rfl)) pa_nil)) (pv 1)) (pg_sub (pv 0) pe_int set_list))
        (pss_one (ps_ret (pv 2))))) pss_nil)
        (pss_cons (ps_set (i := 3) scDraw.nd rfl (Or.inl rfl) (pe_ix ix_list (pv 0) pe_int (fun _ _ => rfl)))
        (pss_cons (ps_asg (pe_op op_add (pv 3) pe_int) (pg_sub (pv 0) pe_int set_list))
        (pss_cons (ps_set (i := 4) scDraw.nd rfl (Or.inl rfl) (pe_op op_add (pe_op op_mul pe_int (pv 3)) pe_int))
        (pss_cons (ps_if (pt_cmpR (op_neD hr.units) (pe_ix ix_list (pv 0) pe_int (fun _ _ => rfl)) (pe_lst pa_nil) (nomark _)) (pss_one (ps_set (i := 4) scDraw.nd rfl (Or.inl rfl) (pe_ix ix_list (pe_ix ix_list (pv 0) pe_int (fun _ _ => rfl)) (pe_op op_modN (pe_callTy call_int1 (by rfl) T.int (by decide +kernel) (pa_cons (pv 3) pa_nil)) (pe_callB call_len_seq (by rfl) T.len PySem.boot_len (pa_cons (pe_ix ix_list (pv 0) pe_int (fun _ _ => rfl)) pa_nil))) (fun _ _ => rfl)))) pss_nil)
        (pss_cons (ps_if (PW.pt (pw_and (pt_cmpR op_lt (pv 3) (pe_callB call_len_seq (by rfl) T.len PySem.boot_len (pa_cons (pe_ix ix_list (pv 0) pe_int (fun _ _ => rfl)) pa_nil)) (nomark _)) (pw_and1 (pt_cmpR op_ge (pe_callB call_abs (by rfl) T.abs (by decide +kernel) (pa_cons (pv 4) pa_nil)) (pe_op op_pow pe_int pe_int) (nomark _))))) (pss_cons (ps_set (i := 5) scDraw.nd rfl (Or.inl rfl) (pe_op op_add (pe_op op_mul pe_int (pe_op op_sub (pe_callB call_abs (by rfl) T.abs (by decide +kernel) (pa_cons (pv 4) pa_nil)) (pe_op op_pow pe_int pe_int))) (pe_callTy call_int1 (by rfl) T.int (by decide +kernel) (pa_cons (pe_cmpR op_lt (pv 4) pe_int (nomark _)) pa_nil))))
        (pss_cons (ps_asg (pe_op op_fdivN (pe_callTy call_int1 (by rfl) T.int (by decide +kernel) (pa_cons (pv 5) pa_nil)) (pv 1)) (pg_sub (pv 0) pe_int set_list))
        (pss_one (ps_ret (pe_op op_modN (pe_callTy call_int1 (by rfl) T.int (by decide +kernel) (pa_cons (pv 5) pa_nil)) (pv 1)))))) pss_nil)
        (pss_cons (ps_set (i := 6) scDraw.nd rfl (Or.inl rfl) (pe_op op_modN (pe_callTy call_int1 (by rfl) T.int (by decide +kernel) (pa_cons (pe_op op_pow (pe_op op_add (pe_op op_add (pe_op op_modN (pe_callTy call_int1 (by rfl) T.int (by decide +kernel) (pa_cons (pv 4) pa_nil)) pe_int) (pe_op op_mul pe_int (pv 3))) pe_int) pe_int) pa_nil)) pe_int))
        (pss_cons (ps_set (i := 6) scDraw.nd rfl (Or.inl rfl) (pe_op op_modN (pe_callTy call_int1 (by rfl) T.int (by decide +kernel) (pa_cons (pe_op op_pow (pe_op op_add (pe_op op_add (pe_op op_mul (pv 6) (pe_op op_add (pe_op op_mul pe_int (pv 3)) pe_int)) (pe_op op_mul (pe_op op_mul pe_int (pv 3)) (pv 3))) pe_int) pe_int) pa_nil)) pe_int))
        (pss_one (ps_ret (pe_op op_modN (pe_callTy call_int1 (by rfl) T.int (by decide +kernel) (pa_cons (pe_op op_fdivN (pv 6) pe_int) pa_nil)) (pv 1)))))))))))), ?_⟩
    have r := fmod_range (a := g) m0
    refine ⟨_, rfl, p, _, 2, _, rfl, rfl, SqL.of h1, rfl, _, _, rfl, rfl, _, rfl, ?_⟩
    refine ite2 (fun _ => ?_) (fun _ => ?_)
    · refine ⟨_, rfl, p, _, 2, _, rfl, rfl, SqL.of h1, rfl, .inl ⟨_, rfl, _, rfl, _, _, rfl, rfl, by omega, ?_⟩⟩
      refine ⟨_, rfl, p, _, 2, _, rfl, rfl, SqL.of h1, rfl, .inl ⟨_, rfl, _, rfl, _, _, rfl, rfl, ⟨by omega, by omega⟩, ?_⟩⟩
      refine ⟨_, rfl, p, _, 2, 2, rfl, rfl, h1, rfl, ?_⟩
      exact ⟨_, rfl, k _ _ keep_upd ((Pen.set2 h2 h3 h4 h5).mono (Nat.le_succ _)) r.1 r.2⟩
    · -- at, the next index
      refine ⟨_, rfl, p, _, 1, _, rfl, rfl, SqL.of h1, rfl, ?_⟩
      refine ⟨_, rfl, _, _, rfl, rfl, _, rfl, p, _, 1, 1, rfl, rfl, h1, rfl, ?_⟩
      refine ⟨_, rfl, _, _, rfl, rfl, .inl ⟨by decide, by decide⟩, _, _, rfl, rfl, ?_⟩
      -- pen[0] != []
      generalize hH1 : upd H p (HO.lst ([V.ref c, V.int a, V.int g].set 1 ((fun i j => V.int (i + j)) a 1))) = H1
      have q1 : H1 p = some (.lst [.ref c, .int (a + 1), .int g]) := by subst hH1; exact upd_same
      have q2 : H1 c = some (.lst (cs.map V.int)) := by subst hH1; rw [upd_ne h3]; exact h2
      have kp1 : Keep p H H1 := by subst hH1; exact keep_upd
      refine ⟨_, rfl, p, _, 0, _, rfl, rfl, SqL.of q1, rfl, Nat.zero_le _, fun l hl => ?_⟩
      have s2 : Same H1 (upd H1 l (.lst [])) := same_new hl
      have q3 : upd H1 l (.lst []) l = some (.lst []) := upd_same
      generalize upd H1 l (.lst []) = H2 at s2 q3
      have q1' := s2 _ _ q1
      have q2' := s2 _ _ q2
      have kp2 : Keep p H H2 := kp1.trans (Keep.of s2)
      refine ⟨.list (cs.map PyData.int), .list [], .lst (SqL.of q2') (dp_ints cs), .lst (SqL.of q3) .nil, ?_, rfl, _, rfl, ?_⟩
      · exact ke_shaped_ints cs
      have hb2 : (a : Int) < 200000 := by omega
      have nn1 : n + 1 = n + 1 := rfl
      have pen2 : ∀ (H3 : Hp) (g' : Int), H3 = upd H2 p (.lst [.ref c, .int (a + 1), .int g']) → Pen H3 p c (n + 1) := fun H3 g' e =>
        ⟨cs, a + 1, g', by rw [e]; exact upd_same, by rw [e, upd_ne h3]; exact q2', h3, by omega, by omega⟩
      refine ite2 (fun hz => ?_) (fun _ => ?_)
      · have hc : 0 < cs.length := by
          cases cs with
          | nil => exact absurd hz (by decide)
          | cons x r => exact Nat.succ_pos _
        have rr := fmod_range (a := a) (m := (cs.length : Int)) (by omega)
        obtain ⟨v, hv, hm⟩ := at_nat (xs := cs.map V.int) (i := a.fmod (cs.length : Int)) rr.1 (by rw [List.length_map]; exact rr.2)
        obtain ⟨z, _, rfl⟩ := List.mem_map.mp hm
        refine ⟨_, rfl, p, _, 0, _, rfl, rfl, SqL.of q1', rfl, _, rfl, .inl ⟨_, rfl, ?_⟩⟩
        refine ⟨_, rfl, p, _, 0, _, rfl, rfl, SqL.of q1', rfl, c, _, rfl, .inl (SqL.of q2'), _, _, rfl, rfl, ?_, ?_⟩
        · show ((cs.map V.int).length : Int) ≠ 0
          rw [List.length_map]; omega
        refine ⟨c, _, _, _, rfl, rfl, SqL.of q2', (by rw [List.length_map]; exact hv), ?_⟩
        refine ⟨_, rfl, _, rfl, p, _, 0, _, rfl, rfl, SqL.of q1', rfl, c, _, rfl, .inl (SqL.of q2'), _, _, rfl, rfl, _, rfl, ?_⟩
        refine ite2 (fun _ => ?_) (fun _ => ?_)
        · refine ⟨_, rfl, _, rfl, _, _, rfl, rfl, ⟨by decide, by decide, by decide⟩, _, _, rfl, rfl, _, rfl, ?_⟩
          refine ite2 (fun _ => ?_) (fun _ => ?_)
          · refine ⟨_, rfl, _, rfl, _, _, rfl, rfl, ⟨by decide, by decide, by decide⟩, _, _, rfl, rfl, _, _, rfl, rfl, .inl ⟨by decide, by decide⟩, _, rfl, _, _, rfl, rfl, .inr ⟨_, rfl, _, _, rfl, rfl, ?_⟩⟩
            refine ⟨_, rfl, .inl ⟨_, rfl, _, rfl, _, _, rfl, rfl, ⟨by omega, by omega⟩, _, rfl, p, _, 2, 2, rfl, rfl, q1', rfl, ?_⟩⟩
            exact ⟨_, rfl, .inl ⟨_, rfl, _, rfl, _, _, rfl, rfl, by omega, k _ _ (kp2.trans keep_upd) (pen2 _ _ rfl) (fmod_range m0).1 (fmod_range m0).2⟩⟩
          · refine ⟨_, rfl, .inl ⟨_, rfl, _, _, rfl, rfl, nzA, _, rfl, _, _, rfl, rfl, .inl ⟨by decide, by decide⟩, _, _, rfl, rfl, _, _, rfl, rfl, _, _, rfl, rfl, ⟨by decide, by decide, mix1 h4 hb2⟩, .inl ⟨_, rfl, _, _, rfl, rfl, nzB, ?_⟩⟩⟩
            refine ⟨_, rfl, _, rfl, _, _, rfl, rfl, .inl ⟨by decide, by decide⟩, _, _, rfl, rfl, _, _, rfl, rfl, .inl ⟨Int.lt_of_lt_of_le (by decide) (fmod_range (by decide)).1, Int.lt_trans (fmod_range (by decide)).2 (by decide)⟩, _, rfl, _, _, rfl, rfl, .inl ⟨by decide, by decide⟩, _, rfl, _, _, rfl, rfl, .inl ⟨?_, ?_⟩, _, _, rfl, rfl, _, _, rfl, rfl, _, _, rfl, rfl, ⟨by decide, by decide, mix2 h4 hb2⟩, .inl ⟨_, rfl, _, _, rfl, rfl, nzA, ?_⟩⟩
            · show -(2 ^ 64) < 62077 * a; omega
            · show 62077 * a < 2 ^ 64; omega
            exact ⟨_, rfl, _, _, rfl, rfl, ⟨by decide, by decide⟩, .inl ⟨_, rfl, _, rfl, _, _, rfl, rfl, by omega, k _ _ kp2 ⟨cs, a + 1, g, q1', q2', h3, by omega, by omega⟩ (fmod_range m0).1 (fmod_range m0).2⟩⟩
        · refine ⟨_, rfl, .inl ⟨_, rfl, _, _, rfl, rfl, nzA, _, rfl, _, _, rfl, rfl, .inl ⟨by decide, by decide⟩, _, _, rfl, rfl, _, _, rfl, rfl, _, _, rfl, rfl, ⟨by decide, by decide, mix1 h4 hb2⟩, .inl ⟨_, rfl, _, _, rfl, rfl, nzB, ?_⟩⟩⟩
          refine ⟨_, rfl, _, rfl, _, _, rfl, rfl, .inl ⟨by decide, by decide⟩, _, _, rfl, rfl, _, _, rfl, rfl, .inl ⟨Int.lt_of_lt_of_le (by decide) (fmod_range (by decide)).1, Int.lt_trans (fmod_range (by decide)).2 (by decide)⟩, _, rfl, _, _, rfl, rfl, .inl ⟨by decide, by decide⟩, _, rfl, _, _, rfl, rfl, .inl ⟨?_, ?_⟩, _, _, rfl, rfl, _, _, rfl, rfl, _, _, rfl, rfl, ⟨by decide, by decide, mix2 h4 hb2⟩, .inl ⟨_, rfl, _, _, rfl, rfl, nzA, ?_⟩⟩
          · show -(2 ^ 64) < 62077 * a; omega
          · show 62077 * a < 2 ^ 64; omega
          exact ⟨_, rfl, _, _, rfl, rfl, ⟨by decide, by decide⟩, .inl ⟨_, rfl, _, rfl, _, _, rfl, rfl, by omega, k _ _ kp2 ⟨cs, a + 1, g, q1', q2', h3, by omega, by omega⟩ (fmod_range m0).1 (fmod_range m0).2⟩⟩
      · refine ⟨_, rfl, _, rfl, p, _, 0, _, rfl, rfl, SqL.of q1', rfl, c, _, rfl, .inl (SqL.of q2'), _, _, rfl, rfl, _, rfl, ?_⟩
        refine ite2 (fun _ => ?_) (fun _ => ?_)
        · refine ⟨_, rfl, _, rfl, _, _, rfl, rfl, ⟨by decide, by decide, by decide⟩, _, _, rfl, rfl, _, rfl, ?_⟩
          refine ite2 (fun _ => ?_) (fun _ => ?_)
          · refine ⟨_, rfl, _, rfl, _, _, rfl, rfl, ⟨by decide, by decide, by decide⟩, _, _, rfl, rfl, _, _, rfl, rfl, .inl ⟨by decide, by decide⟩, _, rfl, _, _, rfl, rfl, .inr ⟨_, rfl, _, _, rfl, rfl, ?_⟩⟩
            refine ⟨_, rfl, .inl ⟨_, rfl, _, rfl, _, _, rfl, rfl, ⟨by omega, by omega⟩, _, rfl, p, _, 2, 2, rfl, rfl, q1', rfl, ?_⟩⟩
            exact ⟨_, rfl, .inl ⟨_, rfl, _, rfl, _, _, rfl, rfl, by omega, k _ _ (kp2.trans keep_upd) (pen2 _ _ rfl) (fmod_range m0).1 (fmod_range m0).2⟩⟩
          · refine ⟨_, rfl, .inl ⟨_, rfl, _, _, rfl, rfl, nzA, _, rfl, _, _, rfl, rfl, .inl ⟨by decide, by decide⟩, _, _, rfl, rfl, _, _, rfl, rfl, _, _, rfl, rfl, ⟨by decide, by decide, mix1 h4 hb2⟩, .inl ⟨_, rfl, _, _, rfl, rfl, nzB, ?_⟩⟩⟩
            refine ⟨_, rfl, _, rfl, _, _, rfl, rfl, .inl ⟨by decide, by decide⟩, _, _, rfl, rfl, _, _, rfl, rfl, .inl ⟨Int.lt_of_lt_of_le (by decide) (fmod_range (by decide)).1, Int.lt_trans (fmod_range (by decide)).2 (by decide)⟩, _, rfl, _, _, rfl, rfl, .inl ⟨by decide, by decide⟩, _, rfl, _, _, rfl, rfl, .inl ⟨?_, ?_⟩, _, _, rfl, rfl, _, _, rfl, rfl, _, _, rfl, rfl, ⟨by decide, by decide, mix2 h4 hb2⟩, .inl ⟨_, rfl, _, _, rfl, rfl, nzA, ?_⟩⟩
            · show -(2 ^ 64) < 62077 * a; omega
            · show 62077 * a < 2 ^ 64; omega
            exact ⟨_, rfl, _, _, rfl, rfl, ⟨by decide, by decide⟩, .inl ⟨_, rfl, _, rfl, _, _, rfl, rfl, by omega, k _ _ kp2 ⟨cs, a + 1, g, q1', q2', h3, by omega, by omega⟩ (fmod_range m0).1 (fmod_range m0).2⟩⟩
        · refine ⟨_, rfl, .inl ⟨_, rfl, _, _, rfl, rfl, nzA, _, rfl, _, _, rfl, rfl, .inl ⟨by decide, by decide⟩, _, _, rfl, rfl, _, _, rfl, rfl, _, _, rfl, rfl, ⟨by decide, by decide, mix1 h4 hb2⟩, .inl ⟨_, rfl, _, _, rfl, rfl, nzB, ?_⟩⟩⟩
          refine ⟨_, rfl, _, rfl, _, _, rfl, rfl, .inl ⟨by decide, by decide⟩, _, _, rfl, rfl, _, _, rfl, rfl, .inl ⟨Int.lt_of_lt_of_le (by decide) (fmod_range (by decide)).1, Int.lt_trans (fmod_range (by decide)).2 (by decide)⟩, _, rfl, _, _, rfl, rfl, .inl ⟨by decide, by decide⟩, _, rfl, _, _, rfl, rfl, .inl ⟨?_, ?_⟩, _, _, rfl, rfl, _, _, rfl, rfl, _, _, rfl, rfl, ⟨by decide, by decide, mix2 h4 hb2⟩, .inl ⟨_, rfl, _, _, rfl, rfl, nzA, ?_⟩⟩
          · show -(2 ^ 64) < 62077 * a; omega
          · show 62077 * a < 2 ^ 64; omega
          exact ⟨_, rfl, _, _, rfl, rfl, ⟨by decide, by decide⟩, .inl ⟨_, rfl, _, rfl, _, _, rfl, rfl, by omega, k _ _ kp2 ⟨cs, a + 1, g, q1', q2', h3, by omega, by omega⟩ (fmod_range m0).1 (fmod_range m0).2⟩⟩
end
end Kone
namespace Kone
open PySem L2 Gd
/-! ### the classes -/
def nms : List Str := ["BadBase", "BadWidth", "BadName", "BadWord", "BadNumber", "BadWeight", "BadLetter", "BadPlace", "BadTable", "BadScheme", "BadPlane", "BadPaper", "BadStore", "BadDeed", "BadText", "BadCommand", "NoState", "NoEntry", "NoPlane", "Unlike", "Taken", "Nothing", "TooMany"]
abbrev nm (i : Nat) : Str := nms.getD i ""
abbrev sInit (i : Nat) : Stmt := inClass (top (i + 4)) 0
/-- the class x at C, right below SumError at S -/
structure XC (K : PySem.W.Frag) (mg : Str → Option Value) (S : Addr) (x : Str) (C : Addr) : Prop where
  g : mg x = some (.ref C)
  o : OexC K C
  e : ExcC K C
  m : ∃ cd, PySem.W.clsIn K C = some cd ∧ cd.mro = .ref C :: .ref S :: PySem.HandSPX.veTail
theorem kit_own {K : PySem.W.Frag} {mg : Str → Option Value} {S : Addr} {x y : Str} {C D : Addr} (T : XC K mg S x D) (U : XC K mg S y C) (h : C ≠ S) : PySem.W.kitOne K (.ref D) (.ref C) = some (decide (D = C)) := by
  by_cases e : D = C
  · subst e
    unfold PySem.W.kitOne
    rw [if_pos (by simp)]
    simp
  · have ne : (Value.ref D == Value.ref C) = false := beq_eq_false_iff_ne.mpr fun z => e (Value.ref.inj z)
    obtain ⟨cd, h1, h2⟩ := T.m
    obtain ⟨ce, h3, _⟩ := U.m
    unfold PySem.W.kitOne PySem.W.kitCls PySem.W.subIn PySem.W.mroIn
    rw [ne, if_neg Bool.false_ne_true]
    dsimp only
    rw [h1, h3, U.o.tyC]
    have h4 : cd.mro.contains (.ref C) = false := by
      rw [h2]
      simp only [List.contains_cons, PySem.HandSPX.veTail]
      have n1 : (Value.ref C == Value.ref D) = false := beq_eq_false_iff_ne.mpr fun z => e (Value.ref.inj z).symm
      have n2 : (Value.ref C == Value.ref S) = false := beq_eq_false_iff_ne.mpr fun z => h (Value.ref.inj z)
      rw [n1, n2]
      rfl
    have h5 : cd.mro.isEmpty = false := by rw [h2]; rfl
    simp only [Option.isSome_some, beq_self_eq_true, Bool.and_self, if_true, Option.bind_some, h5, Bool.false_eq_true, if_false, h4, decide_eq_false e]
theorem kit_type {K : PySem.W.Frag} {mg : Str → Option Value} {S : Addr} {x : Str} {D : Addr} (T : XC K mg S x D) (n : String) (hm : PySem.W.kitMeta n = true) : PySem.W.kitOne K (.ref D) (.type n) = some (PySem.HandSPX.veTail.contains (.type n)) := by
  obtain ⟨cd, h1, h2⟩ := T.m
  unfold PySem.W.kitOne PySem.W.kitCls PySem.W.subIn PySem.W.mroIn
  rw [if_neg (by intro z; exact nomatch (beq_iff_eq.mp z))]
  dsimp only
  rw [if_pos hm, h1]
  have h5 : cd.mro.isEmpty = false := by rw [h2]; rfl
  simp only [Option.bind_some, h5, Bool.false_eq_true, if_false]
  rw [h2]
  simp only [List.contains_cons]
  rfl
theorem kit_sum {K : PySem.W.Frag} {mg : Str → Option Value} {S : Addr} {x : Str} {D : Addr} (T : XC K mg S x D) {cs : ClassData} (h : PySem.W.clsIn K S = some cs) (t : PySem.W.typeIn K (.ref S) = some (.type "type")) : PySem.W.kitOne K (.ref D) (.ref S) = some true := by
  obtain ⟨cd, h1, h2⟩ := T.m
  by_cases e : D = S
  · subst e
    unfold PySem.W.kitOne
    rw [if_pos (by simp)]
  · have ne : (Value.ref D == Value.ref S) = false := beq_eq_false_iff_ne.mpr fun z => e (Value.ref.inj z)
    unfold PySem.W.kitOne PySem.W.kitCls PySem.W.subIn PySem.W.mroIn
    rw [ne, if_neg Bool.false_ne_true]
    dsimp only
    rw [h1, h, t]
    have h5 : cd.mro.isEmpty = false := by rw [h2]; rfl
    have h4 : cd.mro.contains (.ref S) = true := by rw [h2]; simp
    simp only [Option.isSome_some, beq_self_eq_true, Bool.and_self, if_true, Option.bind_some, h5, Bool.false_eq_true, if_false, h4]
/-- what the top has written -/
structure Txt (K : PySem.W.Frag) (mg : Str → Option Value) (S : Addr) (Cs : Nat → Addr) : Prop where
  c : ∀ i, i < 23 → XC K mg S (nm i) (Cs i)
  inj : ∀ i j, i < 23 → j < 23 → Cs i = Cs j → i = j
  ne : ∀ i, i < 23 → Cs i ≠ S
  s : mg "SumError" = some (.ref S)
  sc : ∃ cs, PySem.W.clsIn K S = some cs
  st : PySem.W.typeIn K (.ref S) = some (.type "type")
  isi : mg "isinstance" = none
  ve : mg "ValueError" = none
  le : mg "LookupError" = none
  te : mg "TypeError" = none
  rp : mg "repr" = none
  int : mg "int" = none
  len : mg "len" = none
  abs : mg "abs" = none
  list : mg "list" = none
  range : mg "range" = none
  tuple : mg "tuple" = none
  dict : mg "dict" = none
  any : mg "any" = none
theorem Txt.kit {K : PySem.W.Frag} {mg : Str → Option Value} {S : Addr} {Cs : Nat → Addr} (T : Txt K mg S Cs) {i j : Nat} (hi : i < 23) (hj : j < 23) : PySem.W.kitOne K (.ref (Cs j)) (.ref (Cs i)) = some (decide (i = j)) := by
  rw [kit_own (T.c j hj) (T.c i hi) (T.ne i hi)]
  congr 1
  by_cases e : i = j
  · subst e
    simp
  · rw [decide_eq_false e, decide_eq_false fun z => e (T.inj j i hj hi z).symm]
end Kone
namespace Kone
open PySem L2 Gd
/-- where the helpers stand -/
structure Def (K : PySem.W.Frag) (mg : Str → Option Value) (x : Str) (st : Stmt) (ps : List Str) (f : Addr) (fd : FuncData) : Prop where
  g : mg x = some (.ref f)
  k : PySem.W.keepIn K (.ref f) = true
  b : Binds K fd ps []
  F : Fun K x x st f fd
section
variable {P : Program} {w : World} {K : PySem.W.Frag} {mg : Str → Option Value} {base : Heap} {S : Addr} {Cs : Nat → Addr}
theorem Txt.d {fD : Addr} (T : Txt K mg S Cs) : TxtD mg fD := ⟨T.int, T.len, T.abs, T.list⟩
theorem scPick : FnScope ["_law_pen_here", "_law_some"] ["_law_pen_here", "_law_some"] (defScope sPick) := ⟨rfl, rfl, rfl, by decide +kernel, rfl, by decide +kernel, by decide +kernel⟩
theorem ok_pick {f fD : Addr} {fd fdD : FuncData} (F : Fun K "_law_pick" "_law_pick" sPick f fd) (T : Txt K mg S Cs) (U : Def K mg "_law_draw" sDraw ["_law_pen_here", "_law_many"] fD fdD) : FnOk P w K mg base CX0 2 f fd ["_law_pen_here", "_law_some"] spPick := by
  have GD : FnOk P w K mg base CX0 1 fD fdD ["_law_pen_here", "_law_many"] spDraw := ok_draw (fD := fD) U.F T.d
  refine F.ok scPick (fun vs H Q E h => ?_) (fun cdv A outer s H vs Q E hr h => ?_)
  · obtain ⟨p, c, l, n, xs, rfl, _⟩ := h
    rfl
  · obtain ⟨p, c, l, n, xs, rfl, hp, hn, hl, lp, x0, x1, k⟩ := h
    refine ⟨_, (pss_one (ps_ret (pe_ix ix_list (pv 1) (pe_call GD hr rfl U.g U.k U.b .nil pass0 (pa_cons (pv 0) (pa_cons (pe_callB call_len_seq (by rfl) T.len PySem.boot_len (pa_cons (pv 1) pa_nil)) pa_nil))) (fun _ _ => rfl)))), ?_⟩
    refine ⟨_, rfl, _, rfl, _, rfl, l, xs, rfl, .inl (SqL.of hl), p, c, _, n, rfl, hp, hn, by omega, by omega, fun H' d kp hp' d0 d1 => ?_⟩
    obtain ⟨v, hv, hm⟩ := at_nat (xs := xs) (i := d) d0 d1
    exact ⟨l, xs, d, v, rfl, rfl, SqL.of (kp l _ lp hl), hv, k H' v kp hp' hm⟩
/-! ### a drawn value of any kind -/
def hide (p : Addr) (H : Hp) : Hp := fun b => if b = p then none else H b
theorem hide_same {p : Addr} {H : Hp} : Same (hide p H) H := fun b o e => by
  unfold hide at e
  split at e
  · cases e
  · exact e
theorem hide_at {p : Addr} {H : Hp} {b : Addr} {o : HO} (n : b ≠ p) (e : H b = some o) : hide p H b = some o := by
  unfold hide
  rw [if_neg n]
  exact e
theorem hide_keep {p : Addr} {H H' : Hp} (k : Keep p H H') : Same (hide p H) (hide p H') := fun b o e => by
  unfold hide at e
  split at e
  · cases e
  · rename_i n
    exact hide_at n (k b o n e)
theorem hide_mono {p : Addr} {H H' : Hp} (s : Same H H') : Same (hide p H) (hide p H') := hide_keep (Keep.of s)
def menuD : List PyData := [.none, .bool true, .int 0, .int (-3), .int (10 ^ 59), .str "", .str "012", .str "two words", .tuple [], .tuple [.int 1, .str "x"], .list [], .list [.str "a", .none], .dict [], .dict [(.str "k", .tuple [.int 1])]]
/-- v is a value of the menu, by what stands in G -/
def MenuIn (G : Hp) (v : V) : Prop := ∃ d, d ∈ menuD ∧ Dq G 2 false v d
theorem MenuIn.same {G G' : Hp} {v : V} (m : MenuIn G v) (s : Same G G') : MenuIn G' v := by
  obtain ⟨d, h1, h2⟩ := m
  exact ⟨d, h1, Dq.same s h2⟩
/-- what stands in H' and not in H -/
def newIn (H H' : Hp) : Hp := fun b => match H b with
  | none => H' b
  | some _ => none
theorem newIn_at {H H' : Hp} {b : Addr} {o : HO} (n : H b = none) (e : H' b = some o) : newIn H H' b = some o := by
  unfold newIn
  rw [n]
  exact e
theorem newIn_of {H H' : Hp} {b : Addr} {o : HO} (e : newIn H H' b = some o) : H b = none ∧ H' b = some o := by
  unfold newIn at e
  cases q : H b with
  | none => rw [q] at e; exact ⟨rfl, e⟩
  | some u => rw [q] at e; cases e
theorem newIn_keep {p : Addr} {H H1 H2 : Hp} {o : HO} (hp : H p = some o) (k : Keep p H1 H2) : Same (newIn H H1) (newIn H H2) := fun b u e => by
  obtain ⟨n, e1⟩ := newIn_of e
  exact newIn_at n (k b u (ne_of_none hp n).symm e1)
def spAny : Sp := fun vs H Q _ => ∃ (p c : Addr) (n : Nat), vs = [.ref p] ∧ Pen H p c n ∧ n ≤ 100000 ∧ ∀ (H' : Hp) (x : V), Keep p H H' → Pen H' p c (n + 1) → MenuIn (newIn H H') x → Q x H'
theorem scAny : FnScope ["_law_pen_here", "_law_some"] ["_law_pen_here"] (defScope sAny) := ⟨rfl, rfl, rfl, by decide +kernel, rfl, by decide +kernel, by decide +kernel⟩
theorem ok_any {f fD fP : Addr} {fd fdD fdP : FuncData} (F : Fun K "_law_any" "_law_any" sAny f fd) (T : Txt K mg S Cs) (UD : Def K mg "_law_draw" sDraw ["_law_pen_here", "_law_many"] fD fdD) (U : Def K mg "_law_pick" sPick ["_law_pen_here", "_law_some"] fP fdP) : FnOk P w K mg base CX0 3 f fd ["_law_pen_here"] spAny := by
  have GP : FnOk P w K mg base CX0 2 fP fdP ["_law_pen_here", "_law_some"] spPick := ok_pick U.F T UD
  refine F.ok scAny (fun vs H Q E h => ?_) (fun cdv A outer s H vs Q E hr h => ?_)
  · obtain ⟨p, c, n, rfl, _⟩ := h
    rfl
  · obtain ⟨p, c, n, rfl, hp, hn, k⟩ := h
    refine ⟨_, (pss_cons (ps_set (i := 1) scAny.nd rfl (Or.inl rfl) (pe_lstN (pa_cons pe_non (pa_cons pe_bl (pa_cons pe_int (pa_cons (pe_un un_neg pe_int) (pa_cons (pe_op op_pow pe_int pe_int) (pa_cons pe_str (pa_cons pe_str (pa_cons pe_str (pa_cons (pe_tup pa_nil) (pa_cons (pe_tup (pa_cons pe_int (pa_cons pe_str pa_nil))) (pa_cons (pe_lstN pa_nil) (pa_cons (pe_lstN (pa_cons pe_str (pa_cons pe_non pa_nil))) (pa_cons pe_dnewK (pa_cons (pe_disp (pps_cons pe_str (pe_tup (pa_cons pe_int pa_nil)) pps_nil) (by rfl) (by rfl) (fun z => by cases z) (by decide)) pa_nil))))))))))))))))
        (pss_one (ps_ret (pe_call GP hr rfl U.g U.k U.b .nil pass0 (pa_cons (pv 0) (pa_cons (pv 1) pa_nil)))))), ?_⟩
    have c0 : ∀ n : Nat, n ≤ 100 → n ≤ sizeLine := fun n h => Nat.le_trans h (by decide)
    refine ⟨_, rfl, _, _, rfl, rfl, ⟨by decide, by decide, by decide⟩, c0 0 (by decide), fun t1 ht1 => ?_⟩
    have s1 := same_new (o := .tup []) ht1
    have e1 : upd H t1 (.tup []) t1 = some (.tup []) := upd_same
    generalize upd H t1 (.tup []) = H1 at s1 e1
    refine ⟨c0 2 (by decide), fun t2 ht2 => ?_⟩
    have s2 := same_new (o := .tup [.int 1, .str "x"]) ht2
    have e2 : upd H1 t2 (.tup [.int 1, .str "x"]) t2 = some (.tup [.int 1, .str "x"]) := upd_same
    generalize upd H1 t2 (.tup [.int 1, .str "x"]) = H2 at s2 e2
    refine ⟨c0 0 (by decide), fun l1 hl1 nl1 => ?_⟩
    have s3 := same_new (o := .lst []) hl1
    have e3 : upd H2 l1 (.lst []) l1 = some (.lst []) := upd_same
    generalize upd H2 l1 (.lst []) = H3 at s3 e3
    refine ⟨c0 2 (by decide), fun l2 hl2 nl2 => ?_⟩
    have s4 := same_new (o := .lst [.str "a", .non]) hl2
    have e4 : upd H3 l2 (.lst [.str "a", .non]) l2 = some (.lst [.str "a", .non]) := upd_same
    generalize upd H3 l2 (.lst [.str "a", .non]) = H4 at s4 e4
    intro d1 hd1
    have s5 := same_new (o := .dK []) hd1
    have e5 : upd H4 d1 (.dK []) d1 = some (.dK []) := upd_same
    generalize upd H4 d1 (.dK []) = H5 at s5 e5
    intro d2 hd2
    have s6 := same_new (o := .dK []) hd2
    have e6 : upd H5 d2 (.dK []) d2 = some (.dK []) := upd_same
    generalize upd H5 d2 (.dK []) = H6 at s6 e6
    refine ⟨c0 1 (by decide), fun t3 ht3 => ?_⟩
    have s7 := same_new (o := .tup [.int 1]) ht3
    have e7 : upd H6 t3 (.tup [.int 1]) t3 = some (.tup [.int 1]) := upd_same
    generalize upd H6 t3 (.tup [.int 1]) = H7 at s7 e7
    refine ⟨s7 _ _ e6, [(Sum.inr "k", .ref t3)], rfl, by show 1 ≤ 15; decide, c0 14 (by decide), fun l hl nl => ?_⟩
    have nd2 : ∀ {b o}, H5 b = some o → b ≠ d2 := fun e => ne_of_none e hd2
    have s8 : Same H5 (upd H7 d2 (.dK (mergeK [] [(Sum.inr "k", .ref t3)]))) := fun b o e => by
      rw [upd_ne (nd2 e)]
      exact s7 _ _ (s6 _ _ e)
    have e8 : upd H7 d2 (.dK (mergeK [] [(Sum.inr "k", .ref t3)])) d2 = some (.dK [(Sum.inr "k", .ref t3)]) := upd_same
    have e9 : upd H7 d2 (.dK (mergeK [] [(Sum.inr "k", .ref t3)])) t3 = some (.tup [.int 1]) := by
      rw [upd_ne (ne_of_none e6 ht3).symm]
      exact e7
    generalize upd H7 d2 (.dK (mergeK [] [(Sum.inr "k", .ref t3)])) = H8 at hl s8 e8 e9
    have sA : Same H H8 := s1.trans (s2.trans (s3.trans (s4.trans (s5.trans s8))))
    have s9 := same_new (o := .lst [.non, .bl true, .int 0, .int (-3), .int (10 ^ 59), .str "", .str "012", .str "two words", .ref t1, .ref t2, .ref l1, .ref l2, .ref d1, .ref d2]) hl
    have eL : upd H8 l (.lst [.non, .bl true, .int 0, .int (-3), .int (10 ^ 59), .str "", .str "012", .str "two words", .ref t1, .ref t2, .ref l1, .ref l2, .ref d1, .ref d2]) l = some (.lst [.non, .bl true, .int 0, .int (-3), .int (10 ^ 59), .str "", .str "012", .str "two words", .ref t1, .ref t2, .ref l1, .ref l2, .ref d1, .ref d2]) := upd_same
    have f1 := s9 _ _ (s8 _ _ (s5 _ _ (s4 _ _ (s3 _ _ (s2 _ _ e1)))))
    have f2 := s9 _ _ (s8 _ _ (s5 _ _ (s4 _ _ (s3 _ _ e2))))
    have f3 := s9 _ _ (s8 _ _ (s5 _ _ (s4 _ _ e3)))
    have f4 := s9 _ _ (s8 _ _ (s5 _ _ e4))
    have f5 := s9 _ _ (s8 _ _ e5)
    have f8 := s9 _ _ e8
    have f9 := s9 _ _ e9
    obtain ⟨cs, a, g, hP, _⟩ := id hp
    have z1 : H t1 = none := ht1
    have z2 : H t2 = none := s1.free ht2
    have z3 : H l1 = none := (s1.trans s2).free hl1
    have z4 : H l2 = none := (s1.trans (s2.trans s3)).free hl2
    have z5 : H d1 = none := (s1.trans (s2.trans (s3.trans s4))).free hd1
    have z6 : H d2 = none := (s1.trans (s2.trans (s3.trans (s4.trans s5)))).free hd2
    have z7 : H t3 = none := (s1.trans (s2.trans (s3.trans (s4.trans (s5.trans s6))))).free ht3
    have aL : l ≠ p := (ne_of_none (sA _ _ hP) hl).symm
    generalize hH9 : upd H8 l (.lst [.non, .bl true, .int 0, .int (-3), .int (10 ^ 59), .str "", .str "012", .str "two words", .ref t1, .ref t2, .ref l1, .ref l2, .ref d1, .ref d2]) = H9 at s9 eL f1 f2 f3 f4 f5 f8 f9
    have all : ∀ x ∈ ([.non, .bl true, .int 0, .int (-3), .int (10 ^ 59), .str "", .str "012", .str "two words", .ref t1, .ref t2, .ref l1, .ref l2, .ref d1, .ref d2] : List V), MenuIn (newIn H H9) x := by
      intro x hx
      simp only [List.mem_cons, List.not_mem_nil, or_false] at hx
      rcases hx with rfl | rfl | rfl | rfl | rfl | rfl | rfl | rfl | rfl | rfl | rfl | rfl | rfl | rfl
      · exact ⟨.none, by simp [menuD], .inl True.intro⟩
      · exact ⟨.bool true, by simp [menuD], .inl rfl⟩
      · exact ⟨.int 0, by simp [menuD], .inl rfl⟩
      · exact ⟨.int (-3), by simp [menuD], .inl rfl⟩
      · exact ⟨.int (10 ^ 59), by simp [menuD], .inl rfl⟩
      · exact ⟨.str "", by simp [menuD], .inl rfl⟩
      · exact ⟨.str "012", by simp [menuD], .inl rfl⟩
      · exact ⟨.str "two words", by simp [menuD], .inl rfl⟩
      · exact ⟨.tuple [], by simp [menuD], .inr (.inr (.inl ⟨t1, [], [], rfl, rfl, newIn_at z1 f1, .nil, by decide⟩))⟩
      · exact ⟨.tuple [.int 1, .str "x"], by simp [menuD], .inr (.inr (.inl ⟨t2, _, _, rfl, rfl, newIn_at z2 f2, .cons (.inl rfl) (.cons (.inl rfl) .nil), by show 2 ≤ 100; decide⟩))⟩
      · exact ⟨.list [], by simp [menuD], .inr (.inl ⟨rfl, l1, [], [], rfl, rfl, newIn_at z3 f3, .nil, by decide⟩)⟩
      · exact ⟨.list [.str "a", .none], by simp [menuD], .inr (.inl ⟨rfl, l2, _, _, rfl, rfl, newIn_at z4 f4, .cons (.inl rfl) (.cons (.inl True.intro) .nil), by show 2 ≤ 100; decide⟩)⟩
      · exact ⟨.dict [], by simp [menuD], .inr (.inr (.inr ⟨rfl, d1, [], [], rfl, rfl, newIn_at z5 f5, .nil, by decide, .nil⟩))⟩
      · exact ⟨.dict [(.str "k", .tuple [.int 1])], by simp [menuD], .inr (.inr (.inr ⟨rfl, d2, _, _, rfl, rfl, newIn_at z6 f8, .cons ⟨rfl, .inr (.inr (.inl ⟨t3, _, _, rfl, rfl, newIn_at z7 f9, .cons (show Sc (.int 1) (.int 1) from rfl) .nil, by show 1 ≤ 100; decide⟩))⟩ .nil, by show 1 ≤ 100; decide, .cons (fun _ z => nomatch z) .nil⟩))⟩
    have sH := sA.trans s9
    refine ⟨_, rfl, _, rfl, p, c, l, n, [.non, .bl true, .int 0, .int (-3), .int (10 ^ 59), .str "", .str "012", .str "two words", .ref t1, .ref t2, .ref l1, .ref l2, .ref d1, .ref d2], rfl, ?_, hn, ?_, aL, by show 0 < 14; decide, by show 14 < 1000; decide, fun H' x kp hp' hm => ?_⟩
    · exact hH9 ▸ hp.keep (hH9 ▸ sH)
    · exact hH9 ▸ eL
    · exact k H' x ((Keep.of sH).trans (hH9 ▸ kp)) hp' ((all x hm).same (newIn_keep hP (hH9 ▸ kp)))
end
end Kone
namespace Kone
open PySem L2 Gd
/-! ### a value with copies of its lists and dicts -/
abbrev sKept : Stmt := top 1
/-- of H', what stood in G or was not yet in H -/
def old (G H H' : Hp) : Hp := fun a => if (G a).isSome = true ∨ H a = none then H' a else none
theorem old_at {G H H' : Hp} {a : Addr} {o : HO} (c : (∃ u, G a = some u) ∨ H a = none) (e : H' a = some o) : old G H H' a = some o := by
  unfold old
  rw [if_pos (by
    rcases c with ⟨u, c⟩ | c
    · exact .inl (by rw [c]; rfl)
    · exact .inr c)]
  exact e
theorem old_of {G H H' : Hp} {a : Addr} {o : HO} (e : old G H H' a = some o) : ((∃ u, G a = some u) ∨ H a = none) ∧ H' a = some o := by
  unfold old at e
  split at e
  · rename_i c
    refine ⟨?_, e⟩
    rcases c with c | c
    · exact .inl (Option.isSome_iff_exists.mp c)
    · exact .inr c
  · cases e
theorem old_mono {G H H' H'' : Hp} (s : Same H' H'') : Same (old G H H') (old G H H'') := fun a o e => by
  obtain ⟨c, e⟩ := old_of e
  exact old_at c (s _ _ e)
theorem old_self {G H : Hp} (s : Same G H) : Same G (old G H H) := fun a o e => old_at (.inl ⟨o, e⟩) (s _ _ e)
/-- what depth n of data asks, and what comes back -/
def spK : Nat → Sp
  | 0 => fun _ _ _ _ => False
  | n + 1 => fun vs H Q _ => ∃ (b : Bool) (v : V) (d : PyData) (G : Hp), vs = [v] ∧ Same G H ∧ Dq G n b v d ∧ ∀ (H' : Hp) (v' : V), Same H H' → Dq (old G H H') n b v' d → Q v' H'
structure TxtK (mg : Str → Option Value) : Prop where
  isi : mg "isinstance" = none
  tuple : mg "tuple" = none
  list : mg "list" = none
  dict : mg "dict" = none
  any : mg "any" = none
theorem scKept : FnScope ["value", "part", "key"] ["value"] (defScope sKept) := ⟨rfl, rfl, rfl, by decide +kernel, rfl, by decide +kernel, by decide +kernel⟩
theorem sc_ty {K : PySem.W.Frag} {H : Hp} : ∀ {v : V} {d : PyData}, Sc v d → ∃ t : String, TyX K H v (.type t) ∧ kitB t "tuple" = some false ∧ kitB t "list" = some false ∧ kitB t "dict" = some false
  | .non, .none, _ => ⟨_, .base .non, by decide +kernel, by decide +kernel, by decide +kernel⟩
  | .bl b, .bool _, _ => ⟨_, .base (.bl b), by decide +kernel, by decide +kernel, by decide +kernel⟩
  | .int i, .int _, _ => ⟨_, .base (.int i), by decide +kernel, by decide +kernel, by decide +kernel⟩
  | .str x, .str _, _ => ⟨_, .base (.str x), by decide +kernel, by decide +kernel, by decide +kernel⟩
theorem kit3 {K : PySem.W.Frag} {t : String} {b1 b2 b3 : Bool} (h1 : kitB t "tuple" = some b1) (h2 : kitB t "list" = some b2) (h3 : kitB t "dict" = some b3) : ∃ r, PySem.W.kitAny K (.type t) [.type "tuple", .type "list", .type "dict"] = some r := by
  cases b1 with
  | true => exact ⟨true, kitAny_cons (kit_ty h1) (fun z => nomatch z) (fun _ => rfl)⟩
  | false =>
    cases b2 with
    | true => exact ⟨true, kitAny_cons (kit_ty h1) (fun _ => kitAny_cons (kit_ty h2) (fun z => nomatch z) (fun _ => rfl)) (fun z => nomatch z)⟩
    | false => exact ⟨b3, kitAny_cons (kit_ty h1) (fun _ => kitAny_cons (kit_ty h2) (fun _ => kitAny_cons (kit_ty h3) (fun z => by rw [z]; exact kitAny_nil) (fun z => z)) (fun z => nomatch z)) (fun z => nomatch z)⟩
theorem dq_any {K : PySem.W.Frag} {G H : Hp} (s : Same G H) : ∀ {n : Nat} {b : Bool} {v : V} {d : PyData}, Dq G n b v d → ∃ t r, TyX K H v t ∧ PySem.W.kitAny K t [.type "tuple", .type "list", .type "dict"] = some r := by
  intro n b v d h
  have sc : ∀ {v : V} {d : PyData}, Sc v d → ∃ t r, TyX K H v t ∧ PySem.W.kitAny K t [.type "tuple", .type "list", .type "dict"] = some r := fun h => by
    obtain ⟨t, h0, h1, h2, h3⟩ := sc_ty (K := K) (H := H) h
    obtain ⟨r, e⟩ := kit3 (K := K) h1 h2 h3
    exact ⟨_, r, h0, e⟩
  match n, h with
  | 0, h => exact sc h
  | n + 1, h =>
    rcases h with h | ⟨_, a, xs, ds, rfl, _, ha, _⟩ | ⟨a, xs, ds, rfl, _, ha, _⟩ | ⟨_, a, kvs, kds, rfl, _, ha, _⟩
    · exact sc h
    · obtain ⟨r, e⟩ := kit3 (K := K) (t := "list") (b1 := false) (b2 := true) (b3 := false) (by decide +kernel) (by decide +kernel) (by decide +kernel)
      exact ⟨_, r, .base (.lst (s _ _ ha)), e⟩
    · obtain ⟨r, e⟩ := kit3 (K := K) (t := "tuple") (b1 := true) (b2 := false) (b3 := false) (by decide +kernel) (by decide +kernel) (by decide +kernel)
      exact ⟨_, r, .base (.tup (s _ _ ha)), e⟩
    · obtain ⟨r, e⟩ := kit3 (K := K) (t := "dict") (b1 := false) (b2 := false) (b3 := true) (by decide +kernel) (by decide +kernel) (by decide +kernel)
      exact ⟨_, r, .base (.dK (s _ _ ha)), e⟩
/-- a dict by a comprehension over the items of a locked dict -/
theorem dc_its {dd : Addr} {ob : Obj} {es : List (Key × V)} {g : TG} {tt : TT} {tk tv : TE} {ws : List Nat} {σ : L2.St} {H1 : Hp} {D : Addr} {Z : Hp → Prop} (Pv : Nat → Hp → Prop) (h0 : Pv 0 (upd H1 D (.dK [])))
    (hl : ∀ i G, Pv i G → G dd = some (.frz ob (.dK es)))
    (hs : ∀ i k v T G, es[i]? = some (k, v) → Pv i G → G T = none → g (.ref T) (wipe σ ws) (upd G T (.tup [kV k, v]))
      fun σ2 G2 => wipe σ2 ws = wipe σ ws ∧ tt σ2 G2
        fun b G3 => if b = true then tk σ2 G3 (fun y G4 => tv σ2 G4 (fun z G5 => ∃ ks kk, y = kV kk ∧ G5 D = some (.dK ks) ∧ ks.length < sizeLine ∧ Pv (i + 1) (upd G5 D (.dK (putK ks kk z))))) else Pv (i + 1) G3)
    (hd : ∀ G, Pv es.length G → Z G) :
    ∃ W : Nat → Nat → Hp → Prop, (∃ m, W 0 m (upd H1 D (.dK []))) ∧ ∀ i m G, W i m G →
      ((Iti dd ob es).stop i G ∧ Z G) ∨ ((Iti dd ob es).go i G ∧ ∃ Nx : Hp → Prop, (∀ G', Nx G' → ∃ m', m' < m ∧ W (i + 1) m' G') ∧ ∀ x G', (Iti dd ob es).yld i G x G' → g x (wipe σ ws) G'
        fun σ2 G2 => wipe σ2 ws = wipe σ ws ∧ tt σ2 G2
          fun b G3 => if b = true then tk σ2 G3 (fun y G4 => tv σ2 G4 (fun z G5 => ∃ ks kk, y = kV kk ∧ G5 D = some (.dK ks) ∧ ks.length < sizeLine ∧ Nx (upd G5 D (.dK (putK ks kk z))))) else Nx G3) := by
  refine ⟨fun i m G => m + i = es.length ∧ Pv i G, ⟨es.length, rfl, h0⟩, fun i m G hw => ?_⟩
  obtain ⟨hm, p⟩ := hw
  have q := hl i G p
  cases m with
  | zero =>
    have e : i = es.length := by omega
    subst e
    exact .inl ⟨⟨q, Nat.le_refl _⟩, hd G p⟩
  | succ m =>
    refine .inr ⟨⟨q, by omega⟩, Pv (i + 1), fun G' p' => ⟨m, by omega, by omega, p'⟩, fun x G' y => ?_⟩
    obtain ⟨T, k, v, hk, ex, hT, eG⟩ := y
    subst ex eG
    exact hs i k v T G hk p hT
theorem pr_take {α β : Type} {R : α → β → Prop} {ys : List α} {ds : List β} {i : Nat} {y : α} {d : β} (p : Paired R ys (ds.take i)) (hd : ds[i]? = some d) (r : R y d) : Paired R (ys ++ [y]) (ds.take (i + 1)) := by
  have e : ds.take (i + 1) = ds.take i ++ [d] := by
    rw [List.take_succ, hd]
    rfl
  rw [e]
  have app : ∀ {xs us : List α} {ys vs : List β}, Paired R xs ys → Paired R us vs → Paired R (xs ++ us) (ys ++ vs) := by
    intro xs us ys vs h1 h2
    induction h1 with
    | nil => exact h2
    | cons a _ ih => exact .cons a ih
  exact app p (.cons r .nil)
theorem pr_get {α β : Type} {R : α → β → Prop} : ∀ {xs : List α} {ys : List β} {i : Nat} {x : α}, Paired R xs ys → xs[i]? = some x → ∃ y, ys[i]? = some y ∧ R x y
  | _, _, _, _, .nil, e => by simp at e
  | _, _, 0, _, .cons r _, e => by simp at e; subst e; exact ⟨_, rfl, r⟩
  | _, _, i + 1, x, .cons _ t, e => by
    obtain ⟨y, h1, h2⟩ := pr_get (i := i) (x := x) t (by simpa using e)
    exact ⟨y, by simpa using h1, h2⟩
theorem pr_len {α β : Type} {R : α → β → Prop} : ∀ {xs : List α} {ys : List β}, Paired R xs ys → xs.length = ys.length
  | _, _, .nil => rfl
  | _, _, .cons _ t => congrArg Nat.succ (pr_len t)
theorem line100 {n : Nat} (h : n ≤ 101) : n ≤ sizeLine := Nat.le_trans h (by decide)
theorem line100' {n : Nat} (h : n ≤ 101) : n < sizeLine := Nat.lt_of_le_of_lt h (by decide)
/-- what stands in the list at D while parts are copied -/
def Cop (G H : Hp) (m : Nat) (b : Bool) (D : Addr) (ds : List PyData) (i : Nat) (H' : Hp) : Prop :=
  Same H H' ∧ ∃ ys : List V, H' D = some (.lst ys) ∧ Paired (Dq (hide D (old G H H')) m b) ys (ds.take i)
theorem Cop.nil {G H : Hp} {m : Nat} {b : Bool} {D : Addr} {ds : List PyData} (h : H D = none) : Cop G H m b D ds 0 (upd H D (.lst [])) := ⟨same_new h, [], upd_same, .nil⟩
theorem Cop.put {G H H' H2 : Hp} {m : Nat} {b : Bool} {D : Addr} {ds : List PyData} {i : Nat} {v' : V} {d : PyData} (hD : H D = none) (sG : Same G H) (c : Cop G H m b D ds i H') (hd : ds[i]? = some d) (s2 : Same H' H2) (q : Dq (old G H' H2) m b v' d) :
    ∃ ys : List V, H2 D = some (.lst ys) ∧ ys.length ≤ ds.length ∧ Cop G H m b D ds (i + 1) (upd H2 D (.lst (ys ++ [v']))) := by
  obtain ⟨s1, ys, h1, h2⟩ := c
  have hGD : G D = none := sG.free hD
  refine ⟨ys, s2 _ _ h1, ?_, fun a o e => ?_, ys ++ [v'], upd_same, ?_⟩
  · rw [pr_len h2]
    exact List.length_take_le' _ _
  · rw [upd_ne (ne_of_none e hD)]
    exact s2 _ _ (s1 _ _ e)
  · refine pr_take (L2.Paired.mapP h2 fun _ _ z => Dq.same (fun a o e => ?_) z) hd (Dq.same (fun a o e => ?_) q)
    · have n : a ≠ D := fun z => by rw [z] at e; unfold hide at e; rw [if_pos rfl] at e; cases e
      obtain ⟨c, e1⟩ := old_of (hide_same _ _ e)
      exact hide_at n (old_at c (by rw [upd_ne n]; exact s2 _ _ e1))
    · obtain ⟨c, e1⟩ := old_of e
      have n : a ≠ D := fun z => by
        subst z
        rcases c with ⟨u, c⟩ | c
        · rw [hGD] at c; cases c
        · rw [h1] at c; cases c
      refine hide_at n (old_at ?_ (by rw [upd_ne n]; exact e1))
      rcases c with c | c
      · exact .inl c
      · exact .inr (s1.free c)
end Kone
namespace Kone
open PySem L2 Gd
section
variable {P : Program} {w : World} {K : PySem.W.Frag} {mg : Str → Option Value} {base : Heap}
theorem okY {σ : L2.St} {H : Hp} {X Y : Hp → Prop} (h : X H) : tYes σ H (fun b H3 => if b = true then X H3 else Y H3) := by
  show (if true = true then X H else Y H)
  rw [if_pos rfl]
  exact h
theorem take_succ1 {α : Type} {xs : List α} {i : Nat} {x : α} (h : xs[i]? = some x) : xs.take (i + 1) = xs.take i ++ [x] := by
  rw [List.take_succ, h]
  rfl
theorem dq_alt {G : Hp} {n : Nat} {b : Bool} {v : V} {d : PyData} (h : Dq G n b v d) : Sc v d ∨
    (∃ (m : Nat) (a : Addr) (xs : List V) (ds : List PyData), n = m + 1 ∧ b = false ∧ v = .ref a ∧ d = .list ds ∧ G a = some (.lst xs) ∧ Paired (Dq G m b) xs ds ∧ xs.length ≤ 100) ∨
    (∃ (m : Nat) (a : Addr) (xs : List V) (ds : List PyData), n = m + 1 ∧ v = .ref a ∧ d = .tuple ds ∧ G a = some (.tup xs) ∧ Paired (Dq G m b) xs ds ∧ xs.length ≤ 100) ∨
    (∃ (m : Nat) (a : Addr) (kvs : List (Key × V)) (kds : List (PyData × PyData)), n = m + 1 ∧ b = false ∧ v = .ref a ∧ d = .dict kds ∧ G a = some (.dK kvs) ∧ Paired (fun (p : Key × V) (q : PyData × PyData) => Sc (kV p.1) q.1 ∧ Dq G m true p.2 q.2) kvs kds ∧ kvs.length ≤ 100 ∧ (kvs.map (·.1)).Nodup) := by
  match n, h with
  | 0, h => exact .inl h
  | m + 1, h =>
    rcases h with h | ⟨e, a, xs, ds, r⟩ | ⟨a, xs, ds, r⟩ | ⟨e, a, kvs, kds, r⟩
    · exact .inl h
    · exact .inr (.inl ⟨m, a, xs, ds, rfl, e, r⟩)
    · exact .inr (.inr (.inl ⟨m, a, xs, ds, rfl, r⟩))
    · exact .inr (.inr (.inr ⟨m, a, kvs, kds, rfl, e, r⟩))
theorem ok_kept {f : Addr} {fd : FuncData} (T : TxtK mg) (U : Def K mg "kept" sKept ["value"] f fd) : ∀ n, FnOk P w K mg base CX0 n f fd ["value"] (spK n)
  | 0 => ⟨fun _ _ _ _ h => h.elim, fun _ _ _ _ _ _ _ _ _ _ _ _ _ h => h.elim⟩
  | n + 1 => by
    have GK : FnOk P w K mg base CX0 n f fd ["value"] (spK n) := ok_kept T U n
    refine U.F.ok scKept (fun vs H Q E h => ?_) (fun cdv A outer s H vs Q E hr h => ?_)
    · obtain ⟨b, v, d, G, rfl, _⟩ := h
      rfl
    · obtain ⟨b, v, d, G, rfl, sG, hq, k⟩ := h
      refine ⟨_, pss_cons (ps_if (pt_val (pe_callB call_isi (by rfl) T.isi (by decide +kernel) (pa_cons (pv 0) (pa_cons (pe_bltn (v := .ty "tuple") rfl T.tuple rfl rfl) pa_nil))))
          (pss_cons (ps_if (pt_not (pt_val (pe_callB (cr_any rfl) (by rfl) T.any (by decide +kernel) (pa_cons
              (pe_lc (own := [("part", 1)]) (g := gName 1) (tt := tYes) (te := tCB (rIsiT K) (tCons (tVar 1) (tCons (tTup (tCons (tC (.ty "tuple")) (tCons (tC (.ty "list")) (tCons (tC (.ty "dict")) tNil)))) tNil))) rfl scKept.nd (pi_tup (pv 0)) (blkOk_by (N := ["value", "part", "key"]) (sc := defScope sKept) (by decide +kernel))
                (fun _ _ _ _ _ => pg_name (i := 1) scKept.nd rfl (Or.inl rfl)) (fun _ _ _ _ _ => pts_nil)
                (fun _ _ _ _ _ => pe_callB call_isiT (by rfl) T.isi (by decide +kernel) (pa_cons (pv 1) (pa_cons (pe_tup (pa_cons (pe_bltn (v := .ty "tuple") rfl T.tuple rfl rfl) (pa_cons (pe_bltn (v := .ty "list") rfl T.list rfl rfl) (pa_cons (pe_bltn (v := .ty "dict") rfl T.dict rfl rfl) pa_nil)))) pa_nil)))) pa_nil))))
              (pss_one (ps_ret (pv 0))) pss_nil)
            (pss_one (ps_ret (pe_callTy call_tuple_of (by rfl) T.tuple (by decide +kernel) (pa_cons
              (pe_lc (own := [("part", 1)]) (g := gName 1) (tt := tYes) (te := tCall (spK n) [] E0 (tCons (tVar 1) tNil)) rfl scKept.nd (pi_tup (pv 0)) (blkOk_by (N := ["value", "part", "key"]) (sc := defScope sKept) (by decide +kernel))
                (fun _ _ _ _ _ => pg_name (i := 1) scKept.nd rfl (Or.inl rfl)) (fun _ _ _ _ _ => pts_nil)
                (fun _ _ _ _ _ => pe_call GK hr rfl U.g U.k U.b .nil pass0 (pa_cons (pv 1) pa_nil))) pa_nil)))))
          pss_nil)
        (pss_cons (ps_if (pt_val (pe_callB call_isi (by rfl) T.isi (by decide +kernel) (pa_cons (pv 0) (pa_cons (pe_bltn (v := .ty "list") rfl T.list rfl rfl) pa_nil))))
          (pss_one (ps_ret (pe_lc (own := [("part", 1)]) (g := gName 1) (tt := tYes) (te := tCall (spK n) [] E0 (tCons (tVar 1) tNil)) rfl scKept.nd (pi_list (pv 0)) (blkOk_by (N := ["value", "part", "key"]) (sc := defScope sKept) (by decide +kernel))
                (fun _ _ _ _ _ => pg_name (i := 1) scKept.nd rfl (Or.inl rfl)) (fun _ _ _ _ _ => pts_nil)
                (fun _ _ _ _ _ => pe_call GK hr rfl U.g U.k U.b .nil pass0 (pa_cons (pv 1) pa_nil)))))
          pss_nil)
        (pss_cons (ps_if (pt_val (pe_callB call_isi (by rfl) T.isi (by decide +kernel) (pa_cons (pv 0) (pa_cons (pe_bltn (v := .ty "dict") rfl T.dict rfl rfl) pa_nil))))
          (pss_one (ps_ret (pe_lock (pe_dc (own := [("key", 2), ("part", 1)]) (g := gTup K 2 (gCons (gName 2) (gCons (gName 1) gNil))) (tt := tYes) (tk := tVar 2) (tv := tCall (spK n) [] E0 (tCons (tVar 1) tNil)) rfl scKept.nd (pi_items (pv 0)) (blkOk_by (N := ["value", "part", "key"]) (sc := defScope sKept) (by decide +kernel))
                (fun _ _ _ _ _ => pg_tup rfl (pgs_cons (pg_name (i := 2) scKept.nd rfl (Or.inl rfl)) (pgs_cons (pg_name (i := 1) scKept.nd rfl (Or.inl rfl)) pgs_nil))) (fun _ _ _ _ _ => pts_nil)
                (fun _ _ _ _ _ => pv 2) (fun _ _ _ _ _ => pe_call GK hr rfl U.g U.k U.b .nil pass0 (pa_cons (pv 1) pa_nil)) (fun _ => rfl)))))
          pss_nil)
        (pss_one (ps_ret (pv 0))))), ?_⟩
      rcases dq_alt hq with hs | ⟨m, a, xs, ds, rfl, rfl, rfl, rfl, ha, hp, hl⟩ | ⟨m, a, xs, ds, rfl, rfl, rfl, ha, hp, hl⟩ | ⟨m, a, kvs, kds, rfl, rfl, rfl, rfl, ha, hp, hl, nd⟩
      · obtain ⟨t, ty, h1, h2, h3⟩ := sc_ty (K := K) (H := H) hs
        have fin : Q v H := k H v (Same.refl H) (Dq.sc hs)
        refine ⟨_, rfl, v, .ty "tuple", .type t, .type "tuple", false, rfl, .ty "tuple", ty, kit_ty h1, _, rfl, iteF ?_⟩
        refine ⟨_, rfl, v, .ty "list", .type t, .type "list", false, rfl, .ty "list", ty, kit_ty h2, _, rfl, iteF ?_⟩
        refine ⟨_, rfl, v, .ty "dict", .type t, .type "dict", false, rfl, .ty "dict", ty, kit_ty h3, _, rfl, iteF ?_⟩
        exact ⟨_, rfl, fin⟩
      · have hH := sG _ _ ha
        have lds : ds.length ≤ 100 := by rw [← pr_len hp]; exact hl
        refine ⟨_, rfl, .ref a, .ty "tuple", .type "list", .type "tuple", false, rfl, .ty "tuple", .base (.lst hH), kit_ty (by decide +kernel), _, rfl, iteF ?_⟩
        refine ⟨_, rfl, .ref a, .ty "list", .type "list", .type "list", true, rfl, .ty "list", .base (.lst hH), kit_ty (by decide +kernel), _, rfl, iteT ?_⟩
        refine ⟨_, rfl, a, rfl, ⟨_, SqL.of hH⟩, fun D hD => lc_list (K := K) (a := a) (xs := xs) (Cop G H m false D ds) (Cop.nil hD) (fun i H' _ c => SqL.of (c.1 _ _ hH)) ?_ ?_⟩
        · intro i x H' hx c
          obtain ⟨dx, hdx, qx⟩ := pr_get hp hx
          refine ⟨rfl, okY ⟨_, rfl, false, x, dx, G, rfl, fun a o e => c.1 _ _ (sG _ _ e), qx, fun H2 v' s2 q2 => ?_⟩⟩
          obtain ⟨ys, e1, e2, c2⟩ := c.put hD sG hdx s2 q2
          exact ⟨ys, e1, line100' (by omega), c2⟩
        · rintro H' ⟨s1, ys, h1, h2⟩
          rw [List.take_of_length_le (by rw [pr_len hp]; exact Nat.le_refl _)] at h2
          refine k H' (.ref D) s1 (.inr (.inl ⟨rfl, D, ys, ds, rfl, rfl, old_at (.inr hD) h1, L2.Paired.mapP h2 fun _ _ z => Dq.same hide_same z, by rw [pr_len h2]; exact lds⟩))
      · have hH := sG _ _ ha
        have lds : ds.length ≤ 100 := by rw [← pr_len hp]; exact hl
        refine ⟨_, rfl, .ref a, .ty "tuple", .type "tuple", .type "tuple", true, rfl, .ty "tuple", .base (.tup hH), kit_ty (by decide +kernel), _, rfl, iteT ?_⟩
        refine ⟨_, rfl, a, rfl, ⟨_, SqT.of hH⟩, fun D hD => lc_tup (K := K) (a := a) (xs := xs) (fun i H' => Same H H' ∧ ∃ bs : List Bool, bs.length = i ∧ H' D = some (.lst (bs.map V.bl))) ⟨same_new hD, [], rfl, upd_same⟩ (fun i H' _ c => SqT.of (c.1 _ _ hH)) ?_ ?_⟩
        · rintro i x H' hx ⟨s1, bs, hb, hD'⟩
          obtain ⟨dx, hdx, qx⟩ := pr_get hp hx
          have ix : i < xs.length := (List.getElem?_eq_some_iff.mp hx).1
          refine ⟨rfl, okY ⟨_, rfl, ⟨by show 3 ≤ sizeLine; decide, fun tp htp => ?_⟩⟩⟩
          have s2 := same_new (o := .tup [.ty "tuple", .ty "list", .ty "dict"]) htp
          obtain ⟨t, r, ty, er⟩ := dq_any (K := K) (G := G) (H := upd H' tp (.tup [.ty "tuple", .ty "list", .ty "dict"])) (fun a o e => s2 _ _ (s1 _ _ (sG _ _ e))) qx
          refine ⟨x, tp, [.ty "tuple", .ty "list", .ty "dict"], t, [.type "tuple", .type "list", .type "dict"], r, rfl, upd_same, .cons (.ty _) (.cons (.ty _) (.cons (.ty _) .nil)), ty, er, ?_⟩
          refine ⟨bs.map V.bl, s2 _ _ hD', line100' (by rw [List.length_map]; omega), fun b o e => ?_, bs ++ [r], by simp [hb], ?_⟩
          · rw [upd_ne (ne_of_none e hD)]
            exact s2 _ _ (s1 _ _ e)
          · rw [upd_same, List.map_append]
            rfl
        · rintro H1 ⟨s1, bs, _, hD'⟩
          refine ⟨D, bs, rfl, SqL.of hD', _, rfl, ?_⟩
          by_cases hany : bs.any id = true
          · rw [hany]
            refine iteF ?_
            have hH1 := s1 _ _ hH
            have sG1 : Same G H1 := fun a o e => s1 _ _ (sG _ _ e)
            refine ⟨_, rfl, a, rfl, ⟨_, SqT.of hH1⟩, fun D2 hD2 => lc_tup (K := K) (a := a) (xs := xs) (Cop G H1 m b D2 ds) (Cop.nil hD2) (fun i H' _ c => SqT.of (c.1 _ _ hH1)) ?_ ?_⟩
            · intro i x H' hx c
              obtain ⟨dx, hdx, qx⟩ := pr_get hp hx
              refine ⟨rfl, okY ⟨_, rfl, b, x, dx, G, rfl, fun a o e => c.1 _ _ (sG1 _ _ e), qx, fun H2 v' s2 q2 => ?_⟩⟩
              obtain ⟨ys, e1, e2, c2⟩ := c.put hD2 sG1 hdx s2 q2
              exact ⟨ys, e1, line100' (by omega), c2⟩
            · rintro H' ⟨s2, ys, h1, h2⟩
              rw [List.take_of_length_le (by rw [pr_len hp]; exact Nat.le_refl _)] at h2
              refine ⟨D2, ys, rfl, .inl ⟨SqL.of h1, fun l hl2 => ?_⟩⟩
              have s3 := same_new (o := .tup ys) hl2
              have s02 : Same H H' := fun a o e => s2 _ _ (s1 _ _ e)
              refine k _ (.ref l) (fun a o e => s3 _ _ (s02 _ _ e)) (.inr (.inr (.inl ⟨l, ys, ds, rfl, rfl, old_at (.inr (s02.free hl2)) upd_same, L2.Paired.mapP h2 fun _ _ z => Dq.same (fun a o e => ?_) z, by rw [pr_len h2]; exact lds⟩)))
              obtain ⟨c, e1⟩ := old_of (hide_same _ _ e)
              refine old_at ?_ (s3 _ _ e1)
              rcases c with c | c
              · exact .inl c
              · exact .inr (s1.free c)
          · have hf : bs.any id = false := by
              cases q : bs.any id
              · rfl
              · exact absurd q hany
            rw [hf]
            exact iteT ⟨_, rfl, k H1 (.ref a) s1 (Dq.same (fun a o e => old_at (.inl ⟨o, e⟩) (s1 _ _ (sG _ _ e))) hq)⟩
      · have hH := sG _ _ ha
        refine ⟨_, rfl, .ref a, .ty "tuple", .type "dict", .type "tuple", false, rfl, .ty "tuple", .base (.dK hH), kit_ty (by decide +kernel), _, rfl, iteF ?_⟩
        refine ⟨_, rfl, .ref a, .ty "list", .type "dict", .type "list", false, rfl, .ty "list", .base (.dK hH), kit_ty (by decide +kernel), _, rfl, iteF ?_⟩
        refine ⟨_, rfl, .ref a, .ty "dict", .type "dict", .type "dict", true, rfl, .ty "dict", .base (.dK hH), kit_ty (by decide +kernel), _, rfl, iteT ?_⟩
        refine ⟨a, .dK kvs, hH, True.intro, fun od => ?_⟩
        generalize hHl : upd H a (.frz od (.dK kvs)) = Hl
        have la : Hl a = some (.frz od (.dK kvs)) := by rw [← hHl]; exact upd_same
        have ln : ∀ {b : Addr}, b ≠ a → Hl b = H b := fun n => by rw [← hHl]; exact upd_ne n
        refine ⟨_, rfl, a, od, kvs, rfl, la, fun D hD => dc_its (fun i H' => Same Hl H' ∧ ∃ ks : List (Key × V), H' D = some (.dK ks) ∧ ks.map (·.1) = (kvs.take i).map (·.1) ∧
          Paired (fun (p : Key × V) (q : PyData × PyData) => Sc (kV p.1) q.1 ∧ Dq (old (hide a G) Hl H') m true p.2 q.2) ks (kds.take i)) ⟨same_new hD, [], upd_same, rfl, .nil⟩ (fun i H' c => c.1 _ _ la) ?_ ?_⟩
        · rintro i kk v T H' hk ⟨s1, ks, hD', hkeys, hp'⟩ hT
          obtain ⟨q, hq1, hsc, hqd⟩ := pr_get hp hk
          refine ⟨T, _, rfl, SqT.of upd_same, rfl, _, _, rfl, _, _, rfl, rfl, rfl, okY ⟨_, rfl, _, rfl, ?_⟩⟩
          have sT := same_new (o := .tup [kV kk, v]) hT
          generalize upd H' T (.tup [kV kk, v]) = H1 at sT
          have s0 : Same (hide a G) H1 := fun b o e => by
            have nb : b ≠ a := fun z => by subst z; unfold hide at e; rw [if_pos rfl] at e; cases e
            exact sT _ _ (s1 _ _ (by rw [ln nb]; exact sG _ _ (hide_same _ _ e)))
          have hqt : Dq (hide a G) m true v q.2 := Dq.tups (fun b xs e => hide_at (fun z => by rw [z, ha] at e; cases e) e) hqd
          refine ⟨true, v, q.2, hide a G, rfl, s0, hqt, fun H2 v' s2 q2 => ?_⟩
          have hD2 : H2 D = some (.dK ks) := s2 _ _ (sT _ _ hD')
          have fresh : valV ks kk = none := by
            unfold valV
            rw [List.find?_eq_none.mpr]
            · rfl
            · intro x hx z
              have z : x.1 = kk := by simpa using z
              have m1 : kk ∈ ks.map (·.1) := List.mem_map.mpr ⟨x, hx, z⟩
              rw [hkeys] at m1
              have e := take_succ1 hk
              have nd2 : ((kvs.take (i + 1)).map (·.1)).Nodup := (nd.sublist ((List.take_sublist _ _).map _))
              rw [e, List.map_append, List.nodup_append] at nd2
              exact nd2.2.2 _ m1 _ (by simp) rfl
          have il : i < kvs.length := (List.getElem?_eq_some_iff.mp hk).1
          have lk : ks.length = i := by
            have := congrArg List.length hkeys
            rw [List.length_map, List.length_map, List.length_take] at this
            omega
          refine ⟨ks, kk, rfl, hD2, line100' (by omega), fun b o e => ?_, ks ++ [(kk, v')], by rw [upd_same, putK_new _ fresh], ?_, ?_⟩
          · rw [upd_ne (ne_of_none e hD)]
            exact s2 _ _ (sT _ _ (s1 _ _ e))
          · rw [take_succ1 hk, List.map_append, List.map_append, hkeys]
            rfl
          · refine pr_take (L2.Paired.mapP hp' fun _ _ z => ⟨z.1, Dq.tups (fun b xs e => ?_) z.2⟩) hq1 ⟨hsc, Dq.tups (fun b xs e => ?_) q2⟩
            · obtain ⟨c, e1⟩ := old_of e
              have nb : b ≠ D := ne_of e1 hD' (fun z => by cases z)
              exact old_at c (by rw [upd_ne nb]; exact s2 _ _ (sT _ _ e1))
            · obtain ⟨c, e1⟩ := old_of e
              have nb : b ≠ D := ne_of e1 hD2 (fun z => by cases z)
              refine old_at ?_ (by rw [upd_ne nb]; exact e1)
              rcases c with c | c
              · exact .inl c
              · exact .inr (Same.free (H := Hl) (H' := H1) (fun b o e => sT _ _ (s1 _ _ e)) c)
        · rintro H' ⟨s1, ks, hD', hkeys, hp'⟩
          have fa : H' a = some (.frz od (.dK kvs)) := s1 _ _ la
          have nDa : D ≠ a := fun z => by rw [z, la] at hD; cases hD
          have hDn : H D = none := by rw [← ln nDa]; exact hD
          rw [List.take_of_length_le (Nat.le_refl _)] at hkeys
          rw [List.take_of_length_le (by rw [pr_len hp]; exact Nat.le_refl _)] at hp'
          have lk : ks.length = kvs.length := by
            have := congrArg List.length hkeys
            rwa [List.length_map, List.length_map] at this
          refine ⟨fa, k _ (.ref D) (fun b o e => ?_) (.inr (.inr (.inr ⟨rfl, D, ks, kds, rfl, rfl, old_at (.inr hDn) (by rw [upd_ne nDa]; exact hD'), L2.Paired.mapP hp' fun _ _ z => ⟨z.1, Dq.tups (fun b xs e => ?_) z.2⟩, by omega, by rw [hkeys]; exact nd⟩)))⟩
          · by_cases z : b = a
            · subst z
              rw [hH] at e
              cases e
              exact upd_same
            · rw [upd_ne z]
              exact s1 _ _ (by rw [ln z]; exact e)
          · obtain ⟨c, e1⟩ := old_of e
            have nb : b ≠ a := ne_of e1 fa (fun z => by cases z)
            refine old_at ?_ (by rw [upd_ne nb]; exact e1)
            rcases c with ⟨u, c⟩ | c
            · exact .inl ⟨u, hide_same _ _ c⟩
            · exact .inr (by rw [← ln nb]; exact c)
end
end Kone
namespace Kone
open PySem L2 Gd
/-! ### what stands, but lists that hold things -/
def bare : V → Bool
  | .ref _ => false
  | _ => true
def fl (H : Hp) : Hp := fun b => match H b with
  | some (.lst xs) => if xs.all bare = true then some (.lst xs) else none
  | o => o
theorem fl_same {H : Hp} : Same (fl H) H := fun b o e => by
  unfold fl at e
  cases q : H b with
  | none => rw [q] at e; cases e
  | some u =>
    rw [q] at e
    cases u
    case lst xs =>
      dsimp only at e
      split at e
      · exact e
      · cases e
    all_goals exact e
theorem fl_lst {H : Hp} {b : Addr} {xs : List V} (e : H b = some (.lst xs)) (h : xs.all bare = true) : fl H b = some (.lst xs) := by
  unfold fl
  rw [e]
  dsimp only
  rw [if_pos h]
theorem fl_not {H : Hp} {b : Addr} {xs : List V} (e : H b = some (.lst xs)) (h : xs.all bare = false) : fl H b = none := by
  unfold fl
  rw [e]
  dsimp only
  rw [if_neg (by rw [h]; exact Bool.false_ne_true)]
theorem fl_at {H : Hp} {b : Addr} {o : HO} (e : H b = some o) (n : ∀ xs, o ≠ .lst xs) : fl H b = some o := by
  unfold fl
  rw [e]
  cases o
  case lst xs => exact absurd rfl (n xs)
  all_goals rfl
theorem fl_mono {H H' : Hp} (s : Same H H') : Same (fl H) (fl H') := fun b o e => by
  have e1 := s _ _ (fl_same _ _ e)
  cases o
  case lst xs =>
    refine fl_lst e1 ?_
    have e0 := fl_same _ _ e
    cases q : xs.all bare
    · rw [fl_not e0 q] at e; cases e
    · rfl
  all_goals exact fl_at e1 (fun _ z => by cases z)
theorem nice_menu : ∀ d ∈ menuD, nice d = true := by decide +kernel
theorem flat_sc {H : Hp} {n : Nat} {b : Bool} {v : V} {d : PyData} (q : Dq H n b v d) (h : flat d = true) : Sc v d := by
  rcases dq_alt q with z | ⟨m, a, xs, ds, rfl, rfl, rfl, rfl, ha, hp, hl⟩ | ⟨m, a, xs, ds, rfl, rfl, rfl, ha, hp, hl⟩ | ⟨m, a, kvs, kds, rfl, rfl, rfl, rfl, ha, hp, hl, nd⟩
  · exact z
  · cases h
  · cases h
  · cases h
theorem sc_bare : ∀ {v : V} {d : PyData}, Sc v d → bare v = true
  | .non, .none, _ => rfl
  | .bl b, .bool _, _ => rfl
  | .int i, .int _, _ => rfl
  | .str x, .str _, _ => rfl
theorem pr_flat {H G : Hp} {m : Nat} {b : Bool} : ∀ {xs : List V} {ds : List PyData}, Paired (Dq H m b) xs ds → ds.all flat = true → xs.all bare = true ∧ Paired (Dq G m b) xs ds
  | _, _, .nil, _ => ⟨rfl, .nil⟩
  | _, _, .cons r t, h => by
    rw [List.all_cons, Bool.and_eq_true] at h
    have s := flat_sc r h.1
    obtain ⟨h1, h2⟩ := pr_flat (G := G) t h.2
    exact ⟨by rw [List.all_cons, sc_bare s, h1]; rfl, .cons (Dq.sc s) h2⟩
theorem nice_fl {H : Hp} {n : Nat} {v : V} {d : PyData} (h : nice d = true) (q : Dq H n false v d) : Dq (fl H) n false v d := by
  rcases dq_alt q with z | ⟨m, a, xs, ds, rfl, _, rfl, rfl, ha, hp, hl⟩ | ⟨m, a, xs, ds, rfl, rfl, rfl, ha, hp, hl⟩ | ⟨m, a, kvs, kds, rfl, _, rfl, rfl, ha, hp, hl, nd⟩
  · exact Dq.sc z
  · obtain ⟨h1, h2⟩ := pr_flat (G := fl H) hp h
    exact .inr (.inl ⟨rfl, a, xs, ds, rfl, rfl, fl_lst ha h1, h2, hl⟩)
  · obtain ⟨h1, h2⟩ := pr_flat (G := fl H) hp h
    exact .inr (.inr (.inl ⟨a, xs, ds, rfl, rfl, fl_at ha (fun _ z => by cases z), h2, hl⟩))
  · exact .inr (.inr (.inr ⟨rfl, a, kvs, kds, rfl, rfl, fl_at ha (fun _ z => by cases z), L2.Paired.mapP hp fun _ _ z => ⟨z.1, Dq.tups (fun b xs e => fl_at e (fun _ z => by cases z)) z.2⟩, hl, nd⟩))
/-- two values of the menu that read alike -/
def Tw (W : Hp) (v v' : V) : Prop := ∃ d, d ∈ menuD ∧ Dq W 2 false v d ∧ Dq W 2 false v' d
theorem Tw.same {W W' : Hp} {v v' : V} (t : Tw W v v') (s : Same W W') : Tw W' v v' := by
  obtain ⟨d, h1, h2, h3⟩ := t
  exact ⟨d, h1, Dq.same s h2, Dq.same s h3⟩
theorem Tw.fl {W : Hp} {v v' : V} (t : Tw W v v') : Tw (fl W) v v' := by
  obtain ⟨d, h1, h2, h3⟩ := t
  exact ⟨d, h1, nice_fl (nice_menu d h1) h2, nice_fl (nice_menu d h1) h3⟩
theorem MenuIn.fl {W : Hp} {v : V} (t : MenuIn W v) : MenuIn (fl W) v := by
  obtain ⟨d, h1, h2⟩ := t
  exact ⟨d, h1, nice_fl (nice_menu d h1) h2⟩
/-! ### the __init__s -/
def spI1 (K : PySem.W.Frag) (f : Str) : Sp := fun vs H Q _ => ∃ (a C : Addr) (v : V) (d : PyData) (G : Hp), vs = [.ref a, v] ∧ OexC K C ∧ PySem.W.findIn K (.ref C) f = some none ∧ H a = some (exo a C none) ∧ Same G H ∧ G a = none ∧ Dq G 2 false v d ∧
  ∀ (Hf : Hp) (v' : V) (dd : Addr), Same (hide a H) Hf → Hf a = some (exo a C (some dd)) → Hf dd = some (exd dd [(f, v')]) → Dq Hf 2 false v' d → Q .non Hf
def spI2 (K : PySem.W.Frag) (f1 f2 : Str) : Sp := fun vs H Q _ => ∃ (a C : Addr) (v1 v2 : V) (d1 d2 : PyData) (G : Hp), vs = [.ref a, v1, v2] ∧ OexC K C ∧ PySem.W.findIn K (.ref C) f1 = some none ∧ PySem.W.findIn K (.ref C) f2 = some none ∧ H a = some (exo a C none) ∧
  Same G H ∧ G a = none ∧ Dq G 2 false v1 d1 ∧ Dq G 2 false v2 d2 ∧
  ∀ (Hf : Hp) (v1' v2' : V) (dd : Addr), Same (hide a H) Hf → Hf a = some (exo a C (some dd)) → Hf dd = some (exd dd [(f2, v2'), (f1, v1')]) → Dq Hf 2 false v1' d1 → Dq Hf 2 false v2' d2 → Q .non Hf
/-- of what is old in this way, nothing stands at a -/
theorem old_ne {G H H' : Hp} {a b : Addr} {o u : HO} (ha : H a = some u) (hg : G a = none) (e : old G H H' b = some o) : b ≠ a := fun z => by
  subst z
  obtain ⟨c, _⟩ := old_of e
  rcases c with ⟨u, c⟩ | c
  · rw [hg] at c; cases c
  · rw [ha] at c; cases c
section
variable {P : Program} {w : World} {K : PySem.W.Frag} {mg : Str → Option Value} {base : Heap}
theorem ok_init1 {st : Stmt} {f qual : Str} {fI fK : Addr} {fd fdK : FuncData} {p1 p2 p3 p4 p5 p6 : Pos} (F : Fun K "__init__" qual st fI fd) (T : TxtK mg) (U : Def K mg "kept" sKept ["value"] fK fdK) (S : FnScope ["self", f] ["self", f] (defScope st))
    (hB : defBody st = [.Assign [.Attribute (.Name "self" p1) f p2] (.Call (.Name "kept" p5) [.Name f p3] [] p6) p4])
    (h0 : Vis (defScope st) "self") (h1 : Vis (defScope st) f) (hgk : (defScope st).names.lookup ("kept" : Str) = some .globalImplicit) (hd : (f == ("__debug__" : Str)) = false) (hc : (f == ("__classdict__" : Str)) = false) : FnOk P w K mg base CX0 4 fI fd ["self", f] (spI1 K f) := by
  have GK : FnOk P w K mg base CX0 3 fK fdK ["value"] (spK 3) := ok_kept T U 3
  refine F.ok S (fun vs H Q E h => ?_) (fun cdv A outer s H vs Q E hr h => ?_)
  · obtain ⟨a, C, v, d, G, rfl, _⟩ := h
    rfl
  · obtain ⟨a, C, v, d, G, rfl, O, no, ha, sG, ga, hq, k⟩ := h
    rw [hB]
    refine ⟨_, pss_one (ps_ost (pv 0 rfl h0) (pe_call GK hr hgk U.g U.k U.b .nil pass0 (pa_cons (pv 1 rfl h1 hd hc) pa_nil))), ?_⟩
    refine ⟨_, rfl, false, v, d, G, rfl, sG, hq, fun H' v' s q => ⟨_, rfl, a, C, rfl, O, no, .inl ⟨s _ _ ha, fun dd hn ne => ?_⟩⟩⟩
    refine k _ v' dd (fun b o e => ?_) upd_same (by rw [upd_ne ne, upd_same]) (Dq.same (fun b o e => ?_) q)
    · have nb : b ≠ a := fun z => by subst z; unfold hide at e; rw [if_pos rfl] at e; cases e
      have e1 := s _ _ (hide_same _ _ e)
      rw [upd_ne nb, upd_ne (ne_of_none e1 hn)]
      exact e1
    · have nb := old_ne ha ga e
      obtain ⟨_, e1⟩ := old_of e
      rw [upd_ne nb, upd_ne (ne_of_none e1 hn)]
      exact e1
theorem ok_init2 {st : Stmt} {f1 f2 qual : Str} {fI fK : Addr} {fd fdK : FuncData} {p1 p2 p3 p4 p5 p6 q1 q2 q3 q4 q5 q6 : Pos} (F : Fun K "__init__" qual st fI fd) (T : TxtK mg) (U : Def K mg "kept" sKept ["value"] fK fdK) (S : FnScope ["self", f1, f2] ["self", f1, f2] (defScope st))
    (hB : defBody st = [.Assign [.Attribute (.Name "self" p1) f1 p2] (.Call (.Name "kept" p5) [.Name f1 p3] [] p6) p4, .Assign [.Attribute (.Name "self" q1) f2 q2] (.Call (.Name "kept" q5) [.Name f2 q3] [] q6) q4])
    (h0 : Vis (defScope st) "self") (h1 : Vis (defScope st) f1) (h2 : Vis (defScope st) f2) (hgk : (defScope st).names.lookup ("kept" : Str) = some .globalImplicit) (hd : (f1 == ("__debug__" : Str)) = false) (hc : (f1 == ("__classdict__" : Str)) = false) (hd2 : (f2 == ("__debug__" : Str)) = false) (hc2 : (f2 == ("__classdict__" : Str)) = false) :
    FnOk P w K mg base CX0 4 fI fd ["self", f1, f2] (spI2 K f1 f2) := by
  have GK : FnOk P w K mg base CX0 3 fK fdK ["value"] (spK 3) := ok_kept T U 3
  refine F.ok S (fun vs H Q E h => ?_) (fun cdv A outer s H vs Q E hr h => ?_)
  · obtain ⟨a, C, v1, v2, d1, d2, G, rfl, _⟩ := h
    rfl
  · obtain ⟨a, C, v1, v2, d1, d2, G, rfl, O, no1, no2, ha, sG, ga, hq1, hq2, k⟩ := h
    rw [hB]
    refine ⟨_, pss_cons (ps_ost (pv 0 rfl h0) (pe_call GK hr hgk U.g U.k U.b .nil pass0 (pa_cons (pv 1 rfl h1 hd hc) pa_nil))) (pss_one (ps_ost (pv 0 rfl h0) (pe_call GK hr hgk U.g U.k U.b .nil pass0 (pa_cons (pv 2 rfl h2 hd2 hc2) pa_nil)))), ?_⟩
    refine ⟨_, rfl, false, v1, d1, G, rfl, sG, hq1, fun H1 v1' s1 r1 => ⟨_, rfl, a, C, rfl, O, no1, .inl ⟨s1 _ _ ha, fun dd hn ne => ?_⟩⟩⟩
    have keep1 : ∀ b o, b ≠ a → H1 b = some o → upd (upd H1 dd (exd dd [(f1, v1')])) a (exo a C (some dd)) b = some o := fun b o nb e => by
      rw [upd_ne nb, upd_ne (ne_of_none e hn)]
      exact e
    have ea : upd (upd H1 dd (exd dd [(f1, v1')])) a (exo a C (some dd)) a = some (exo a C (some dd)) := upd_same
    have ed : upd (upd H1 dd (exd dd [(f1, v1')])) a (exo a C (some dd)) dd = some (exd dd [(f1, v1')]) := by rw [upd_ne ne, upd_same]
    generalize upd (upd H1 dd (exd dd [(f1, v1')])) a (exo a C (some dd)) = H2 at keep1 ea ed
    have sG2 : Same G H2 := fun b o e => keep1 b o (fun z => by subst z; rw [ga] at e; cases e) (s1 _ _ (sG _ _ e))
    refine ⟨_, rfl, false, v2, d2, G, rfl, sG2, hq2, fun H3 v2' s3 r3 => ?_⟩
    refine ⟨_, rfl, a, C, rfl, O, no2, .inr ⟨dd, _, s3 _ _ ea, s3 _ _ ed, by show 1 ≤ 900; decide, ?_⟩⟩
    have gd : H dd = none := s1.free hn
    have gG : G dd = none := sG.free gd
    refine k _ v1' v2' dd (fun b o e => ?_) (by rw [upd_ne ne.symm]; exact s3 _ _ ea) upd_same (Dq.same (fun b o e => ?_) r1) (Dq.same (fun b o e => ?_) r3)
    · have nb : b ≠ a := fun z => by subst z; unfold hide at e; rw [if_pos rfl] at e; cases e
      have e1 := s1 _ _ (hide_same _ _ e)
      rw [upd_ne (ne_of_none e1 hn)]
      exact s3 _ _ (keep1 _ _ nb e1)
    · have nb := old_ne ha ga e
      obtain ⟨_, e1⟩ := old_of e
      rw [upd_ne (ne_of_none e1 hn)]
      exact s3 _ _ (keep1 _ _ nb e1)
    · have nb := old_ne ed gG e
      obtain ⟨_, e1⟩ := old_of e
      rw [upd_ne nb]
      exact e1
end
end Kone
namespace Kone
open PySem L2 Gd
theorem pa_weak {X : Cx} {es : List Expr} {t t' : TA} (h : PA X es t) (f : ∀ σ H Q, t' σ H Q → t σ H Q) : PA X es t' := ⟨fun pos pins s σ H Q I q => h.run pos pins s σ H Q I (f σ H Q q)⟩
def gPos {α : Type} (us ws : List α) : List α := us
def gKey {α : Type} (us ws : List α) : List α := match us, ws with
  | [u], [w] => [u, w]
  | _, _ => []
/-- the class at C has an __init__ of one field f -/
structure I1 (P : Program) (w : World) (K : PySem.W.Frag) (mg : Str → Option Value) (base : Heap) (C : Addr) (f : Str) : Prop where
  ex : ∃ (fI : Addr) (fd : FuncData), PySem.W.findIn K (.ref C) "__init__" = some (some (.ref fI)) ∧ PySem.W.typeIn K (.ref fI) = some (.type "function") ∧ FnOk P w K mg base CX0 4 fI fd ["self", f] (spI1 K f) ∧
    KBinds K fd ["self", f] [] gPos gPos ∧ KBinds K fd ["self", f] [f] gKey gKey
  no : PySem.W.findIn K (.ref C) f = some none
section
variable {X : Cx} {S : Addr} {Cs : Nat → Addr}
theorem made1 {K : PySem.W.Frag} {C : Addr} {f : Str} (O : OexC K C) (no : PySem.W.findIn K (.ref C) f = some none) {v : V} {d : PyData} {G H1 : Hp} {Q : VK} (sG : Same G H1) (hq : Dq G 2 false v d)
    (k : ∀ (a : Addr) (H' : Hp) (v' : V), Same H1 H' → H1 a = none → ExAt H' a C [(f, v')] → Dq H' 2 false v' d → Q (.ref a) H') :
    ∀ a, H1 a = none → spI1 K f [.ref a, v] (upd H1 a (exo a C none)) (fun u H3 => u = .non ∧ Q (.ref a) H3) (fun _ _ _ => False) := by
  intro a ha
  refine ⟨a, C, v, d, G, rfl, O, no, upd_same, fun b o e => ?_, sG.free ha, hq, fun Hf v' dd s e1 e2 q => ⟨rfl, k a Hf v' (fun b o e => ?_) ha ⟨dd, e1, e2⟩ q⟩⟩
  · rw [upd_ne (ne_of_none (sG _ _ e) ha)]
    exact sG _ _ e
  · exact s _ _ (hide_at (ne_of_none e ha) (by rw [upd_ne (ne_of_none e ha)]; exact e))
/-- C(told[m]), C(f=told[m]) -/
def tExT (C : Addr) (f : Str) (m : Nat) : TE := fun σ H Q => ∃ (T : Addr) (vals : List V) (v : V), σ[1]? = some (some (.ref T)) ∧ H T = some (.lst vals) ∧ vals[m]? = some v ∧ MenuIn (fl H) v ∧ ∀ (a : Addr) (H' : Hp) (v' : V), Same H H' → H a = none → ExAt H' a C [(f, v')] → Tw (fl H') v v' → Q (.ref a) H'
theorem at_of {xs : List V} {m : Nat} {v : V} (h : xs[m]? = some v) : atI xs (m : Int) = some v := by
  have hl := (List.getElem?_eq_some_iff.mp h).1
  unfold atI ixN
  rw [if_pos (by omega), if_pos (by omega)]
  simpa using h
theorem pe_exT {C : Addr} {f x : Str} {m : Nat} {k1 : Nat} {p1 p2 p3 p4 p5 : Pos} (T : XC X.K X.mg S x C) (I : I1 X.prog X.w X.K X.mg X.base C f) (hr : Room 5 X.A) (hN : X.N[1]? = some ("_law_told" : Str)) (hv : Vis X.env.scope "_law_told") (hg : Gl X x := by rfl)
    (hdb : (x == ("__debug__" : Str)) = false := by decide) : PE X (.Call (.Name x p1) [.Subscript (.Name "_law_told" p2) (.Constant (.int (m : Int)) k1 p3) p4] [] p5) (tExT C f m) := by
  obtain ⟨fI, fd, h1, h2, h3, h4, h5⟩ := I.ex
  refine pe_weak (pe_mkX T.o h1 h2 h3 hr h4 pass0 hg T.g (pa_cons (pe_ix ix_list (pv 1 hN hv) pe_int (fun _ _ => rfl)) pa_nil) hdb) ?_
  intro σ H Q ⟨L, vals, v, hs, hL, hm, ⟨d, dm, dq⟩, k⟩
  exact ⟨_, hs, L, vals, m, v, rfl, rfl, SqL.of hL, at_of hm, by show 1 ≤ 1000; decide, made1 T.o I.no fl_same dq fun a H' v' s n x q => k a H' v' s n x (Tw.fl ⟨d, dm, Dq.same s (Dq.same fl_same dq), q⟩)⟩
theorem pe_exTK {C : Addr} {f x : Str} {m : Nat} {k1 : Nat} {p1 p2 p3 p4 p5 p6 : Pos} (T : XC X.K X.mg S x C) (I : I1 X.prog X.w X.K X.mg X.base C f) (hr : Room 5 X.A) (hN : X.N[1]? = some ("_law_told" : Str)) (hv : Vis X.env.scope "_law_told") (hg : Gl X x := by rfl)
    (hdb : (x == ("__debug__" : Str)) = false := by decide) : PE X (.Call (.Name x p1) [] [⟨some f, .Subscript (.Name "_law_told" p2) (.Constant (.int (m : Int)) k1 p3) p4, p6⟩] p5) (tExT C f m) := by
  obtain ⟨fI, fd, h1, h2, h3, h4, h5⟩ := I.ex
  refine pe_weak (pe_mkXK T.o h1 h2 h3 hr h5 pass0 hg T.g (pk_cons (pe_ix ix_list (pv 1 hN hv) pe_int (fun _ _ => rfl)) pk_nil) rfl rfl hdb) ?_
  intro σ H Q ⟨L, vals, v, hs, hL, hm, ⟨d, dm, dq⟩, k⟩
  exact ⟨_, hs, L, vals, m, v, rfl, rfl, SqL.of hL, at_of hm, by show 0 ≤ 1000; decide, made1 T.o I.no fl_same dq fun a H' v' s n x q => k a H' v' s n x (Tw.fl ⟨d, dm, Dq.same s (Dq.same fl_same dq), q⟩)⟩
/-! ### lists of such -/
abbrev Want := Nat × Nat × Str
def Exs (Cs : Nat → Addr) (vals : List V) (W H : Hp) (L : List Want) (as : List Addr) : Prop := Paired (fun (x : Want) (a : Addr) => ∃ v v', vals[x.2.1]? = some v ∧ Tw W v v' ∧ ExAt H a (Cs x.1) [(x.2.2, v')]) L as
theorem Exs.same {vals : List V} {W H H' : Hp} {L : List Want} {as : List Addr} (x : Exs Cs vals W H L as) (s : Same H H') : Exs Cs vals W H' L as := L2.Paired.mapP x fun _ _ ⟨v, v', h1, h2, h3⟩ => ⟨v, v', h1, h2, h3.same s⟩
theorem Exs.wsame {vals : List V} {W W' H : Hp} {L : List Want} {as : List Addr} (x : Exs Cs vals W H L as) (s : Same W W') : Exs Cs vals W' H L as := L2.Paired.mapP x fun _ _ ⟨v, v', h1, h2, h3⟩ => ⟨v, v', h1, h2.same s, h3⟩
theorem Exs.fsame {vals : List V} {H H' : Hp} {L : List Want} {as : List Addr} (x : Exs Cs vals (fl H) H L as) (s : Same H H') : Exs Cs vals (fl H') H' L as := (x.same s).wsame (fl_mono s)
def tExs (Cs : Nat → Addr) (L : List Want) : TA := fun σ H Q => ∃ (T : Addr) (vals : List V), σ[1]? = some (some (.ref T)) ∧ H T = some (.lst vals) ∧ vals.length = 12 ∧ (∀ v ∈ vals, MenuIn (fl H) v) ∧ ∀ (as : List Addr) (H' : Hp), Same H H' → Exs Cs vals (fl H') H' L as → Q (as.map V.ref) H'
theorem pa_ex0 : PA X [] (tExs Cs []) := pa_weak pa_nil fun σ H Q ⟨T, vals, h1, h2, h3, h4, k⟩ => k [] H (Same.refl H) .nil
theorem pa_ex {i m : Nat} {f : Str} {e : Expr} {es : List Expr} {L : List Want} (hm : m < 12) (h : PE X e (tExT (Cs i) f m)) (r : PA X es (tExs Cs L)) (hs : starEach (e :: es) X.env = (false, eval e X.env) :: starEach es X.env := by rfl) :
    PA X (e :: es) (tExs Cs ((i, m, f) :: L)) := by
  refine pa_weak (pa_cons h r hs) ?_
  intro σ H Q ⟨T, vals, h1, h2, h3, h4, k⟩
  have hl : m < vals.length := by omega
  refine ⟨T, vals, vals[m], h1, h2, List.getElem?_eq_getElem hl, h4 _ (List.getElem_mem hl), fun a H1 v' s1 n1 x1 t1 => ⟨T, vals, h1, s1 _ _ h2, h3, fun v hv => (h4 v hv).same (fl_mono s1), fun as H2 s2 xs => ?_⟩⟩
  exact k (a :: as) H2 (s1.trans s2) (.cons ⟨_, v', List.getElem?_eq_getElem hl, t1.same (fl_mono s2), x1.same s2⟩ xs)
/-- the list at l -/
def ExL (Cs : Nat → Addr) (vals : List V) (H : Hp) (l : Addr) (L : List Want) : Prop := ∃ as : List Addr, H l = some (.lst (as.map V.ref)) ∧ Exs Cs vals (fl H) H L as
theorem ExL.same {vals : List V} {H H' : Hp} {l : Addr} {L : List Want} (x : ExL Cs vals H l L) (s : Same H H') : ExL Cs vals H' l L := by
  obtain ⟨as, h1, h2⟩ := x
  exact ⟨as, s _ _ h1, h2.fsame s⟩
def tExL (Cs : Nat → Addr) (L : List Want) : TE := fun σ H Q => ∃ (T : Addr) (vals : List V), σ[1]? = some (some (.ref T)) ∧ H T = some (.lst vals) ∧ vals.length = 12 ∧ (∀ v ∈ vals, MenuIn (fl H) v) ∧ ∀ (l : Addr) (H' : Hp), Same H H' → H l = none → ExL Cs vals H' l L → Q (.ref l) H'
theorem Paired.len {α β : Type} {R : α → β → Prop} : ∀ {xs : List α} {ys : List β}, Paired R xs ys → xs.length = ys.length
  | _, _, .nil => rfl
  | _, _, .cons _ t => congrArg Nat.succ (Paired.len t)
theorem Paired.app {α β : Type} {R : α → β → Prop} : ∀ {xs us : List α} {ys vs : List β}, Paired R xs ys → Paired R us vs → Paired R (xs ++ us) (ys ++ vs)
  | _, _, _, _, .nil, h => h
  | _, _, _, _, .cons a t, h => .cons a (Paired.app t h)
theorem small {n : Nat} (h : n ≤ 1000) : n ≤ sizeLine := Nat.le_trans h (by decide)
theorem pe_exL {es : List Expr} {pos : Pos} {L : List Want} (hL : L.length ≤ 100) (h : PA X es (tExs Cs L)) : PE X (.List es pos) (tExL Cs L) := by
  refine pe_weak (pe_lst h) ?_
  intro σ H Q ⟨T, vals, h1, h2, h3, h4, k⟩
  refine ⟨T, vals, h1, h2, h3, h4, fun as H1 s1 xs => ⟨small (by rw [List.length_map, ← Paired.len xs]; omega), fun l hl => ?_⟩⟩
  have s2 := same_new (o := .lst (as.map V.ref)) hl
  exact k l _ (s1.trans s2) (s1.free hl) ⟨as, upd_same, xs.fsame s2⟩
/-- x + [..], x in slot q -/
def tExM (Cs : Nat → Addr) (q : Nat) (L M : List Want) : TE := fun σ H Q => ∃ (T l0 : Addr) (vals : List V), σ[1]? = some (some (.ref T)) ∧ H T = some (.lst vals) ∧ vals.length = 12 ∧ (∀ v ∈ vals, MenuIn (fl H) v) ∧ σ[q]? = some (some (.ref l0)) ∧ ExL Cs vals H l0 L ∧
  ∀ (l : Addr) (H' : Hp), Same H H' → H l = none → ExL Cs vals H' l (L ++ M) → Q (.ref l) H'
theorem pe_exM {q : Nat} {x : Str} {e : Expr} {p1 p2 : Pos} {L M : List Want} (hL : L.length + M.length ≤ 100) (hN : X.N[q]? = some x) (hv : Vis X.env.scope x) (he : PE X e (tExL Cs M)) (hd : (x == ("__debug__" : Str)) = false := by decide) (hc : (x == ("__classdict__" : Str)) = false := by decide) :
    PE X (.BinOp (.Name x p1) .Add e p2) (tExM Cs q L M) := by
  refine pe_weak (pe_op op_cat (pv q hN hv hd hc) he) ?_
  intro σ H Q ⟨T, l0, vals, h1, h2, h3, h5, h4, ⟨as, hl, xs⟩, k⟩
  refine ⟨_, h4, T, vals, h1, h2, h3, h5, fun m H1 s1 n1 ⟨bs, hm, ys⟩ => ?_⟩
  have a1 := Paired.len xs
  have a2 := Paired.len ys
  refine ⟨l0, m, _, _, rfl, rfl, s1 _ _ hl, hm, small (by rw [List.length_map, List.length_map]; omega), fun r hr => ?_⟩
  have s2 := same_new (o := .lst (as.map V.ref ++ bs.map V.ref)) hr
  exact k r _ (s1.trans s2) (s1.free hr) ⟨as ++ bs, by rw [List.map_append]; exact upd_same, Paired.app (xs.fsame (s1.trans s2)) (ys.fsame s2)⟩
end
end Kone
namespace Kone
open PySem L2 Gd
def flds : List (Nat × Str) := [(0, "value"), (1, "value"), (2, "value"), (3, "value"), (4, "value"), (5, "value"), (6, "value"), (7, "value"), (8, "part"), (9, "part"), (10, "part"), (11, "part"), (12, "part"), (13, "at"), (15, "word"), (16, "value"), (17, "value"), (18, "value"), (19, "part"), (20, "value")]
/-- the __init__s of one field -/
structure Inits (P : Program) (w : World) (K : PySem.W.Frag) (mg : Str → Option Value) (base : Heap) (Cs : Nat → Addr) : Prop where
  one : ∀ i f, (i, f) ∈ flds → I1 P w K mg base (Cs i) f
section
variable {P : Program} {w : World} {K : PySem.W.Frag} {mg : Str → Option Value} {base : Heap} {S : Addr} {Cs : Nat → Addr}
theorem yesT {σ : L2.St} {H : Hp} {X Y : Hp → Prop} (h : X H) : tYes σ H (fun b H3 => if b = true then X H3 else Y H3) := by
  show (if true = true then X H else Y H)
  rw [if_pos rfl]
  exact h
theorem lt100 {n : Nat} (h : n < 100) : n < sizeLine := Nat.lt_of_lt_of_le h (small (by decide))
theorem cl_fmod (k m : Nat) (hm : 0 < m) : ((0 : Int) + (k : Int)).fmod (m : Int) = ((k % m : Nat) : Int) := by
  rw [Int.zero_add, Int.fmod_eq_emod_of_nonneg _ (by omega)]
  rfl
/-- what a loop over made errors finds: tuples of an error, its value, what it keeps -/
def Found (Cs : Nat → Addr) (vals : List V) (W H : Hp) (L : List Want) (ts : List Addr) : Prop :=
  Paired (fun (x : Want) (t : Addr) => ∃ (e : Addr) (v v' : V), vals[x.2.1]? = some v ∧ H t = some (.tup [.ref e, v, v']) ∧ Tw W v v' ∧ ExAt H e (Cs x.1) [(x.2.2, v')]) L ts
theorem Found.same {vals : List V} {W H H' : Hp} {L : List Want} {ts : List Addr} (x : Found Cs vals W H L ts) (s : Same H H') : Found Cs vals W H' L ts := L2.Paired.mapP x fun _ _ ⟨e, v, v', h1, h2, hw, h3⟩ => ⟨e, v, v', h1, s _ _ h2, hw, h3.same s⟩
theorem Found.wsame {vals : List V} {W W' H : Hp} {L : List Want} {ts : List Addr} (x : Found Cs vals W H L ts) (s : Same W W') : Found Cs vals W' H L ts := L2.Paired.mapP x fun _ _ ⟨e, v, v', h1, h2, hw, h3⟩ => ⟨e, v, v', h1, h2, hw.same s, h3⟩
theorem Found.fsame {vals : List V} {H H' : Hp} {L : List Want} {ts : List Addr} (x : Found Cs vals (fl H) H L ts) (s : Same H H') : Found Cs vals (fl H') H' L ts := (x.same s).wsame (fl_mono s)
/-- where the list at D is stored anew, tuples and errors stay -/
theorem Found.put {vals : List V} {W H : Hp} {L : List Want} {ts : List Addr} {D : Addr} {xs ys : List V} (x : Found Cs vals W H L ts) (h : H D = some (.lst xs)) : Found Cs vals W (upd H D (.lst ys)) L ts := L2.Paired.mapP x fun _ t ⟨e, v, v', h1, h2, hw, d, h3, h4⟩ => by
  have n1 : t ≠ D := ne_of h2 h (fun z => by cases z)
  have n2 : e ≠ D := ne_of h3 h (fun z => by cases z)
  have n3 : d ≠ D := ne_of h4 h (fun z => by cases z)
  exact ⟨e, v, v', h1, by rw [upd_ne n1]; exact h2, hw, d, by rw [upd_ne n2]; exact h3, by rw [upd_ne n3]; exact h4⟩
theorem refs_bare {as : List Addr} (h : 0 < as.length) : (as.map V.ref).all bare = false := by
  cases as with
  | nil => cases h
  | cons a as => rfl
theorem Paired.get {α β : Type} {R : α → β → Prop} : ∀ {xs : List α} {ys : List β} {i : Nat} {x : α}, Paired R xs ys → xs[i]? = some x → ∃ y, ys[i]? = some y ∧ R x y
  | _, _, _, _, .nil, e => by simp at e
  | _, _, 0, _, .cons r _, e => by simp at e; subst e; exact ⟨_, rfl, r⟩
  | _, _, i + 1, x, .cons _ t, e => by
    obtain ⟨y, h1, h2⟩ := Paired.get (i := i) (x := x) t (by simpa using e)
    exact ⟨y, by simpa using h1, h2⟩
theorem take_succ {α : Type} {xs : List α} {i : Nat} {x : α} (h : xs[i]? = some x) : xs.take (i + 1) = xs.take i ++ [x] := by
  rw [List.take_succ, h]
  rfl
def tMod8 (m : Int) : TE := tOp (rI (fun _ j => j ≠ 0) fun i j => .int (i.fmod j)) (tCB (fun xs H Q => (∃ i, xs = [.int i] ∧ Q (.int i) H) ∨ ∃ k, xs = [.bl k] ∧ Q (.int (if k then 1 else 0)) H) (tCons (tVar 8) tNil)) (tC (.int m))
def L24 : List Want := [(0, 0, "value"), (1, 1, "value"), (2, 2, "value"), (3, 3, "value"), (4, 4, "value"), (5, 5, "value"), (6, 6, "value"), (7, 7, "value"), (16, 8, "value"), (17, 9, "value"), (18, 10, "value"), (20, 11, "value"), (0, 0, "value"), (1, 1, "value"), (2, 2, "value"), (3, 3, "value"), (4, 4, "value"), (5, 5, "value"), (6, 6, "value"), (7, 7, "value"), (16, 8, "value"), (17, 9, "value"), (18, 10, "value"), (20, 11, "value")]
def L12 : List Want := [(8, 0, "part"), (9, 1, "part"), (10, 2, "part"), (11, 3, "part"), (12, 4, "part"), (19, 5, "part"), (8, 0, "part"), (9, 1, "part"), (10, 2, "part"), (11, 3, "part"), (12, 4, "part"), (19, 5, "part")]
def cOf (L : List Want) (i : Nat) : Nat := (L.getD i (0, 0, "")).1
theorem L24_at : ∀ i, i < 24 → L24[i]? = some (cOf L24 i, i % 12, ("value" : Str)) ∧ cOf L24 i < 23 ∧ (cOf L24 i, ("value" : Str)) ∈ flds := by decide +kernel
theorem L12_at : ∀ i, i < 12 → L12[i]? = some (cOf L12 i, i % 6, ("part" : Str)) ∧ cOf L12 i < 23 ∧ (cOf L12 i, ("part" : Str)) ∈ flds := by decide +kernel
theorem Exs.put {vals : List V} {W H : Hp} {L : List Want} {as : List Addr} {D : Addr} {xs ys : List V} (x : Exs Cs vals W H L as) (h : H D = some (.lst xs)) : Exs Cs vals W (upd H D (.lst ys)) L as := L2.Paired.mapP x fun _ _ ⟨v, v', h1, hw, d, h3, h4⟩ => by
  have n2 := ne_of h3 h (fun z => by cases z)
  have n3 : d ≠ D := ne_of h4 h (fun z => by cases z)
  exact ⟨v, v', h1, hw, d, by rw [upd_ne n2]; exact h3, by rw [upd_ne n3]; exact h4⟩
theorem elt_read (T : Txt K mg S Cs) (I : Inits P w K mg base Cs) {σ : L2.St} {q m i c : Nat} {f : Str} {D lm : Addr} {vals : List V} {as : List Addr} {L : List Want} {W H' : Hp} {Q : VK} (h1 : σ[1]? = some (some (.ref D))) (hq : σ[q]? = some (some (.ref lm)))
    (h8 : σ[8]? = some (some (.int (0 + (i : Int))))) (hD : H' D = some (.lst vals)) (hl : vals.length = 12) (hm : H' lm = some (.lst (as.map V.ref))) (xs : Exs Cs vals W H' L as) (hi : L[i]? = some (c, i % m, f)) (m0 : 0 < m) (m1 : m ≤ 12) (hc : c < 23) (hf : (c, f) ∈ flds)
    (k : ∀ (t e : Addr) (v v' : V) (H2 : Hp), Same H' H2 → vals[i % m]? = some v → H2 t = some (.tup [.ref e, v, v']) → Tw W v v' → ExAt H2 e (Cs c) [(f, v')] → Q (.ref t) H2) :
    tTup (tCons (tOp (rIxL K) (tVar q) (tVar 8)) (tCons (tOp (rIxL K) (tVar 1) (tMod8 (m : Int))) (tCons (tXf K f (tOp (rIxL K) (tVar q) (tVar 8))) tNil))) σ H' Q := by
  obtain ⟨e, he, v, v', hv, hw, hx⟩ := Paired.get xs hi
  have hlt : i % m < 12 := Nat.lt_of_lt_of_le (Nat.mod_lt _ m0) m1
  have ate : atI (as.map V.ref) (0 + (i : Int)) = some (V.ref e) := by
    rw [Int.zero_add]
    exact at_of (by rw [List.getElem?_map, he]; rfl)
  have atv : atI vals (((0 : Int) + (i : Int)).fmod (m : Int)) = some v := by
    rw [cl_fmod i m m0]
    exact at_of hv
  have lk : List.lookup f [(f, v')] = some v' := by simp [List.lookup]
  refine ⟨_, hq, _, h8, lm, _, _, .ref e, rfl, rfl, SqL.of hm, ate, _, h1, _, h8, .inl ⟨_, rfl, _, _, rfl, rfl, (show (m : Int) ≠ 0 by omega), D, _, _, v, rfl, rfl, SqL.of hD, atv, _, hq, _, h8, lm, _, _, .ref e, rfl, rfl, SqL.of hm, ate, e, Cs c, _, v', rfl, hx, (T.c c hc).e, (I.one c f hf).no, lk, small (by show 3 ≤ 1000; decide), fun t ht => ?_⟩⟩
  have s1 := same_new (o := .tup [.ref e, v, v']) ht
  exact k t e v v' _ s1 hv upd_same hw (hx.same s1)
def LD : List Want := [(13, 6, "at"), (13, 6, "at")]
def LC : List Want := [(15, 7, "word"), (15, 7, "word")]
theorem LD_at : ∀ i, i < 2 → LD[i]? = some ((13, 6, "at") : Want) := by decide +kernel
theorem LC_at : ∀ i, i < 2 → LC[i]? = some ((15, 7, "word") : Want) := by decide +kernel
theorem elt_read2 (T : Txt K mg S Cs) (I : Inits P w K mg base Cs) {σ : L2.St} {m i c : Nat} {f : Str} {D e : Addr} {vals : List V} {as : List Addr} {L : List Want} {W H' : Hp} {Q : VK} (h1 : σ[1]? = some (some (.ref D)))
    (h9 : σ[9]? = some (some (.ref e))) (hD : H' D = some (.lst vals)) (he : as[i]? = some e) (xs : Exs Cs vals W H' L as) (hi : L[i]? = some (c, m, f)) (hc : c < 23) (hf : (c, f) ∈ flds)
    (k : ∀ (t : Addr) (v v' : V) (H2 : Hp), Same H' H2 → vals[m]? = some v → H2 t = some (.tup [.ref e, v, v']) → Tw W v v' → ExAt H2 e (Cs c) [(f, v')] → Q (.ref t) H2) :
    tTup (tCons (tVar 9) (tCons (tOp (rIxL K) (tVar 1) (tC (.int (m : Int)))) (tCons (tXf K f (tVar 9)) tNil))) σ H' Q := by
  obtain ⟨e', he', v, v', hv, hw, hx⟩ := Paired.get xs hi
  rw [he] at he'
  cases he'
  have lk : List.lookup f [(f, v')] = some v' := by simp [List.lookup]
  refine ⟨_, h9, _, h1, D, _, _, v, rfl, rfl, SqL.of hD, at_of hv, _, h9, e, Cs c, _, v', rfl, hx, (T.c c hc).e, (I.one c f hf).no, lk, small (by show 3 ≤ 1000; decide), fun t ht => ?_⟩
  have s1 := same_new (o := .tup [.ref e, v, v']) ht
  exact k t v v' _ s1 hv upd_same hw (hx.same s1)
theorem Paired.onto {α β γ : Type} {R : α → γ → Prop} {R' : β → γ → Prop} {f : α → β} : ∀ {xs : List α} {ys : List γ}, Paired R xs ys → (∀ x y, R x y → R' (f x) y) → Paired R' (xs.map f) ys
  | _, _, .nil, _ => .nil
  | _, _, .cons r t, h => .cons (h _ _ r) (Paired.onto t h)
theorem mapref_get {as : List Addr} {i : Nat} {x : V} (h : (as.map V.ref)[i]? = some x) : ∃ e, as[i]? = some e ∧ x = V.ref e := by
  rw [List.getElem?_map] at h
  cases q : as[i]? with
  | none => rw [q] at h; cases h
  | some e => rw [q] at h; exact ⟨e, rfl, (Option.some.inj h).symm⟩
theorem scOnes : FnScope ["_law_pen_here", "_law_told", "_law_made", "_law_found", "_law_part", "_law_deeds", "_law_lines", "_law_lap", "_law_k", "_law_error"] ["_law_pen_here"] (defScope sOnes) := ⟨rfl, rfl, rfl, by decide +kernel, rfl, by decide +kernel, by decide +kernel⟩
/-- a list of triples of an error, a value, the same value: of errors of these classes -/
def Trip (Cs : Nat → Addr) (H : Hp) (l : Addr) (cl : List Nat) : Prop := ∃ ts : List Addr, H l = some (.lst (ts.map V.ref)) ∧
  Paired (fun (c : Nat) (t : Addr) => ∃ (e : Addr) (v v' : V) (f : Str), H t = some (.tup [.ref e, v, v']) ∧ ExAt H e (Cs c) [(f, v')] ∧ Tw H v v') cl ts
def oneCl : List Nat := [0, 1, 2, 3, 4, 5, 6, 7, 16, 17, 18, 20, 0, 1, 2, 3, 4, 5, 6, 7, 16, 17, 18, 20, 8, 9, 10, 11, 12, 19, 8, 9, 10, 11, 12, 19, 13, 13, 15, 15]
def spOnes (Cs : Nat → Addr) : Sp := fun vs H Q _ => ∃ (p c : Addr) (n : Nat), vs = [.ref p] ∧ Pen H p c n ∧ n ≤ 1000 ∧ ∀ (H' : Hp) (l : Addr), Keep p H H' → Pen H' p c (n + 12) → Trip Cs (hide p H') l oneCl → Q (.ref l) H'
theorem oneCl_is : oneCl = (L24 ++ L12 ++ LD ++ LC).map (·.1) := by decide +kernel
theorem ok_ones {f fD fP fA : Addr} {fd fdD fdP fdA : FuncData} (F : Fun K "_law_ones" "_law_ones" sOnes f fd) (T : Txt K mg S Cs) (I : Inits P w K mg base Cs) (UD : Def K mg "_law_draw" sDraw ["_law_pen_here", "_law_many"] fD fdD)
    (UP : Def K mg "_law_pick" sPick ["_law_pen_here", "_law_some"] fP fdP) (UA : Def K mg "_law_any" sAny ["_law_pen_here"] fA fdA) : FnOk P w K mg base CX0 6 f fd ["_law_pen_here"] (spOnes Cs) := by
  have GA : FnOk P w K mg base CX0 3 fA fdA ["_law_pen_here"] spAny := ok_any UA.F T UD UP
  have hvT : Vis (defScope sOnes) "_law_told" := Or.inr (Or.inl rfl)
  refine F.ok scOnes (fun vs H Q E h => ?_) (fun cdv A outer s H vs Q E hr h => ?_)
  · obtain ⟨p, c, n, rfl, _⟩ := h
    rfl
  · obtain ⟨p, c, n, rfl, hp, hn, k⟩ := h
    have hr2 : Room 5 (A.deeper (PyProof.Rows.envOfC "_law_ones" (defScope sOnes) s.heap.objs.size f cdv)) := hr
    have hr3 : Room 3 (A.deeper (PyProof.Rows.envOfC "_law_ones" (defScope sOnes) s.heap.objs.size f cdv)) := hr.mono (by decide)
    refine ⟨_, (pss_cons (ps_set (i := 1) scOnes.nd rfl (Or.inr rfl) (pe_lc (own := [("_law_lap", 7)]) (g := gName 7) (tt := tYes) (te := tCall spAny [] E0 (tCons (tVar 0) tNil)) rfl scOnes.nd (pi_range1 rfl T.range (pa_cons pe_int pa_nil)) (blkOk_by (N := ["_law_pen_here", "_law_told", "_law_made", "_law_found", "_law_part", "_law_deeds", "_law_lines", "_law_lap", "_law_k", "_law_error"]) (sc := defScope sOnes) (by decide +kernel)) (fun _ _ _ _ _ => pg_name (i := 7) scOnes.nd rfl (Or.inl rfl)) (fun _ _ _ _ _ => pts_nil) (fun _ _ _ _ _ => (pe_call GA hr3 rfl UA.g UA.k UA.b .nil pass0 (pa_cons (pv 0) pa_nil)))))
      (pss_cons (ps_set (i := 2) scOnes.nd rfl (Or.inr rfl) (pe_exL (by decide) (pa_ex (by decide) (pe_exT (m := 0) (T.c 0 (by decide)) (I.one 0 "value" (by decide +kernel)) hr2 rfl hvT) (pa_ex (by decide) (pe_exT (m := 1) (T.c 1 (by decide)) (I.one 1 "value" (by decide +kernel)) hr2 rfl hvT) (pa_ex (by decide) (pe_exT (m := 2) (T.c 2 (by decide)) (I.one 2 "value" (by decide +kernel)) hr2 rfl hvT) (pa_ex (by decide) (pe_exT (m := 3) (T.c 3 (by decide)) (I.one 3 "value" (by decide +kernel)) hr2 rfl hvT) (pa_ex (by decide) (pe_exT (m := 4) (T.c 4 (by decide)) (I.one 4 "value" (by decide +kernel)) hr2 rfl hvT) pa_ex0)))))))
      (pss_cons (ps_set (i := 2) scOnes.nd rfl (Or.inr rfl) (pe_exM (q := 2) (L := [(0, 0, "value"), (1, 1, "value"), (2, 2, "value"), (3, 3, "value"), (4, 4, "value")]) (by decide) rfl (Or.inr (Or.inl rfl)) (pe_exL (by decide) (pa_ex (by decide) (pe_exT (m := 5) (T.c 5 (by decide)) (I.one 5 "value" (by decide +kernel)) hr2 rfl hvT) (pa_ex (by decide) (pe_exT (m := 6) (T.c 6 (by decide)) (I.one 6 "value" (by decide +kernel)) hr2 rfl hvT) (pa_ex (by decide) (pe_exT (m := 7) (T.c 7 (by decide)) (I.one 7 "value" (by decide +kernel)) hr2 rfl hvT) (pa_ex (by decide) (pe_exT (m := 8) (T.c 16 (by decide)) (I.one 16 "value" (by decide +kernel)) hr2 rfl hvT) pa_ex0)))))))
      (pss_cons (ps_set (i := 2) scOnes.nd rfl (Or.inr rfl) (pe_exM (q := 2) (L := [(0, 0, "value"), (1, 1, "value"), (2, 2, "value"), (3, 3, "value"), (4, 4, "value"), (5, 5, "value"), (6, 6, "value"), (7, 7, "value"), (16, 8, "value")]) (by decide) rfl (Or.inr (Or.inl rfl)) (pe_exL (by decide) (pa_ex (by decide) (pe_exT (m := 9) (T.c 17 (by decide)) (I.one 17 "value" (by decide +kernel)) hr2 rfl hvT) (pa_ex (by decide) (pe_exT (m := 10) (T.c 18 (by decide)) (I.one 18 "value" (by decide +kernel)) hr2 rfl hvT) pa_ex0)))))
      (pss_cons (ps_set (i := 2) scOnes.nd rfl (Or.inr rfl) (pe_exM (q := 2) (L := [(0, 0, "value"), (1, 1, "value"), (2, 2, "value"), (3, 3, "value"), (4, 4, "value"), (5, 5, "value"), (6, 6, "value"), (7, 7, "value"), (16, 8, "value"), (17, 9, "value"), (18, 10, "value")]) (by decide) rfl (Or.inr (Or.inl rfl)) (pe_exL (by decide) (pa_ex (by decide) (pe_exT (m := 11) (T.c 20 (by decide)) (I.one 20 "value" (by decide +kernel)) hr2 rfl hvT) (pa_ex (by decide) (pe_exTK (m := 0) (T.c 0 (by decide)) (I.one 0 "value" (by decide +kernel)) hr2 rfl hvT) (pa_ex (by decide) (pe_exTK (m := 1) (T.c 1 (by decide)) (I.one 1 "value" (by decide +kernel)) hr2 rfl hvT) (pa_ex (by decide) (pe_exTK (m := 2) (T.c 2 (by decide)) (I.one 2 "value" (by decide +kernel)) hr2 rfl hvT) pa_ex0)))))))
      (pss_cons (ps_set (i := 2) scOnes.nd rfl (Or.inr rfl) (pe_exM (q := 2) (L := [(0, 0, "value"), (1, 1, "value"), (2, 2, "value"), (3, 3, "value"), (4, 4, "value"), (5, 5, "value"), (6, 6, "value"), (7, 7, "value"), (16, 8, "value"), (17, 9, "value"), (18, 10, "value"), (20, 11, "value"), (0, 0, "value"), (1, 1, "value"), (2, 2, "value")]) (by decide) rfl (Or.inr (Or.inl rfl)) (pe_exL (by decide) (pa_ex (by decide) (pe_exTK (m := 3) (T.c 3 (by decide)) (I.one 3 "value" (by decide +kernel)) hr2 rfl hvT) (pa_ex (by decide) (pe_exTK (m := 4) (T.c 4 (by decide)) (I.one 4 "value" (by decide +kernel)) hr2 rfl hvT) (pa_ex (by decide) (pe_exTK (m := 5) (T.c 5 (by decide)) (I.one 5 "value" (by decide +kernel)) hr2 rfl hvT) (pa_ex (by decide) (pe_exTK (m := 6) (T.c 6 (by decide)) (I.one 6 "value" (by decide +kernel)) hr2 rfl hvT) pa_ex0)))))))
      (pss_cons (ps_set (i := 2) scOnes.nd rfl (Or.inr rfl) (pe_exM (q := 2) (L := [(0, 0, "value"), (1, 1, "value"), (2, 2, "value"), (3, 3, "value"), (4, 4, "value"), (5, 5, "value"), (6, 6, "value"), (7, 7, "value"), (16, 8, "value"), (17, 9, "value"), (18, 10, "value"), (20, 11, "value"), (0, 0, "value"), (1, 1, "value"), (2, 2, "value"), (3, 3, "value"), (4, 4, "value"), (5, 5, "value"), (6, 6, "value")]) (by decide) rfl (Or.inr (Or.inl rfl)) (pe_exL (by decide) (pa_ex (by decide) (pe_exTK (m := 7) (T.c 7 (by decide)) (I.one 7 "value" (by decide +kernel)) hr2 rfl hvT) (pa_ex (by decide) (pe_exTK (m := 8) (T.c 16 (by decide)) (I.one 16 "value" (by decide +kernel)) hr2 rfl hvT) (pa_ex (by decide) (pe_exTK (m := 9) (T.c 17 (by decide)) (I.one 17 "value" (by decide +kernel)) hr2 rfl hvT) (pa_ex (by decide) (pe_exTK (m := 10) (T.c 18 (by decide)) (I.one 18 "value" (by decide +kernel)) hr2 rfl hvT) pa_ex0)))))))
      (pss_cons (ps_expr (pe_bm PySem.F.plainAttrs_list PySem.F.slot_list_append PySem.F.type_list_append mt_append (pv 2) (pa_cons (pe_exTK (m := 11) (T.c 20 (by decide)) (I.one 20 "value" (by decide +kernel)) hr2 rfl hvT) pa_nil)))
      (pss_cons (ps_setLc (i := 3) (own := [("_law_k", 8)]) (g := gName 8) (tt := tYes) (te := (tTup (tCons (tOp (rIxL K) (tVar 2) (tVar 8)) (tCons (tOp (rIxL K) (tVar 1) (tMod8 12)) (tCons (tXf K "value" (tOp (rIxL K) (tVar 2) (tVar 8))) tNil))))) rfl scOnes.nd rfl rfl (sw_true rfl rfl rfl (by decide +kernel)) (pi_range1 rfl T.range (pa_cons pe_int pa_nil)) (blkOk_by (N := ["_law_pen_here", "_law_told", "_law_made", "_law_found", "_law_part", "_law_deeds", "_law_lines", "_law_lap", "_law_k", "_law_error"]) (sc := defScope sOnes) (by decide +kernel)) (fun _ _ _ _ _ => pg_name (i := 8) scOnes.nd rfl (Or.inl rfl)) (fun _ _ _ _ _ => pts_nil) (fun _ _ _ _ _ => (pe_tup (pa_cons (pe_ix ix_list (pv 2) (pv 8) (fun _ _ => rfl)) (pa_cons (pe_ix ix_list (pv 1) (pe_op op_modN (pe_callTy call_int1 (by rfl) T.int (by decide +kernel) (pa_cons (pv 8) pa_nil)) pe_int) (fun _ _ => rfl)) (pa_cons (pe_xf (pe_ix ix_list (pv 2) (pv 8) (fun _ _ => rfl))) pa_nil))))))
      (pss_cons (ps_set (i := 4) scOnes.nd rfl (Or.inr rfl) (pe_exL (by decide) (pa_ex (by decide) (pe_exT (m := 0) (T.c 8 (by decide)) (I.one 8 "part" (by decide +kernel)) hr2 rfl hvT) (pa_ex (by decide) (pe_exT (m := 1) (T.c 9 (by decide)) (I.one 9 "part" (by decide +kernel)) hr2 rfl hvT) (pa_ex (by decide) (pe_exT (m := 2) (T.c 10 (by decide)) (I.one 10 "part" (by decide +kernel)) hr2 rfl hvT) (pa_ex (by decide) (pe_exT (m := 3) (T.c 11 (by decide)) (I.one 11 "part" (by decide +kernel)) hr2 rfl hvT) (pa_ex (by decide) (pe_exT (m := 4) (T.c 12 (by decide)) (I.one 12 "part" (by decide +kernel)) hr2 rfl hvT) pa_ex0)))))))
      (pss_cons (ps_set (i := 4) scOnes.nd rfl (Or.inr rfl) (pe_exM (q := 4) (L := [(8, 0, "part"), (9, 1, "part"), (10, 2, "part"), (11, 3, "part"), (12, 4, "part")]) (by decide) rfl (Or.inr (Or.inl rfl)) (pe_exL (by decide) (pa_ex (by decide) (pe_exT (m := 5) (T.c 19 (by decide)) (I.one 19 "part" (by decide +kernel)) hr2 rfl hvT) (pa_ex (by decide) (pe_exTK (m := 0) (T.c 8 (by decide)) (I.one 8 "part" (by decide +kernel)) hr2 rfl hvT) (pa_ex (by decide) (pe_exTK (m := 1) (T.c 9 (by decide)) (I.one 9 "part" (by decide +kernel)) hr2 rfl hvT) (pa_ex (by decide) (pe_exTK (m := 2) (T.c 10 (by decide)) (I.one 10 "part" (by decide +kernel)) hr2 rfl hvT) pa_ex0)))))))
      (pss_cons (ps_set (i := 4) scOnes.nd rfl (Or.inr rfl) (pe_exM (q := 4) (L := [(8, 0, "part"), (9, 1, "part"), (10, 2, "part"), (11, 3, "part"), (12, 4, "part"), (19, 5, "part"), (8, 0, "part"), (9, 1, "part"), (10, 2, "part")]) (by decide) rfl (Or.inr (Or.inl rfl)) (pe_exL (by decide) (pa_ex (by decide) (pe_exTK (m := 3) (T.c 11 (by decide)) (I.one 11 "part" (by decide +kernel)) hr2 rfl hvT) (pa_ex (by decide) (pe_exTK (m := 4) (T.c 12 (by decide)) (I.one 12 "part" (by decide +kernel)) hr2 rfl hvT) (pa_ex (by decide) (pe_exTK (m := 5) (T.c 19 (by decide)) (I.one 19 "part" (by decide +kernel)) hr2 rfl hvT) pa_ex0))))))
      (pss_cons (ps_set (i := 3) scOnes.nd rfl (Or.inl rfl) (pe_op op_cat (pv 3) (pe_lc (own := [("_law_k", 8)]) (g := gName 8) (tt := tYes) (te := (tTup (tCons (tOp (rIxL K) (tVar 4) (tVar 8)) (tCons (tOp (rIxL K) (tVar 1) (tMod8 6)) (tCons (tXf K "part" (tOp (rIxL K) (tVar 4) (tVar 8))) tNil))))) rfl scOnes.nd (pi_range1 rfl T.range (pa_cons pe_int pa_nil)) (blkOk_by (N := ["_law_pen_here", "_law_told", "_law_made", "_law_found", "_law_part", "_law_deeds", "_law_lines", "_law_lap", "_law_k", "_law_error"]) (sc := defScope sOnes) (by decide +kernel)) (fun _ _ _ _ _ => pg_name (i := 8) scOnes.nd rfl (Or.inl rfl)) (fun _ _ _ _ _ => pts_nil) (fun _ _ _ _ _ => (pe_tup (pa_cons (pe_ix ix_list (pv 4) (pv 8) (fun _ _ => rfl)) (pa_cons (pe_ix ix_list (pv 1) (pe_op op_modN (pe_callTy call_int1 (by rfl) T.int (by decide +kernel) (pa_cons (pv 8) pa_nil)) pe_int) (fun _ _ => rfl)) (pa_cons (pe_xf (pe_ix ix_list (pv 4) (pv 8) (fun _ _ => rfl))) pa_nil))))))))
      (pss_cons (ps_par (i := 5) (j := 6) (by rfl) scOnes.nd rfl rfl (by decide) rfl rfl (pa_cons (pe_exL (by decide) (pa_ex (by decide) (pe_exT (m := 6) (T.c 13 (by decide)) (I.one 13 "at" (by decide +kernel)) hr2 rfl hvT) (pa_ex (by decide) (pe_exTK (m := 6) (T.c 13 (by decide)) (I.one 13 "at" (by decide +kernel)) hr2 rfl hvT) pa_ex0))) (pa_cons (pe_exL (by decide) (pa_ex (by decide) (pe_exT (m := 7) (T.c 15 (by decide)) (I.one 15 "word" (by decide +kernel)) hr2 rfl hvT) (pa_ex (by decide) (pe_exTK (m := 7) (T.c 15 (by decide)) (I.one 15 "word" (by decide +kernel)) hr2 rfl hvT) pa_ex0))) pa_nil)) (by rfl))
      (pss_cons (ps_set (i := 3) scOnes.nd rfl (Or.inl rfl) (pe_op op_cat (pv 3) (pe_lc (own := [("_law_error", 9)]) (g := gName 9) (tt := tYes) (te := (tTup (tCons (tVar 9) (tCons (tOp (rIxL K) (tVar 1) (tC (.int 6))) (tCons (tXf K "at" (tVar 9)) tNil))))) rfl scOnes.nd (pi_list (pv 5)) (blkOk_by (N := ["_law_pen_here", "_law_told", "_law_made", "_law_found", "_law_part", "_law_deeds", "_law_lines", "_law_lap", "_law_k", "_law_error"]) (sc := defScope sOnes) (by decide +kernel)) (fun _ _ _ _ _ => pg_name (i := 9) scOnes.nd rfl (Or.inl rfl)) (fun _ _ _ _ _ => pts_nil) (fun _ _ _ _ _ => (pe_tup (pa_cons (pv 9) (pa_cons (pe_ix ix_list (pv 1) pe_int (fun _ _ => rfl)) (pa_cons (pe_xf (pv 9)) pa_nil))))))))
      (pss_one (ps_ret (pe_op op_cat (pv 3) (pe_lc (own := [("_law_error", 9)]) (g := gName 9) (tt := tYes) (te := (tTup (tCons (tVar 9) (tCons (tOp (rIxL K) (tVar 1) (tC (.int 7))) (tCons (tXf K "word" (tVar 9)) tNil))))) rfl scOnes.nd (pi_list (pv 6)) (blkOk_by (N := ["_law_pen_here", "_law_told", "_law_made", "_law_found", "_law_part", "_law_deeds", "_law_lines", "_law_lap", "_law_k", "_law_error"]) (sc := defScope sOnes) (by decide +kernel)) (fun _ _ _ _ _ => pg_name (i := 9) scOnes.nd rfl (Or.inl rfl)) (fun _ _ _ _ _ => pts_nil) (fun _ _ _ _ _ => (pe_tup (pa_cons (pv 9) (pa_cons (pe_ix ix_list (pv 1) pe_int (fun _ _ => rfl)) (pa_cons (pe_xf (pv 9)) pa_nil)))))))))))))))))))))))), ?_⟩
    obtain ⟨cs, a, g, hP, hC, hcp, _⟩ := id hp
    refine ⟨12, rfl, by decide, by decide, fun D hD => lc_range (lo := 0) (n := 12) (fun i H' => ∃ vals : List V, vals.length = i ∧ H' D = some (.lst vals) ∧ Keep p H H' ∧ Pen H' p c (n + i) ∧ ∀ v ∈ vals, MenuIn (hide D (hide p H')) v)
      ⟨[], rfl, upd_same, Keep.of (same_new hD), hp.keep (same_new hD), fun v z => nomatch z⟩ ?_ ?_⟩
    · rintro i H' hi ⟨vals, hl, hD', kp, pen, mn⟩
      have nDp : D ≠ p := (ne_of_none hP hD).symm
      obtain ⟨_, _, _, hP', _⟩ := id pen
      refine ⟨rfl, ?_⟩
      refine ⟨_, rfl, p, c, n + i, rfl, pen, by omega, fun H2 x kp2 pen2 mx => ?_⟩
      refine ⟨vals, kp2 D _ nDp hD', lt100 (by omega), vals ++ [x], by simp [hl], upd_same, fun b o nb e => ?_, ?_, fun v hv => ?_⟩
      · rw [upd_ne (ne_of_none e hD)]
        exact kp2 _ _ nb (kp _ _ nb e)
      · obtain ⟨cs2, a2, g2, q1, q2, q3, q4, q5⟩ := pen2
        exact ⟨cs2, a2, g2, by rw [upd_ne nDp.symm]; exact q1, by rw [upd_ne (ne_of_none hC hD)]; exact q2, q3, q4, by omega⟩
      · have up : Same (hide D (hide p H2)) (hide D (hide p (upd H2 D (.lst (vals ++ [x]))))) := fun b o e => by
          have n1 : b ≠ D := fun z => by rw [z] at e; unfold hide at e; rw [if_pos rfl] at e; cases e
          have e1 := hide_same _ _ e
          have n2 : b ≠ p := fun z => by rw [z] at e1; unfold hide at e1; rw [if_pos rfl] at e1; cases e1
          exact hide_at n1 (hide_at n2 (by rw [upd_ne n1]; exact hide_same _ _ e1))
        rcases List.mem_append.mp hv with hv | hv
        · exact ((mn v hv).same (hide_mono (hide_keep kp2))).same up
        · rw [List.mem_singleton.mp hv]
          refine MenuIn.same (mx.same fun b o e => ?_) up
          obtain ⟨z1, z2⟩ := newIn_of e
          exact hide_at (ne_of_none hD' z1).symm (hide_at (ne_of_none hP' z1).symm z2)
    rintro H1 ⟨vals, hl, hT, kp, pen, mn⟩
    obtain ⟨_, _, _, hP1, _⟩ := id pen
    have nDp : D ≠ p := (ne_of_none hP hD).symm
    have mn1 : ∀ v ∈ vals, MenuIn (fl H1) v := fun v hv => (((mn v hv).same hide_same).same hide_same).fl
    have mnS : ∀ {H' : Hp}, Same H1 H' → ∀ v ∈ vals, MenuIn (fl H') v := fun s v hv => (mn1 v hv).same (fl_mono s)
    clear mn
    show tSeq _ _ _ [some (.ref p), some (.ref D), none, none, none, none, none, none, none, none] _
    refine ⟨D, vals, rfl, hT, hl, mn1, fun l0 H2 s2 n2 x2 => ?_⟩
    show tSeq _ _ _ [some (.ref p), some (.ref D), some (.ref l0), none, none, none, none, none, none, none] _
    have hT2 := s2 _ _ hT
    refine ⟨D, l0, vals, rfl, hT2, hl, mnS s2, rfl, x2, fun l1 H3 t3 n3 x3 => ?_⟩
    show tSeq _ _ _ [some (.ref p), some (.ref D), some (.ref l1), none, none, none, none, none, none, none] _
    have s3 := s2.trans t3
    have hT3 := s3 _ _ hT
    refine ⟨D, l1, vals, rfl, hT3, hl, mnS s3, rfl, x3, fun l2 H4 t4 n4 x4 => ?_⟩
    show tSeq _ _ _ [some (.ref p), some (.ref D), some (.ref l2), none, none, none, none, none, none, none] _
    have s4 := s3.trans t4
    have hT4 := s4 _ _ hT
    refine ⟨D, l2, vals, rfl, hT4, hl, mnS s4, rfl, x4, fun l3 H5 t5 n5 x5 => ?_⟩
    show tSeq _ _ _ [some (.ref p), some (.ref D), some (.ref l3), none, none, none, none, none, none, none] _
    have s5 := s4.trans t5
    have hT5 := s5 _ _ hT
    refine ⟨D, l3, vals, rfl, hT5, hl, mnS s5, rfl, x5, fun l4 H6 t6 n6 x6 => ?_⟩
    show tSeq _ _ _ [some (.ref p), some (.ref D), some (.ref l4), none, none, none, none, none, none, none] _
    have s6 := s5.trans t6
    have hT6 := s6 _ _ hT
    refine ⟨D, l4, vals, rfl, hT6, hl, mnS s6, rfl, x6, fun l5 H7 t7 n7 x7 => ?_⟩
    show tSeq _ _ _ [some (.ref p), some (.ref D), some (.ref l5), none, none, none, none, none, none, none] _
    have s7 := s6.trans t7
    have fresh7 : H1 l5 = none := s6.free n7
    obtain ⟨as, hm, xs⟩ := x7
    refine ⟨_, rfl, .inl ⟨rfl, _, SqL.of hm⟩, D, vals, vals[11], rfl, s7 _ _ hT, List.getElem?_eq_getElem (by omega), mnS s7 _ (List.getElem_mem _), fun a8 H8 v8 t8 n8 x8 w8 => ?_⟩
    have a1 := Paired.len xs
    refine ⟨l5, _, _, rfl, rfl, t8 _ _ hm, lt100 (by rw [List.length_map, ← a1]; decide), ?_⟩
    show tSeq _ _ _ [some (.ref p), some (.ref D), some (.ref l5), none, none, none, none, none, none, none] _
    have hT8 := t8 _ _ (s7 _ _ hT)
    have nDl : D ≠ l5 := ne_of_none hT fresh7
    have flU : Same (fl H8) (fl (upd H8 l5 (.lst (as.map V.ref ++ [V.ref a8])))) := fun b o e => by
      have nb : b ≠ l5 := fun z => by
        subst z
        rw [fl_not (t8 _ _ hm) (refs_bare (by rw [← a1]; decide))] at e
        cases e
      have e0 := fl_same _ _ e
      unfold fl at e ⊢
      rw [upd_ne nb]
      exact e
    have xs9 : Exs Cs vals (fl (upd H8 l5 (.lst (as.map V.ref ++ [V.ref a8])))) (upd H8 l5 (.lst (as.map V.ref ++ [V.ref a8]))) L24 (as ++ [a8]) := (Exs.put (Paired.app (xs.fsame t8) (.cons ⟨vals[11], v8, List.getElem?_eq_getElem (by show 11 < vals.length; omega), w8, x8⟩ .nil)) (t8 _ _ hm)).wsame flU
    have hm9 : upd H8 l5 (.lst (as.map V.ref ++ [V.ref a8])) l5 = some (.lst ((as ++ [a8]).map V.ref)) := by rw [upd_same, List.map_append]; rfl
    have hT9 : upd H8 l5 (.lst (as.map V.ref ++ [V.ref a8])) D = some (.lst vals) := by rw [upd_ne nDl]; exact hT8
    have s9 : Same H1 (upd H8 l5 (.lst (as.map V.ref ++ [V.ref a8]))) := fun b o e => by
      rw [upd_ne (ne_of_none e fresh7)]
      exact t8 _ _ (s7 _ _ e)
    generalize as ++ [a8] = as9 at xs9 hm9
    generalize upd H8 l5 (.lst (as.map V.ref ++ [V.ref a8])) = H9 at xs9 hm9 hT9 s9
    clear flU xs hm x8 w8 a1 t8 n8 x2 x3 x4 x5 x6
    refine ⟨24, rfl, by decide, by decide, fun FF hF => lc_range (lo := 0) (n := 24) (fun i H' => Same H9 H' ∧ ∃ ts : List Addr, H' FF = some (.lst (ts.map V.ref)) ∧ Found Cs vals (fl H9) H' (L24.take i) ts) ⟨same_new hF, [], upd_same, .nil⟩ ?_ ?_⟩
    · rintro i H' hi ⟨sF, ts, hF', fd⟩
      obtain ⟨li, c23, fm⟩ := L24_at i hi
      refine ⟨rfl, yesT ?_⟩
      refine elt_read T I (q := 2) (m := 12) (i := i) (c := cOf L24 i) (f := "value") (L := L24) (D := D) (lm := l5) (vals := vals) ?_ ?_ ?_ (sF _ _ hT9) hl (sF _ _ hm9) (xs9.same sF) li (by decide) (by decide) c23 fm ?_
      · rfl
      · rfl
      · rfl
      intro t e v v' H2 s2 hv ht hw hx
      refine ⟨ts.map V.ref, s2 _ _ hF', ?_, fun b o z => ?_, ts ++ [t], ?_, ?_⟩
      · have z := Paired.len fd
        rw [List.length_take] at z
        exact lt100 (by rw [List.length_map]; omega)
      · rw [upd_ne (ne_of_none z hF)]
        exact s2 _ _ (sF _ _ z)
      · rw [upd_same, List.map_append]
        rfl
      · rw [take_succ li]
        exact Found.put (Paired.app (fd.same s2) (.cons ⟨e, v, v', hv, ht, hw, hx⟩ .nil)) (s2 _ _ hF')
    rintro HA ⟨sA, ts1, hF1, fd1⟩
    have fd1 := fd1.wsame (fl_mono sA)
    show tSeq _ _ _ [some (.ref p), some (.ref D), some (.ref l5), some (.ref FF), none, none, none, none, none, none] _
    have hTA := sA _ _ hT9
    have sA1 := s9.trans sA
    have fF : H1 FF = none := s9.free hF
    refine ⟨D, vals, rfl, hTA, hl, mnS sA1, fun b0 HB sB nB xB => ?_⟩
    show tSeq _ _ _ [some (.ref p), some (.ref D), some (.ref l5), some (.ref FF), some (.ref b0), none, none, none, none, none] _
    have hTB := sB _ _ hTA
    refine ⟨D, b0, vals, rfl, hTB, hl, mnS (sA1.trans sB), rfl, xB, fun b1 HC sC nC xC => ?_⟩
    show tSeq _ _ _ [some (.ref p), some (.ref D), some (.ref l5), some (.ref FF), some (.ref b1), none, none, none, none, none] _
    have hTC := sC _ _ hTB
    refine ⟨D, b1, vals, rfl, hTC, hl, mnS (sA1.trans (sB.trans sC)), rfl, xC, fun b2 HD sD nD xD => ?_⟩
    show tSeq _ _ _ [some (.ref p), some (.ref D), some (.ref l5), some (.ref FF), some (.ref b2), none, none, none, none, none] _
    have hTD := sD _ _ hTC
    have sAD := sB.trans (sC.trans sD)
    obtain ⟨bs, hb, ys⟩ := xD
    -- found + [.. for k in range(12)]
    refine ⟨_, rfl, 12, rfl, by decide, by decide, fun G hG => lc_range (lo := 0) (n := 12) (fun i H' => Same HD H' ∧ ∃ ts : List Addr, H' G = some (.lst (ts.map V.ref)) ∧ Found Cs vals (fl HD) H' (L12.take i) ts) ⟨same_new hG, [], upd_same, .nil⟩ ?_ ?_⟩
    · rintro i H' hi ⟨sF, ts, hF', fd⟩
      obtain ⟨li, c23, fm⟩ := L12_at i hi
      refine ⟨rfl, yesT ?_⟩
      refine elt_read T I (q := 4) (m := 6) (i := i) (c := cOf L12 i) (f := "part") (L := L12) (D := D) (lm := b2) (vals := vals) ?_ ?_ ?_ (sF _ _ hTD) hl (sF _ _ hb) (ys.same sF) li (by decide) (by decide) c23 fm ?_
      · rfl
      · rfl
      · rfl
      intro t e v v' H2 s2 hv ht hw hx
      refine ⟨ts.map V.ref, s2 _ _ hF', ?_, fun b o z => ?_, ts ++ [t], ?_, ?_⟩
      · have z := Paired.len fd
        rw [List.length_take] at z
        exact lt100 (by rw [List.length_map]; omega)
      · rw [upd_ne (ne_of_none z hG)]
        exact s2 _ _ (sF _ _ z)
      · rw [upd_same, List.map_append]
        rfl
      · rw [take_succ li]
        exact Found.put (Paired.app (fd.same s2) (.cons ⟨e, v, v', hv, ht, hw, hx⟩ .nil)) (s2 _ _ hF')
    rintro HE ⟨sE, ts2, hG2, fd2⟩
    have fd2 := fd2.wsame (fl_mono sE)
    have hFE := sE _ _ (sAD _ _ hF1)
    have z1 := Paired.len fd1
    have z2 := Paired.len fd2
    refine ⟨FF, G, _, _, rfl, rfl, hFE, hG2, small (by rw [List.length_map, List.length_map, ← z1, ← z2]; decide), fun M hM => ?_⟩
    show tSeq _ _ _ [some (.ref p), some (.ref D), some (.ref l5), some (.ref M), some (.ref b2), none, none, none, none, none] _
    have hMe : upd HE M (.lst (ts1.map V.ref ++ ts2.map V.ref)) M = some (.lst ((ts1 ++ ts2).map V.ref)) := by rw [upd_same, List.map_append]
    have sM := same_new (o := .lst (ts1.map V.ref ++ ts2.map V.ref)) hM
    have fdM : Found Cs vals (fl (upd HE M (.lst (ts1.map V.ref ++ ts2.map V.ref)))) (upd HE M (.lst (ts1.map V.ref ++ ts2.map V.ref))) (L24 ++ L12) (ts1 ++ ts2) := Paired.app (fd1.fsame (sAD.trans (sE.trans sM))) (fd2.fsame sM)
    have sH : Same H1 (upd HE M (.lst (ts1.map V.ref ++ ts2.map V.ref))) := sA1.trans (sAD.trans (sE.trans sM))
    have hTM := sM _ _ (sE _ _ hTD)
    have zM : (ts1 ++ ts2).length = 36 := by rw [List.length_append, ← z1, ← z2]; decide
    generalize ts1 ++ ts2 = tsM at hMe fdM zM
    generalize upd HE M (.lst (ts1.map V.ref ++ ts2.map V.ref)) = HM at hMe fdM sH hTM
    clear fd1 fd2 hFE hG2 sM xs9 hm9
    refine ⟨D, vals, rfl, hTM, hl, mnS sH, fun dl HN sN nN ⟨ds, hds, xds⟩ => ⟨D, vals, rfl, sN _ _ hTM, hl, mnS (sH.trans sN), fun el HO' sO nO ⟨es, hes, xes⟩ => ⟨_, _, rfl, ?_⟩⟩⟩
    show tSeq _ _ _ [some (.ref p), some (.ref D), some (.ref l5), some (.ref M), some (.ref b2), some (.ref dl), some (.ref el), none, none, none] _
    have hTO := sO _ _ (sN _ _ hTM)
    have hdO := sO _ _ hds
    have xdO := xds.fsame sO
    have zd := Paired.len xds
    have ze := Paired.len xes
    refine ⟨_, rfl, _, rfl, dl, rfl, ⟨_, SqL.of hdO⟩, fun G3 hG3 => lc_list (K := K) (a := dl) (xs := ds.map V.ref) (fun i H' => Same HO' H' ∧ ∃ ts : List Addr, H' G3 = some (.lst (ts.map V.ref)) ∧ Found Cs vals (fl HO') H' (LD.take i) ts) ⟨same_new hG3, [], upd_same, .nil⟩ (fun i H' _ ⟨s', _⟩ => SqL.of (s' _ _ hdO)) ?_ ?_⟩
    · rintro i x H' hi ⟨sF, ts, hF', fd⟩
      obtain ⟨e, he, rfl⟩ := mapref_get hi
      have i2 : i < 2 := by
        have := (List.getElem?_eq_some_iff.mp he).1
        rw [← zd] at this
        exact this
      refine ⟨rfl, yesT ?_⟩
      refine elt_read2 T I (m := 6) (i := i) (c := 13) (f := "at") (L := LD) (D := D) (e := e) (vals := vals) ?_ ?_ (sF _ _ hTO) he (xdO.same sF) (LD_at i i2) (by decide) (by decide +kernel) ?_
      · rfl
      · rfl
      intro t v v' H2 s2 hv ht hw hx
      refine ⟨ts.map V.ref, s2 _ _ hF', ?_, fun b o z => ?_, ts ++ [t], ?_, ?_⟩
      · have z := Paired.len fd
        rw [List.length_take] at z
        exact lt100 (by rw [List.length_map]; omega)
      · rw [upd_ne (ne_of_none z hG3)]
        exact s2 _ _ (sF _ _ z)
      · rw [upd_same, List.map_append]
        rfl
      · rw [take_succ (LD_at i i2)]
        exact Found.put (Paired.app (fd.same s2) (.cons ⟨e, v, v', hv, ht, hw, hx⟩ .nil)) (s2 _ _ hF')
    rintro HP ⟨sP, ts3, hG3', fd3⟩
    have fd3 := fd3.wsame (fl_mono sP)
    rw [List.length_map, ← zd] at fd3
    have z3 := Paired.len fd3
    have sHP : Same HM HP := sN.trans (sO.trans sP)
    refine ⟨M, G3, _, _, rfl, rfl, sHP _ _ hMe, hG3', small (by rw [List.length_map, List.length_map, ← z3, zM]; decide), fun M2 hM2 => ?_⟩
    have hM2e : upd HP M2 (.lst (tsM.map V.ref ++ ts3.map V.ref)) M2 = some (.lst ((tsM ++ ts3).map V.ref)) := by rw [upd_same, List.map_append]
    have sM2 := same_new (o := .lst (tsM.map V.ref ++ ts3.map V.ref)) hM2
    have fdM2 : Found Cs vals (fl (upd HP M2 (.lst (tsM.map V.ref ++ ts3.map V.ref)))) (upd HP M2 (.lst (tsM.map V.ref ++ ts3.map V.ref))) (L24 ++ L12 ++ LD) (tsM ++ ts3) := Paired.app (fdM.fsame (sHP.trans sM2)) (fd3.fsame sM2)
    have sH2 : Same H1 (upd HP M2 (.lst (tsM.map V.ref ++ ts3.map V.ref))) := sH.trans (sHP.trans sM2)
    have hTM2 := sM2 _ _ (sP _ _ hTO)
    have heM2 := sM2 _ _ (sP _ _ hes)
    have xeM2 := xes.fsame (sP.trans sM2)
    have zM2 : (tsM ++ ts3).length = 38 := by rw [List.length_append, ← z3, zM]; decide
    generalize tsM ++ ts3 = tsN at hM2e fdM2 zM2
    generalize upd HP M2 (.lst (tsM.map V.ref ++ ts3.map V.ref)) = HQ at hM2e fdM2 sH2 hTM2 heM2 xeM2
    refine ⟨_, rfl, _, rfl, el, rfl, ⟨_, SqL.of heM2⟩, fun G4 hG4 => lc_list (K := K) (a := el) (xs := es.map V.ref) (fun i H' => Same HQ H' ∧ ∃ ts : List Addr, H' G4 = some (.lst (ts.map V.ref)) ∧ Found Cs vals (fl HQ) H' (LC.take i) ts) ⟨same_new hG4, [], upd_same, .nil⟩ (fun i H' _ ⟨s', _⟩ => SqL.of (s' _ _ heM2)) ?_ ?_⟩
    · rintro i x H' hi ⟨sF, ts, hF', fd⟩
      obtain ⟨e, he, rfl⟩ := mapref_get hi
      have i2 : i < 2 := by
        have := (List.getElem?_eq_some_iff.mp he).1
        rw [← ze] at this
        exact this
      refine ⟨rfl, yesT ?_⟩
      refine elt_read2 T I (m := 7) (i := i) (c := 15) (f := "word") (L := LC) (D := D) (e := e) (vals := vals) ?_ ?_ (sF _ _ hTM2) he (xeM2.same sF) (LC_at i i2) (by decide) (by decide +kernel) ?_
      · rfl
      · rfl
      intro t v v' H2 s2 hv ht hw hx
      refine ⟨ts.map V.ref, s2 _ _ hF', ?_, fun b o z => ?_, ts ++ [t], ?_, ?_⟩
      · have z := Paired.len fd
        rw [List.length_take] at z
        exact lt100 (by rw [List.length_map]; omega)
      · rw [upd_ne (ne_of_none z hG4)]
        exact s2 _ _ (sF _ _ z)
      · rw [upd_same, List.map_append]
        rfl
      · rw [take_succ (LC_at i i2)]
        exact Found.put (Paired.app (fd.same s2) (.cons ⟨e, v, v', hv, ht, hw, hx⟩ .nil)) (s2 _ _ hF')
    rintro HR ⟨sR, ts4, hG4', fd4⟩
    have fd4 := fd4.wsame (fl_mono sR)
    rw [List.length_map, ← ze] at fd4
    have z4 := Paired.len fd4
    refine ⟨M2, G4, _, _, rfl, rfl, sR _ _ hM2e, hG4', small (by rw [List.length_map, List.length_map, ← z4, zM2]; decide), fun Z hZ => ?_⟩
    have sZ := same_new (o := .lst (tsN.map V.ref ++ ts4.map V.ref)) hZ
    have fdZ : Found Cs vals (fl (upd HR Z (.lst (tsN.map V.ref ++ ts4.map V.ref)))) (upd HR Z (.lst (tsN.map V.ref ++ ts4.map V.ref))) (L24 ++ L12 ++ LD ++ LC) (tsN ++ ts4) := Paired.app (fdM2.fsame (sR.trans sZ)) (fd4.fsame sZ)
    have hZe : upd HR Z (.lst (tsN.map V.ref ++ ts4.map V.ref)) Z = some (.lst ((tsN ++ ts4).map V.ref)) := by rw [upd_same, List.map_append]
    have sE1 : Same H1 (upd HR Z (.lst (tsN.map V.ref ++ ts4.map V.ref))) := sH2.trans (sR.trans sZ)
    have nZ : Z ≠ p := (ne_of_none (sR _ _ (sH2 _ _ hP1)) hZ).symm
    generalize upd HR Z (.lst (tsN.map V.ref ++ ts4.map V.ref)) = HZ at fdZ hZe sE1
    have hPZ := sE1 _ _ hP1
    refine k HZ Z (kp.trans (Keep.of sE1)) (pen.keep sE1) ⟨tsN ++ ts4, hide_at nZ hZe, ?_⟩
    rw [oneCl_is]
    have flp : Same (fl HZ) (hide p HZ) := fun b o e => by
      refine hide_at (fun z => ?_) (fl_same _ _ e)
      subst z
      rw [fl_not hPZ rfl] at e
      cases e
    exact Paired.onto fdZ fun x t ⟨e, v, v', h1, h2, hw, d, h3, h4⟩ => ⟨e, v, v', x.2.2, hide_at (ne_of h2 hPZ (fun z => by cases z)) h2, ⟨d, hide_at (ne_of h3 hPZ (fun z => by cases z)) h3, hide_at (ne_of h4 hPZ (fun z => by cases z)) h4⟩, hw.same flp⟩
end
end Kone
namespace Kone
open PySem L2 Gd
def okD0 (d : PyData) : Bool := d.showable && decide (d.shown.length ≤ 1000) && decide (d.depth ≤ 60)
def okL : PyData → Bool
  | .list ds => !ds.isEmpty && ds.all fun e => nice e && okD0 e
  | _ => false
def okD (d : PyData) : Bool := okD0 d && (nice d || okL d)
theorem ok_menu : ∀ d ∈ menuD, okD d = true := by decide +kernel
theorem ok_pair : ∀ d1 ∈ menuD, ∀ d2 ∈ menuD, okD (.list [d1, d2]) = true := by decide +kernel
/-- a list of triples of an error and two equal data: of errors of these classes -/
def Tri (Cs : Nat → Addr) (H : Hp) (l : Addr) (cl : List Nat) : Prop := ∃ ts : List Addr, H l = some (.lst (ts.map V.ref)) ∧
  Paired (fun (c : Nat) (t : Addr) => ∃ (e : Addr) (x y : V) (d : PyData) (n : Nat), H t = some (.tup [.ref e, x, y]) ∧ XAt H e (Cs c) ∧ Dq H n false x d ∧ Dq H n false y d ∧ okD d = true) cl ts
theorem Tri.same {Cs : Nat → Addr} {H H' : Hp} {l : Addr} {cl : List Nat} (x : Tri Cs H l cl) (s : Same H H') : Tri Cs H' l cl := by
  obtain ⟨ts, h1, h2⟩ := x
  exact ⟨ts, s _ _ h1, L2.Paired.mapP h2 fun _ _ ⟨e, x, y, d, n, q1, q2, q3, q4, q5⟩ => ⟨e, x, y, d, n, s _ _ q1, q2.same s, Dq.same s q3, Dq.same s q4, q5⟩⟩
def gKey2 {α : Type} (us ws : List α) : List α := match us, ws with
  | [u], [w1, w2] => [u, w2, w1]
  | _, _ => []
structure I2 (P : Program) (w : World) (K : PySem.W.Frag) (mg : Str → Option Value) (base : Heap) (C : Addr) (f1 f2 : Str) : Prop where
  ex : ∃ (fI : Addr) (fd : FuncData), PySem.W.findIn K (.ref C) "__init__" = some (some (.ref fI)) ∧ PySem.W.typeIn K (.ref fI) = some (.type "function") ∧ FnOk P w K mg base CX0 4 fI fd ["self", f1, f2] (spI2 K f1 f2) ∧
    KBinds K fd ["self", f1, f2] [] gPos gPos ∧ KBinds K fd ["self", f1, f2] [f2, f1] gKey2 gKey2
  n1 : PySem.W.findIn K (.ref C) f1 = some none
  n2 : PySem.W.findIn K (.ref C) f2 = some none
section
variable {X : Cx} {S : Addr} {Cs : Nat → Addr}
theorem made2 {K : PySem.W.Frag} {C : Addr} {f1 f2 : Str} (O : OexC K C) (n1 : PySem.W.findIn K (.ref C) f1 = some none) (n2 : PySem.W.findIn K (.ref C) f2 = some none) {v1 v2 : V} {d1 d2 : PyData} {G H1 : Hp} {Q : VK} (sG : Same G H1) (hq1 : Dq G 2 false v1 d1) (hq2 : Dq G 2 false v2 d2)
    (k : ∀ (a : Addr) (H' : Hp) (v1' v2' : V), Same H1 H' → H1 a = none → ExAt H' a C [(f2, v2'), (f1, v1')] → Dq H' 2 false v1' d1 → Dq H' 2 false v2' d2 → Q (.ref a) H') :
    ∀ a, H1 a = none → spI2 K f1 f2 [.ref a, v1, v2] (upd H1 a (exo a C none)) (fun u H3 => u = .non ∧ Q (.ref a) H3) (fun _ _ _ => False) := by
  intro a ha
  refine ⟨a, C, v1, v2, d1, d2, G, rfl, O, n1, n2, upd_same, fun b o e => ?_, sG.free ha, hq1, hq2, fun Hf v1' v2' dd s e1 e2 q1 q2 => ⟨rfl, k a Hf v1' v2' (fun b o e => ?_) ha ⟨dd, e1, e2⟩ q1 q2⟩⟩
  · rw [upd_ne (ne_of_none (sG _ _ e) ha)]
    exact sG _ _ e
  · exact s _ _ (hide_at (ne_of_none e ha) (by rw [upd_ne (ne_of_none e ha)]; exact e))
def tEx2 (C : Addr) (f1 f2 : Str) : TE := fun σ H Q => ∃ (v1 v2 : V), σ[1]? = some (some v1) ∧ σ[2]? = some (some v2) ∧ MenuIn (fl H) v1 ∧ MenuIn (fl H) v2 ∧ ∀ (a : Addr) (H' : Hp) (v1' v2' : V), Same H H' → H a = none → ExAt H' a C [(f2, v2'), (f1, v1')] → Tw (fl H') v1 v1' → Tw (fl H') v2 v2' → Q (.ref a) H'
theorem pe_ex2 {C : Addr} {f1 f2 x : Str} {p1 p2 p3 p5 : Pos} (T : XC X.K X.mg S x C) (I : I2 X.prog X.w X.K X.mg X.base C f1 f2) (hr : Room 5 X.A) (hN : X.N[1]? = some ("_law_one" : Str)) (hM : X.N[2]? = some ("_law_two" : Str)) (hv : Vis X.env.scope "_law_one") (hw : Vis X.env.scope "_law_two")
    (hg : Gl X x := by rfl) (hdb : (x == ("__debug__" : Str)) = false := by decide) : PE X (.Call (.Name x p1) [.Name "_law_one" p2, .Name "_law_two" p3] [] p5) (tEx2 C f1 f2) := by
  obtain ⟨fI, fd, h1, h2, h3, h4, h5⟩ := I.ex
  refine pe_weak (pe_mkX T.o h1 h2 h3 hr h4 pass0 hg T.g (pa_cons (pv 1 hN hv) (pa_cons (pv 2 hM hw) pa_nil)) hdb) ?_
  intro σ H Q ⟨v1, v2, hs1, hs2, ⟨d1, m1, q1⟩, ⟨d2, m2, q2⟩, k⟩
  exact ⟨_, hs1, _, hs2, by show 2 ≤ 1000; decide, made2 T.o I.n1 I.n2 fl_same q1 q2 fun a H' v1' v2' s n x r1 r2 => k a H' v1' v2' s n x (Tw.fl ⟨d1, m1, Dq.same s (Dq.same fl_same q1), r1⟩) (Tw.fl ⟨d2, m2, Dq.same s (Dq.same fl_same q2), r2⟩)⟩
theorem pe_ex2K {C : Addr} {f1 f2 x : Str} {p1 p2 p3 p5 p6 p7 : Pos} (T : XC X.K X.mg S x C) (I : I2 X.prog X.w X.K X.mg X.base C f1 f2) (hr : Room 5 X.A) (hN : X.N[1]? = some ("_law_one" : Str)) (hM : X.N[2]? = some ("_law_two" : Str)) (hv : Vis X.env.scope "_law_one") (hw : Vis X.env.scope "_law_two")
    (hg : Gl X x := by rfl) (hdb : (x == ("__debug__" : Str)) = false := by decide) : PE X (.Call (.Name x p1) [] [⟨some f2, .Name "_law_two" p2, p6⟩, ⟨some f1, .Name "_law_one" p3, p7⟩] p5) (tEx2 C f1 f2) := by
  obtain ⟨fI, fd, h1, h2, h3, h4, h5⟩ := I.ex
  refine pe_weak (pe_mkXK T.o h1 h2 h3 hr h5 pass0 hg T.g (pk_cons (pv 2 hM hw) (pk_cons (pv 1 hN hv) pk_nil)) rfl rfl hdb) ?_
  intro σ H Q ⟨v1, v2, hs1, hs2, ⟨d1, m1, q1⟩, ⟨d2, m2, q2⟩, k⟩
  exact ⟨_, hs2, _, hs1, by show 0 ≤ 1000; decide, made2 T.o I.n1 I.n2 fl_same q1 q2 fun a H' v1' v2' s n x r1 r2 => k a H' v1' v2' s n x (Tw.fl ⟨d1, m1, Dq.same s (Dq.same fl_same q1), r1⟩) (Tw.fl ⟨d2, m2, Dq.same s (Dq.same fl_same q2), r2⟩)⟩
/-- [C(one, two), C(b=two, a=one)] -/
def tTwoL (C : Addr) (f1 f2 : Str) : TE := fun σ H Q => ∃ (v1 v2 : V), σ[1]? = some (some v1) ∧ σ[2]? = some (some v2) ∧ MenuIn (fl H) v1 ∧ MenuIn (fl H) v2 ∧ ∀ (l a b : Addr) (H' : Hp), Same H H' → H' l = some (.lst [.ref a, .ref b]) → (∃ x1 x2, ExAt H' a C [(f2, x2), (f1, x1)] ∧ Tw (fl H') v1 x1 ∧ Tw (fl H') v2 x2) →
  (∃ x1 x2, ExAt H' b C [(f2, x2), (f1, x1)] ∧ Tw (fl H') v1 x1 ∧ Tw (fl H') v2 x2) → Q (.ref l) H'
theorem pe_twoL {C : Addr} {f1 f2 : Str} {e1 e2 : Expr} {pos : Pos} (h1 : PE X e1 (tEx2 C f1 f2)) (h2 : PE X e2 (tEx2 C f1 f2)) (q1 : starEach [e1, e2] X.env = (false, eval e1 X.env) :: starEach [e2] X.env := by rfl)
    (q2 : starEach [e2] X.env = (false, eval e2 X.env) :: starEach [] X.env := by rfl) : PE X (.List [e1, e2] pos) (tTwoL C f1 f2) := by
  refine pe_weak (pe_lst (pa_cons h1 (pa_cons h2 pa_nil q2) q1)) ?_
  intro σ H Q ⟨v1, v2, hs1, hs2, m1, m2, k⟩
  refine ⟨v1, v2, hs1, hs2, m1, m2, fun a H1 x1 x2 s1 _ ex wx1 wx2 => ⟨v1, v2, hs1, hs2, m1.same (fl_mono s1), m2.same (fl_mono s1), fun b H2 y1 y2 s2 _ ey wy1 wy2 => ⟨by show 2 ≤ sizeLine; decide, fun l hl => ?_⟩⟩⟩
  have s3 := same_new (o := .lst [.ref a, .ref b]) hl
  exact k l a b _ (s1.trans (s2.trans s3)) upd_same ⟨x1, x2, (ex.same s2).same s3, (wx1.same (fl_mono s2)).same (fl_mono s3), (wx2.same (fl_mono s2)).same (fl_mono s3)⟩ ⟨y1, y2, ey.same s3, wy1.same (fl_mono s3), wy2.same (fl_mono s3)⟩
end
end Kone
namespace Kone
open PySem L2 Gd
def tElt2 (K : PySem.W.Frag) (f1 f2 : Str) : TE := tTup (tCons (tVar 6) (tCons (tLstN (tCons (tVar 1) (tCons (tVar 2) tNil))) (tCons (tLstN (tCons (tXf K f1 (tVar 6)) (tCons (tXf K f2 (tVar 6)) tNil))) tNil)))
def spTwos (Cs : Nat → Addr) : Sp := fun vs H Q _ => ∃ (p c : Addr) (n : Nat), vs = [.ref p] ∧ Pen H p c n ∧ n ≤ 1000 ∧ ∀ (H' : Hp) (l : Addr), Keep p H H' → Tri Cs H' l [14, 14, 22, 22] → Q (.ref l) H'
section
variable {P : Program} {w : World} {K : PySem.W.Frag} {mg : Str → Option Value} {base : Heap} {S : Addr} {Cs : Nat → Addr}
/-- what the loop over two errors finds -/
def Fnd2 (Cs : Nat → Addr) (x y : V) (G : Addr) (W H : Hp) (cl : List Nat) (ts : List Addr) : Prop :=
  Paired (fun (c : Nat) (t : Addr) => ∃ (e a1 a2 : Addr) (x' y' : V), H t = some (.tup [.ref e, .ref a1, .ref a2]) ∧ XAt H e (Cs c) ∧ H a1 = some (.lst [x, y]) ∧ H a2 = some (.lst [x', y']) ∧ Tw W x x' ∧ Tw W y y' ∧ a1 ≠ G ∧ a2 ≠ G) cl ts
theorem Fnd2.same {x y : V} {G : Addr} {W H H' : Hp} {cl : List Nat} {ts : List Addr} (h : Fnd2 Cs x y G W H cl ts) (s : Same H H') : Fnd2 Cs x y G W H' cl ts :=
  L2.Paired.mapP h fun _ _ ⟨e, a1, a2, x', y', q1, q2, q3, q4, q5⟩ => ⟨e, a1, a2, x', y', s _ _ q1, q2.same s, s _ _ q3, s _ _ q4, q5⟩
theorem Fnd2.wsame {x y : V} {G : Addr} {W W' H : Hp} {cl : List Nat} {ts : List Addr} (h : Fnd2 Cs x y G W H cl ts) (s : Same W W') : Fnd2 Cs x y G W' H cl ts :=
  L2.Paired.mapP h fun _ _ ⟨e, a1, a2, x', y', q1, q2, q3, q4, q5, q6, q7⟩ => ⟨e, a1, a2, x', y', q1, q2, q3, q4, q5.same s, q6.same s, q7⟩
theorem Fnd2.put {x y : V} {G : Addr} {W H : Hp} {cl : List Nat} {ts : List Addr} {xs ys : List V} (h : Fnd2 Cs x y G W H cl ts) (hG : H G = some (.lst xs)) : Fnd2 Cs x y G W (upd H G (.lst ys)) cl ts :=
  L2.Paired.mapP h fun _ t ⟨e, a1, a2, x', y', q1, q2, q3, q4, q5, q6, q7, q8⟩ => by
    have n1 : t ≠ G := ne_of q1 hG (fun z => by cases z)
    refine ⟨e, a1, a2, x', y', by rw [upd_ne n1]; exact q1, ?_, by rw [upd_ne q7]; exact q3, by rw [upd_ne q8]; exact q4, q5, q6, q7, q8⟩
    rcases q2 with ⟨fs, d, h1, h2⟩ | h1
    · have n2 : e ≠ G := ne_of h1 hG (fun z => by cases z)
      have n3 : d ≠ G := ne_of h2 hG (fun z => by cases z)
      exact .inl ⟨fs, d, by rw [upd_ne n2]; exact h1, by rw [upd_ne n3]; exact h2⟩
    · have n2 : e ≠ G := ne_of h1 hG (fun z => by cases z)
      exact .inr (by rw [upd_ne n2]; exact h1)
theorem elt_read3 {σ : L2.St} {c : Nat} {f1 f2 : Str} {e : Addr} {x y x' y' : V} {H' : Hp} {Q : VK} (T : Txt K mg S Cs) (I : I2 P w K mg base (Cs c) f1 f2) (hc : c < 23) (ne : (f1 == f2) = false) (h1 : σ[1]? = some (some x)) (h2 : σ[2]? = some (some y)) (h6 : σ[6]? = some (some (.ref e)))
    (hx : ExAt H' e (Cs c) [(f2, y'), (f1, x')]) (k : ∀ (t a1 a2 : Addr) (H2 : Hp), Same H' H2 → H' a1 = none → H' a2 = none → H2 t = some (.tup [.ref e, .ref a1, .ref a2]) → H2 a1 = some (.lst [x, y]) → H2 a2 = some (.lst [x', y']) → Q (.ref t) H2) :
    tElt2 K f1 f2 σ H' Q := by
  have k1 : List.lookup f1 [(f2, y'), (f1, x')] = some x' := by simp [List.lookup, ne]
  have k2 : List.lookup f2 [(f2, y'), (f1, x')] = some y' := by simp [List.lookup]
  have sz : ∀ n : Nat, n ≤ 3 → n ≤ sizeLine := fun n h => Nat.le_trans h (by decide)
  refine ⟨_, h6, _, h1, _, h2, sz 2 (by decide), fun a1 ha1 n1 => ?_⟩
  have s1 := same_new (o := .lst [x, y]) ha1
  have e1 : upd H' a1 (.lst [x, y]) a1 = some (.lst [x, y]) := upd_same
  generalize upd H' a1 (.lst [x, y]) = H1 at s1 e1
  refine ⟨_, h6, e, Cs c, _, x', rfl, hx.same s1, (T.c c hc).e, I.n1, k1, _, h6, e, Cs c, _, y', rfl, hx.same s1, (T.c c hc).e, I.n2, k2, sz 2 (by decide), fun a2 ha2 n2 => ⟨sz 3 (by decide), fun t ht => ?_⟩⟩
  have s2 := same_new (o := .lst [x', y']) ha2
  have e2 : upd H1 a2 (.lst [x', y']) a2 = some (.lst [x', y']) := upd_same
  have s3 := same_new (o := .tup [.ref e, .ref a1, .ref a2]) ht
  exact k t a1 a2 _ (s1.trans (s2.trans s3)) ha1 (s1.free ha2) upd_same (s3 _ _ (s2 _ _ e1)) (s3 _ _ e2)
theorem two_at {a b : Addr} {P' : Addr → Prop} (ha : P' a) (hb : P' b) {i : Nat} {x : V} (h : ([.ref a, .ref b] : List V)[i]? = some x) : i < 2 ∧ ∃ e, x = V.ref e ∧ P' e := by
  match i, h with
  | 0, h => cases h; exact ⟨by decide, a, rfl, ha⟩
  | 1, h => cases h; exact ⟨by decide, b, rfl, hb⟩
theorem rep_at (c : Nat) : ∀ i, i < 2 → ([c, c] : List Nat)[i]? = some c
  | 0, _ => rfl
  | 1, _ => rfl
theorem lt100' {n : Nat} (h : n < 100) : n < sizeLine := Nat.lt_of_lt_of_le h (small (by decide))
theorem yesT' {σ : L2.St} {H : Hp} {X Y : Hp → Prop} (h : X H) : tYes σ H (fun b H3 => if b = true then X H3 else Y H3) := by
  show (if true = true then X H else Y H)
  rw [if_pos rfl]
  exact h
theorem take_succ' {α : Type} {xs : List α} {i : Nat} {x : α} (h : xs[i]? = some x) : xs.take (i + 1) = xs.take i ++ [x] := by
  rw [List.take_succ, h]
  rfl
theorem scTwos : FnScope ["_law_pen_here", "_law_one", "_law_two", "_law_texts", "_law_many", "_law_found", "_law_error"] ["_law_pen_here"] (defScope sTwos) := ⟨rfl, rfl, rfl, by decide +kernel, rfl, by decide +kernel, by decide +kernel⟩
theorem ok_twos {f fD fP fA : Addr} {fd fdD fdP fdA : FuncData} (F : Fun K "_law_twos" "_law_twos" sTwos f fd) (T : Txt K mg S Cs) (I14 : I2 P w K mg base (Cs 14) "line" "word") (I22 : I2 P w K mg base (Cs 22) "what" "most") (UD : Def K mg "_law_draw" sDraw ["_law_pen_here", "_law_many"] fD fdD)
    (UP : Def K mg "_law_pick" sPick ["_law_pen_here", "_law_some"] fP fdP) (UA : Def K mg "_law_any" sAny ["_law_pen_here"] fA fdA) : FnOk P w K mg base CX0 6 f fd ["_law_pen_here"] (spTwos Cs) := by
  have GA : FnOk P w K mg base CX0 3 fA fdA ["_law_pen_here"] spAny := ok_any UA.F T UD UP
  have v1 : Vis (defScope sTwos) "_law_one" := Or.inr (Or.inl rfl)
  have v2 : Vis (defScope sTwos) "_law_two" := Or.inr (Or.inl rfl)
  refine F.ok scTwos (fun vs H Q E h => ?_) (fun cdv A outer s H vs Q E hr h => ?_)
  · obtain ⟨p, c, n, rfl, _⟩ := h
    rfl
  · obtain ⟨p, c, n, rfl, hp, hn, k⟩ := h
    have hr2 : Room 5 (A.deeper (PyProof.Rows.envOfC "_law_twos" (defScope sTwos) s.heap.objs.size f cdv)) := hr
    have hr3 : Room 3 (A.deeper (PyProof.Rows.envOfC "_law_twos" (defScope sTwos) s.heap.objs.size f cdv)) := hr.mono (by decide)
    refine ⟨_, (pss_cons (ps_asg (pe_tup (pa_cons (pe_call GA hr3 rfl UA.g UA.k UA.b .nil pass0 (pa_cons (pv 0) pa_nil)) (pa_cons (pe_call GA hr3 rfl UA.g UA.k UA.b .nil pass0 (pa_cons (pv 0) pa_nil)) pa_nil))) (pg_tup rfl (pgs_cons (pg_name (i := 1) scTwos.nd rfl (Or.inr rfl)) (pgs_cons (pg_name (i := 2) scTwos.nd rfl (Or.inr rfl)) pgs_nil))))
      (pss_cons (ps_set (i := 3) scTwos.nd rfl (Or.inl rfl) (pe_twoL (C := Cs 14) (f1 := "line") (f2 := "word") (pe_ex2 (T.c 14 (by decide)) I14 hr2 rfl rfl v1 v2) (pe_ex2K (T.c 14 (by decide)) I14 hr2 rfl rfl v1 v2)))
      (pss_cons (ps_set (i := 4) scTwos.nd rfl (Or.inl rfl) (pe_twoL (C := Cs 22) (f1 := "what") (f2 := "most") (pe_ex2 (T.c 22 (by decide)) I22 hr2 rfl rfl v1 v2) (pe_ex2K (T.c 22 (by decide)) I22 hr2 rfl rfl v1 v2)))
      (pss_cons (ps_setLc (i := 5) (own := [("_law_error", 6)]) (g := gName 6) (tt := tYes) (te := (tElt2 K "line" "word")) rfl scTwos.nd rfl rfl (sw_true rfl rfl rfl (by decide +kernel)) (pi_list (pv 3)) (blkOk_by (N := ["_law_pen_here", "_law_one", "_law_two", "_law_texts", "_law_many", "_law_found", "_law_error"]) (sc := defScope sTwos) (by decide +kernel)) (fun _ _ _ _ _ => pg_name (i := 6) scTwos.nd rfl (Or.inl rfl)) (fun _ _ _ _ _ => pts_nil) (fun _ _ _ _ _ => (pe_tup (pa_cons (pv 6) (pa_cons (pe_lstN (pa_cons (pv 1) (pa_cons (pv 2) pa_nil))) (pa_cons (pe_lstN (pa_cons (pe_xf (pv 6)) (pa_cons (pe_xf (pv 6)) pa_nil))) pa_nil))))))
      (pss_one (ps_ret (pe_op op_cat (pv 5) (pe_lc (own := [("_law_error", 6)]) (g := gName 6) (tt := tYes) (te := (tElt2 K "what" "most")) rfl scTwos.nd (pi_list (pv 4)) (blkOk_by (N := ["_law_pen_here", "_law_one", "_law_two", "_law_texts", "_law_many", "_law_found", "_law_error"]) (sc := defScope sTwos) (by decide +kernel)) (fun _ _ _ _ _ => pg_name (i := 6) scTwos.nd rfl (Or.inl rfl)) (fun _ _ _ _ _ => pts_nil) (fun _ _ _ _ _ => (pe_tup (pa_cons (pv 6) (pa_cons (pe_lstN (pa_cons (pv 1) (pa_cons (pv 2) pa_nil))) (pa_cons (pe_lstN (pa_cons (pe_xf (pv 6)) (pa_cons (pe_xf (pv 6)) pa_nil))) pa_nil))))))))))))), ?_⟩
    obtain ⟨cs, a0, g0, hP, hC, hcp, _⟩ := id hp
    refine ⟨_, rfl, p, c, n, rfl, hp, by omega, fun H1 x kp1 pen1 mx => ⟨_, rfl, p, c, n + 1, rfl, pen1, by omega, fun H2 y kp2 pen2 my => ⟨small (by show 2 ≤ 1000; decide), fun t ht => ⟨t, _, rfl, SqT.of upd_same, rfl, _, _, rfl, _, _, rfl, rfl, ?_⟩⟩⟩⟩
    show tSeq _ _ _ [some (.ref p), some x, some y, none, none, none, none] _
    have s3 := same_new (o := .tup [x, y]) ht
    have mx2 : MenuIn H2 x := mx.same fun b o e => kp2 b o (ne_of_none hP (newIn_of e).1).symm (newIn_of e).2
    have my2 : MenuIn H2 y := my.same fun b o e => (newIn_of e).2
    have mx3 := mx2.fl.same (fl_mono s3)
    have my3 := my2.fl.same (fl_mono s3)
    refine ⟨x, y, rfl, rfl, mx3, my3, fun l a b H4 s4 hl xa xb => ?_⟩
    show tSeq _ _ _ [some (.ref p), some x, some y, some (.ref l), none, none, none] _
    refine ⟨x, y, rfl, rfl, mx3.same (fl_mono s4), my3.same (fl_mono s4), fun l2 a2 b2 H5 s5 hl2 xa2 xb2 => ?_⟩
    have fs5 : ∀ {e : Addr} {C : Addr} {f1 f2 : Str} {H H' : Hp}, Same H H' → (∃ x1 x2, ExAt H e C [(f2, x2), (f1, x1)] ∧ Tw (fl H) x x1 ∧ Tw (fl H) y x2) → ∃ x1 x2, ExAt H' e C [(f2, x2), (f1, x1)] ∧ Tw (fl H') x x1 ∧ Tw (fl H') y x2 := fun s ⟨x1, x2, h1, h2, h3⟩ => ⟨x1, x2, h1.same s, h2.same (fl_mono s), h3.same (fl_mono s)⟩
    show tSeq _ _ _ [some (.ref p), some x, some y, some (.ref l), some (.ref l2), none, none] _
    have hl5 := s5 _ _ hl
    refine ⟨_, rfl, l, rfl, ⟨_, SqL.of hl5⟩, fun G1 hG1 => lc_list (K := K) (a := l) (xs := [.ref a, .ref b]) (fun i H' => Same H5 H' ∧ ∃ ts : List Addr, H' G1 = some (.lst (ts.map V.ref)) ∧ Fnd2 Cs x y G1 (fl H5) H' ([14, 14].take i) ts) ⟨same_new hG1, [], upd_same, .nil⟩ (fun i H' _ ⟨s', _⟩ => SqL.of (s' _ _ hl5)) ?_ ?_⟩
    · rintro i v H' hi ⟨sF, ts, hF', fd⟩
      obtain ⟨i2, e, rfl, x1, x2, hx, wx, wy⟩ := two_at (P' := fun e => ∃ x1 x2, ExAt H5 e (Cs 14) [("word", x2), ("line", x1)] ∧ Tw (fl H5) x x1 ∧ Tw (fl H5) y x2) (fs5 s5 xa) (fs5 s5 xb) hi
      refine ⟨rfl, yesT' ?_⟩
      refine elt_read3 (c := 14) (f1 := "line") (f2 := "word") (e := e) (x := x) (y := y) (x' := x1) (y' := x2) T I14 (by decide) (by decide) ?_ ?_ ?_ (hx.same sF) ?_
      · rfl
      · rfl
      · rfl
      intro t a1 a2 H2 s2 n1 n2 ht h1 h2
      have g1 := (ne_of_none hF' n1).symm
      have g2 := (ne_of_none hF' n2).symm
      refine ⟨ts.map V.ref, s2 _ _ hF', ?_, fun b o z => ?_, ts ++ [t], ?_, ?_⟩
      · have z := Paired.len fd
        rw [List.length_take] at z
        exact lt100' (by rw [List.length_map]; omega)
      · rw [upd_ne (ne_of_none z hG1)]
        exact s2 _ _ (sF _ _ z)
      · rw [upd_same, List.map_append]
        rfl
      · rw [take_succ' (rep_at 14 i i2)]
        exact Fnd2.put (Paired.app (fd.same s2) (.cons ⟨e, a1, a2, x1, x2, ht, .inl ⟨_, (hx.same sF).same s2⟩, h1, h2, wx, wy, g1, g2⟩ .nil)) (s2 _ _ hF')
    rintro H6 ⟨s6, ts1, hG1', fd1⟩
    have fd1 : Fnd2 Cs x y G1 (fl H6) H6 [14, 14] ts1 := fd1.wsame (fl_mono s6)
    have hl6 := s6 _ _ hl2
    refine ⟨_, rfl, _, rfl, l2, rfl, ⟨_, SqL.of hl6⟩, fun G2 hG2 => lc_list (K := K) (a := l2) (xs := [.ref a2, .ref b2]) (fun i H' => Same H6 H' ∧ ∃ ts : List Addr, H' G2 = some (.lst (ts.map V.ref)) ∧ Fnd2 Cs x y G2 (fl H6) H' ([22, 22].take i) ts) ⟨same_new hG2, [], upd_same, .nil⟩ (fun i H' _ ⟨s', _⟩ => SqL.of (s' _ _ hl6)) ?_ ?_⟩
    · rintro i v H' hi ⟨sF, ts, hF', fd⟩
      obtain ⟨i2, e, rfl, x1, x2, hx, wx, wy⟩ := two_at (P' := fun e => ∃ x1 x2, ExAt H6 e (Cs 22) [("most", x2), ("what", x1)] ∧ Tw (fl H6) x x1 ∧ Tw (fl H6) y x2) (fs5 s6 xa2) (fs5 s6 xb2) hi
      refine ⟨rfl, yesT' ?_⟩
      refine elt_read3 (c := 22) (f1 := "what") (f2 := "most") (e := e) (x := x) (y := y) (x' := x1) (y' := x2) T I22 (by decide) (by decide) ?_ ?_ ?_ (hx.same sF) ?_
      · rfl
      · rfl
      · rfl
      intro t a1 a2 H2 s2 n1 n2 ht h1 h2
      have g1 := (ne_of_none hF' n1).symm
      have g2 := (ne_of_none hF' n2).symm
      refine ⟨ts.map V.ref, s2 _ _ hF', ?_, fun b o z => ?_, ts ++ [t], ?_, ?_⟩
      · have z := Paired.len fd
        rw [List.length_take] at z
        exact lt100' (by rw [List.length_map]; omega)
      · rw [upd_ne (ne_of_none z hG2)]
        exact s2 _ _ (sF _ _ z)
      · rw [upd_same, List.map_append]
        rfl
      · rw [take_succ' (rep_at 22 i i2)]
        exact Fnd2.put (Paired.app (fd.same s2) (.cons ⟨e, a1, a2, x1, x2, ht, .inl ⟨_, (hx.same sF).same s2⟩, h1, h2, wx, wy, g1, g2⟩ .nil)) (s2 _ _ hF')
    rintro H7 ⟨s7, ts2, hG2', fd2⟩
    have fd2 : Fnd2 Cs x y G2 (fl H7) H7 [22, 22] ts2 := fd2.wsame (fl_mono s7)
    have z1 := Paired.len fd1
    have z2 := Paired.len fd2
    refine ⟨G1, G2, _, _, rfl, rfl, s7 _ _ hG1', hG2', small (by rw [List.length_map, List.length_map, ← z1, ← z2]; decide), fun Z hZ => ?_⟩
    have sZ := same_new (o := .lst (ts1.map V.ref ++ ts2.map V.ref)) hZ
    have hZe : upd H7 Z (.lst (ts1.map V.ref ++ ts2.map V.ref)) Z = some (.lst ((ts1 ++ ts2).map V.ref)) := by rw [upd_same, List.map_append]
    generalize upd H7 Z (.lst (ts1.map V.ref ++ ts2.map V.ref)) = HZ at sZ hZe
    have sA : Same H2 HZ := s3.trans (s4.trans (s5.trans (s6.trans (s7.trans sZ))))
    have conv : ∀ (G : Addr) (cl : List Nat) (ts : List Addr), Fnd2 Cs x y G (fl HZ) HZ cl ts → Paired (fun (c : Nat) (t : Addr) => ∃ (e : Addr) (x y : V) (d : PyData) (n : Nat), HZ t = some (.tup [.ref e, x, y]) ∧ XAt HZ e (Cs c) ∧ Dq HZ n false x d ∧ Dq HZ n false y d ∧ okD d = true) cl ts := fun G cl ts h =>
      L2.Paired.mapP h fun _ _ ⟨e, a1, a2, x', y', h1, h2, h3, h4, ⟨d1, i1, p1, p1'⟩, ⟨d2, i2, p2, p2'⟩, _⟩ => ⟨e, .ref a1, .ref a2, .list [d1, d2], 3, h1, h2,
        .inr (.inl ⟨rfl, a1, _, _, rfl, rfl, h3, .cons (Dq.same fl_same p1) (.cons (Dq.same fl_same p2) .nil), by show 2 ≤ 100; decide⟩),
        .inr (.inl ⟨rfl, a2, _, _, rfl, rfl, h4, .cons (Dq.same fl_same p1') (.cons (Dq.same fl_same p2') .nil), by show 2 ≤ 100; decide⟩), ok_pair d1 i1 d2 i2⟩
    refine k HZ Z ((kp1.trans kp2).trans (Keep.of sA)) ⟨ts1 ++ ts2, hZe, ?_⟩
    exact Paired.app (conv G1 [14, 14] ts1 ((fd1.same (s7.trans sZ)).wsame (fl_mono (s7.trans sZ)))) (conv G2 [22, 22] ts2 ((fd2.same sZ).wsame (fl_mono sZ)))
end
end Kone
namespace Kone
open PySem L2 Gd
theorem nm_debug : ∀ i, i < 23 → (nm i == ("__debug__" : Str)) = false := by decide +kernel
/-- ("X", isinstance(error, X)) -/
def tKind (Cs : Nat → Addr) (i : Nat) : TE := fun σ H Q => ∃ (a : Addr) (j : Nat), σ[0]? = some (some (.ref a)) ∧ XAt H a (Cs j) ∧ j < 23 ∧ ∀ (p : Addr) (H' : Hp), Same H H' → H' p = some (.tup [.str (nm i), .bl (decide (i = j))]) → Q (.ref p) H'
section
variable {X : Cx} {S : Addr} {Cs : Nat → Addr}
theorem pe_kind {i k1 k2 : Nat} {p1 p2 p3 p4 p5 p6 : Pos} (T : Txt X.K X.mg S Cs) (hi : i < 23) (hN : X.N[0]? = some ("_law_error" : Str)) (hv : Vis X.env.scope "_law_error") (hg : Gl X "isinstance") (hgi : Gl X (nm i)) :
    PE X (.Tuple [.Constant (.str (nm i)) k1 p1, .Call (.Name "isinstance" p2) [.Name "_law_error" p3, .Name (nm i) p4] [] p5] k2 p6) (tKind Cs i) := by
  refine pe_weak (pe_tup (pa_cons pe_str (pa_cons (pe_callB call_isX hg T.isi PyProof.Rows.boot_isinstance (pa_cons (pv 0 hN hv) (pa_cons (pe_glob (v := .ref (Cs i)) hgi (T.c i hi).g rfl (nm_debug i hi)) pa_nil))) pa_nil))) ?_
  intro σ H Q ⟨a, j, hs, hx, hj, k⟩
  refine ⟨_, hs, a, Cs j, .ref (Cs i), .ref (Cs i), _, rfl, hx, .own _, (T.c j hj).e, T.kit hi hj, by show 2 ≤ sizeLine; decide, fun p hp => ?_⟩
  exact k p _ (same_new hp) upd_same
/-- the list at l holds n of the pairs -/
def KindsL (H : Hp) (l n j : Nat) : Prop := ∃ ps : List Addr, ps.length = n ∧ H l = some (.lst (ps.map V.ref)) ∧ ∀ i p, ps[i]? = some p → H p = some (.tup [.str (nm i), .bl (decide (i = j))])
theorem KindsL.same {H H' : Hp} {l n j : Nat} (x : KindsL H l n j) (s : Same H H') : KindsL H' l n j := by
  obtain ⟨ps, h1, h2, h3⟩ := x
  exact ⟨ps, h1, s _ _ h2, fun i p e => s _ _ (h3 i p e)⟩
/-- where the body stands: error in slot 0 -/
def Knd (Cs : Nat → Addr) (j : Nat) (a : Addr) (H0 H : Hp) : Prop := Same H0 H ∧ XAt H a (Cs j)
/-- [kind i, kind (i + 1)] -/
def tTwo (Cs : Nat → Addr) (i : Nat) : TE := fun σ H Q => ∃ (a : Addr) (j : Nat), σ[0]? = some (some (.ref a)) ∧ XAt H a (Cs j) ∧ j < 23 ∧ ∀ (l p q : Addr) (H' : Hp), Same H H' → H l = none → H' l = some (.lst [.ref p, .ref q]) → H' p = some (.tup [.str (nm i), .bl (decide (i = j))]) →
  H' q = some (.tup [.str (nm (i + 1)), .bl (decide (i + 1 = j))]) → Q (.ref l) H'
theorem pe_two {i : Nat} {e1 e2 : Expr} {pos : Pos} (h1 : PE X e1 (tKind Cs i)) (h2 : PE X e2 (tKind Cs (i + 1))) (q1 : starEach [e1, e2] X.env = (false, eval e1 X.env) :: starEach [e2] X.env := by rfl)
    (q2 : starEach [e2] X.env = (false, eval e2 X.env) :: starEach [] X.env := by rfl) : PE X (.List [e1, e2] pos) (tTwo Cs i) := by
  refine pe_weak (pe_lst (pa_cons h1 (pa_cons h2 pa_nil q2) q1)) ?_
  intro σ H Q ⟨a, j, hs, hx, hj, k⟩
  refine ⟨a, j, hs, hx, hj, fun p H1 s1 e1 => ⟨a, j, hs, hx.same s1, hj, fun q H2 s2 e2 => ⟨by show 2 ≤ sizeLine; decide, fun l hl => ?_⟩⟩⟩
  have s3 := same_new (o := .lst [.ref p, .ref q]) hl
  exact k l p q _ (s1.trans (s2.trans s3)) ((s1.trans s2).free hl) upd_same (s3 _ _ (s2 _ _ e1)) (s3 _ _ e2)
/-- [kind 0, kind 1] -/
def tKs0 (Cs : Nat → Addr) : TE := fun σ H Q => ∃ (a : Addr) (j : Nat), σ[0]? = some (some (.ref a)) ∧ XAt H a (Cs j) ∧ j < 23 ∧ ∀ (l : Addr) (H' : Hp), Same H H' → H l = none → KindsL H' l 2 j → Q (.ref l) H'
theorem ps_at {ps : List Addr} {p q : Addr} {i j : Nat} {H : Hp} (h : ∀ i p, ps[i]? = some p → H p = some (.tup [.str (nm i), .bl (decide (i = j))])) (hn : ps.length = i) (hp : H p = some (.tup [.str (nm i), .bl (decide (i = j))]))
    (hq : H q = some (.tup [.str (nm (i + 1)), .bl (decide (i + 1 = j))])) : ∀ k r, (ps ++ [p, q])[k]? = some r → H r = some (.tup [.str (nm k), .bl (decide (k = j))]) := by
  intro k r e
  by_cases c : k < ps.length
  · rw [List.getElem?_append_left c] at e
    exact h k r e
  · rw [List.getElem?_append_right (by omega)] at e
    by_cases c1 : k = i
    · subst c1
      rw [hn, Nat.sub_self] at e
      cases e
      exact hp
    · by_cases c2 : k = i + 1
      · subst c2
        rw [hn, show i + 1 - i = 1 by omega] at e
        cases e
        exact hq
      · have : k - ps.length ≥ 2 := by omega
        rw [List.getElem?_eq_none (by simpa using this)] at e
        cases e
theorem pe_ks0 {e : Expr} (h : PE X e (tTwo Cs 0)) : PE X e (tKs0 Cs) := by
  refine pe_weak h ?_
  intro σ H Q ⟨a, j, hs, hx, hj, k⟩
  refine ⟨a, j, hs, hx, hj, fun l p q H' s hn hl hp hq => k l H' s hn ⟨[p, q], rfl, hl, ?_⟩⟩
  exact ps_at (ps := []) (i := 0) (fun i p e => by simp at e) rfl hp hq
/-- some + [kind i, kind (i + 1)] -/
def tMore (Cs : Nat → Addr) (i : Nat) : TE := fun σ H Q => ∃ (a : Addr) (j l : Nat), σ[0]? = some (some (.ref a)) ∧ σ[1]? = some (some (.ref l)) ∧ XAt H a (Cs j) ∧ j < 23 ∧ KindsL H l i j ∧ ∀ (l : Addr) (H' : Hp), Same H H' → H l = none → KindsL H' l (i + 2) j → Q (.ref l) H'
theorem pe_more {i : Nat} {e : Expr} {p1 p2 : Pos} (hi : i < 100) (h1 : X.N[1]? = some ("_law_some" : Str)) (hv : Vis X.env.scope "_law_some") (he : PE X e (tTwo Cs i)) : PE X (.BinOp (.Name "_law_some" p1) .Add e p2) (tMore Cs i) := by
  refine pe_weak (pe_op op_cat (pv 1 h1 hv) he) ?_
  intro σ H Q ⟨a, j, l, hs0, hs1, hx, hj, ⟨ps, hn, hl, hp⟩, k⟩
  refine ⟨_, hs1, a, j, hs0, hx, hj, fun m p q H' s _ hm ep eq => ?_⟩
  have c : ∀ n : Nat, n ≤ 102 → n ≤ sizeLine := fun n h => Nat.le_trans h (by decide)
  refine ⟨l, m, _, _, rfl, rfl, s _ _ hl, hm, ?_, ?_⟩
  · apply c
    simp
    omega
  intro r hr
  have s2 := same_new (o := .lst (ps.map V.ref ++ [.ref p, .ref q])) hr
  refine k r _ (s.trans s2) (s.free hr) ⟨ps ++ [p, q], by simp [hn], by rw [List.map_append]; exact upd_same, ?_⟩
  exact ps_at (fun i p e => s2 _ _ (s _ _ (hp i p e))) hn (s2 _ _ ep) (s2 _ _ eq)
end
/-- the kinds of an error: the name of its class -/
def spKinds (Cs : Nat → Addr) : Sp := fun vs H Q _ => ∃ (a : Addr) (j : Nat), vs = [.ref a] ∧ XAt H a (Cs j) ∧ j < 23 ∧ ∀ (l : Addr) (H' : Hp), Same H H' → H' l = some (.lst [.str (nm j)]) → Q (.ref l) H'
section
variable {P : Program} {w : World} {K : PySem.W.Frag} {mg : Str → Option Value} {base : Heap} {S : Addr} {Cs : Nat → Addr}
theorem scKinds : FnScope ["_law_error", "_law_some", "_law_name", "_law_is_it"] ["_law_error"] (defScope sKinds) := ⟨rfl, rfl, rfl, by decide +kernel, rfl, by decide +kernel, by decide +kernel⟩
theorem ok_kinds {f : Addr} {fd : FuncData} (F : Fun K "_law_kinds" "_law_kinds" sKinds f fd) (T : Txt K mg S Cs) : FnOk P w K mg base CX0 1 f fd ["_law_error"] (spKinds Cs) := by
  refine F.ok scKinds (fun vs H Q E h => ?_) (fun cdv A outer s H vs Q E hr h => ?_)
  · obtain ⟨a, j, rfl, _⟩ := h
    rfl
  · obtain ⟨a, j, rfl, hx, hj, k⟩ := h
    refine ⟨_, (pss_cons (ps_set (i := 1) scKinds.nd rfl (Or.inl rfl) (pe_ks0 (pe_two (i := 0) (pe_kind (i := 0) T (by decide) rfl (Or.inl rfl) rfl rfl) (pe_kind (i := 1) T (by decide) rfl (Or.inl rfl) rfl rfl))))
      (pss_cons (ps_set (i := 1) scKinds.nd rfl (Or.inl rfl) (pe_more (i := 2) (by decide) rfl (Or.inl rfl) (pe_two (i := 2) (pe_kind (i := 2) T (by decide) rfl (Or.inl rfl) rfl rfl) (pe_kind (i := 3) T (by decide) rfl (Or.inl rfl) rfl rfl))))
      (pss_cons (ps_set (i := 1) scKinds.nd rfl (Or.inl rfl) (pe_more (i := 4) (by decide) rfl (Or.inl rfl) (pe_two (i := 4) (pe_kind (i := 4) T (by decide) rfl (Or.inl rfl) rfl rfl) (pe_kind (i := 5) T (by decide) rfl (Or.inl rfl) rfl rfl))))
      (pss_cons (ps_set (i := 1) scKinds.nd rfl (Or.inl rfl) (pe_more (i := 6) (by decide) rfl (Or.inl rfl) (pe_two (i := 6) (pe_kind (i := 6) T (by decide) rfl (Or.inl rfl) rfl rfl) (pe_kind (i := 7) T (by decide) rfl (Or.inl rfl) rfl rfl))))
      (pss_cons (ps_set (i := 1) scKinds.nd rfl (Or.inl rfl) (pe_more (i := 8) (by decide) rfl (Or.inl rfl) (pe_two (i := 8) (pe_kind (i := 8) T (by decide) rfl (Or.inl rfl) rfl rfl) (pe_kind (i := 9) T (by decide) rfl (Or.inl rfl) rfl rfl))))
      (pss_cons (ps_set (i := 1) scKinds.nd rfl (Or.inl rfl) (pe_more (i := 10) (by decide) rfl (Or.inl rfl) (pe_two (i := 10) (pe_kind (i := 10) T (by decide) rfl (Or.inl rfl) rfl rfl) (pe_kind (i := 11) T (by decide) rfl (Or.inl rfl) rfl rfl))))
      (pss_cons (ps_set (i := 1) scKinds.nd rfl (Or.inl rfl) (pe_more (i := 12) (by decide) rfl (Or.inl rfl) (pe_two (i := 12) (pe_kind (i := 12) T (by decide) rfl (Or.inl rfl) rfl rfl) (pe_kind (i := 13) T (by decide) rfl (Or.inl rfl) rfl rfl))))
      (pss_cons (ps_set (i := 1) scKinds.nd rfl (Or.inl rfl) (pe_more (i := 14) (by decide) rfl (Or.inl rfl) (pe_two (i := 14) (pe_kind (i := 14) T (by decide) rfl (Or.inl rfl) rfl rfl) (pe_kind (i := 15) T (by decide) rfl (Or.inl rfl) rfl rfl))))
      (pss_cons (ps_set (i := 1) scKinds.nd rfl (Or.inl rfl) (pe_more (i := 16) (by decide) rfl (Or.inl rfl) (pe_two (i := 16) (pe_kind (i := 16) T (by decide) rfl (Or.inl rfl) rfl rfl) (pe_kind (i := 17) T (by decide) rfl (Or.inl rfl) rfl rfl))))
      (pss_cons (ps_set (i := 1) scKinds.nd rfl (Or.inl rfl) (pe_more (i := 18) (by decide) rfl (Or.inl rfl) (pe_two (i := 18) (pe_kind (i := 18) T (by decide) rfl (Or.inl rfl) rfl rfl) (pe_kind (i := 19) T (by decide) rfl (Or.inl rfl) rfl rfl))))
      (pss_cons (ps_set (i := 1) scKinds.nd rfl (Or.inl rfl) (pe_more (i := 20) (by decide) rfl (Or.inl rfl) (pe_two (i := 20) (pe_kind (i := 20) T (by decide) rfl (Or.inl rfl) rfl rfl) (pe_kind (i := 21) T (by decide) rfl (Or.inl rfl) rfl rfl))))
      (pss_cons (ps_expr (pe_bm PySem.F.plainAttrs_list PySem.F.slot_list_append PySem.F.type_list_append mt_append (pv 1) (pa_cons (pe_kind (i := 22) T (by decide) rfl (Or.inl rfl) rfl rfl) pa_nil)))
      (pss_one (ps_ret (pe_lc (own := [("_law_name", 2), ("_law_is_it", 3)]) (g := gTup K 2 (gCons (gName 2) (gCons (gName 3) gNil))) (tt := tB (tVar 3)) (te := tVar 2) rfl scKinds.nd (pi_list (pv 1)) (blkOk_by (N := ["_law_error", "_law_some", "_law_name", "_law_is_it"]) (sc := defScope sKinds) (by decide +kernel))
        (fun _ _ _ _ _ => pg_tup rfl (pgs_cons (pg_name (i := 2) scKinds.nd rfl (Or.inl rfl)) (pgs_cons (pg_name (i := 3) scKinds.nd rfl (Or.inl rfl)) pgs_nil))) (fun _ _ _ _ _ => pts_one (pt_val (pv 3))) (fun _ _ _ _ _ => pv 2)))))))))))))))), ?_⟩
    refine ⟨a, j, rfl, hx, hj, fun l1 H1 s1 n1 k1 => ?_⟩
    show tSeq _ _ _ [some (.ref a), some (.ref l1), none, none] _
    refine ⟨a, j, l1, rfl, rfl, hx.same s1, hj, k1, fun l2 H2 t2 m2 k2 => ?_⟩
    show tSeq _ _ _ [some (.ref a), some (.ref l2), none, none] _
    have n2 := s1.free m2
    have s2 := s1.trans t2
    refine ⟨a, j, l2, rfl, rfl, hx.same s2, hj, k2, fun l3 H3 t3 m3 k3 => ?_⟩
    show tSeq _ _ _ [some (.ref a), some (.ref l3), none, none] _
    have n3 := s2.free m3
    have s3 := s2.trans t3
    refine ⟨a, j, l3, rfl, rfl, hx.same s3, hj, k3, fun l4 H4 t4 m4 k4 => ?_⟩
    show tSeq _ _ _ [some (.ref a), some (.ref l4), none, none] _
    have n4 := s3.free m4
    have s4 := s3.trans t4
    refine ⟨a, j, l4, rfl, rfl, hx.same s4, hj, k4, fun l5 H5 t5 m5 k5 => ?_⟩
    show tSeq _ _ _ [some (.ref a), some (.ref l5), none, none] _
    have n5 := s4.free m5
    have s5 := s4.trans t5
    refine ⟨a, j, l5, rfl, rfl, hx.same s5, hj, k5, fun l6 H6 t6 m6 k6 => ?_⟩
    show tSeq _ _ _ [some (.ref a), some (.ref l6), none, none] _
    have n6 := s5.free m6
    have s6 := s5.trans t6
    refine ⟨a, j, l6, rfl, rfl, hx.same s6, hj, k6, fun l7 H7 t7 m7 k7 => ?_⟩
    show tSeq _ _ _ [some (.ref a), some (.ref l7), none, none] _
    have n7 := s6.free m7
    have s7 := s6.trans t7
    refine ⟨a, j, l7, rfl, rfl, hx.same s7, hj, k7, fun l8 H8 t8 m8 k8 => ?_⟩
    show tSeq _ _ _ [some (.ref a), some (.ref l8), none, none] _
    have n8 := s7.free m8
    have s8 := s7.trans t8
    refine ⟨a, j, l8, rfl, rfl, hx.same s8, hj, k8, fun l9 H9 t9 m9 k9 => ?_⟩
    show tSeq _ _ _ [some (.ref a), some (.ref l9), none, none] _
    have n9 := s8.free m9
    have s9 := s8.trans t9
    refine ⟨a, j, l9, rfl, rfl, hx.same s9, hj, k9, fun l10 H10 t10 m10 k10 => ?_⟩
    show tSeq _ _ _ [some (.ref a), some (.ref l10), none, none] _
    have n10 := s9.free m10
    have s10 := s9.trans t10
    refine ⟨a, j, l10, rfl, rfl, hx.same s10, hj, k10, fun l11 H11 t11 m11 k11 => ?_⟩
    show tSeq _ _ _ [some (.ref a), some (.ref l11), none, none] _
    have n11 := s10.free m11
    have s11 := s10.trans t11
    obtain ⟨ps, hn, hl, hp⟩ := k11
    refine ⟨_, rfl, .inl ⟨rfl, _, SqL.of hl⟩, a, j, rfl, hx.same s11, hj, fun t H12 s12 et => ?_⟩
    have hl' := s12 _ _ hl
    refine ⟨l11, _, _, rfl, rfl, hl', ?_, ?_⟩
    · rw [List.length_map, hn]
      decide
    have sB := s11.trans s12
    have nl : H l11 = none := n11
    have e0 : (ps.map V.ref ++ [V.ref t]) = (ps ++ [t]).map V.ref := by rw [List.map_append]; rfl
    have hp' : ∀ i p, (ps ++ [t])[i]? = some p → H12 p = some (.tup [.str (nm i), .bl (decide (i = j))]) := by
      intro i p e
      by_cases c : i < ps.length
      · rw [List.getElem?_append_left c] at e
        exact s12 _ _ (hp i p e)
      · rw [List.getElem?_append_right (by omega)] at e
        by_cases c1 : i = 22
        · subst c1
          rw [hn] at e
          cases e
          exact et
        · rw [List.getElem?_eq_none (by simp; omega)] at e
          cases e
    rw [e0]
    have sC : Same H (upd H12 l11 (.lst ((ps ++ [t]).map V.ref))) := fun b o e => by
      rw [upd_ne (ne_of_none e nl)]
      exact sB _ _ e
    have hC : upd H12 l11 (.lst ((ps ++ [t]).map V.ref)) l11 = some (.lst ((ps ++ [t]).map V.ref)) := upd_same
    have pC : ∀ i p, (ps ++ [t])[i]? = some p → upd H12 l11 (.lst ((ps ++ [t]).map V.ref)) p = some (.tup [.str (nm i), .bl (decide (i = j))]) := fun i p e => by
      have z := hp' i p e
      have ne : p ≠ l11 := ne_of z hl' (by intro q; cases q)
      rw [upd_ne ne]
      exact z
    have len : (ps ++ [t]).length = 23 := by simp [hn]
    generalize ps ++ [t] = qs at sC hC pC len
    generalize upd H12 l11 (.lst (qs.map V.ref)) = HC at sC hC pC
    refine ⟨_, rfl, l11, rfl, ⟨_, SqL.of hC⟩, fun D hD => lc_list (K := K) (a := l11) (xs := qs.map V.ref) (fun i H' => Same HC H' ∧ H' D = some (.lst (if j < i then [.str (nm j)] else []))) ⟨same_new hD, upd_same⟩ (fun i H' _ ⟨s', _⟩ => SqL.of (s' _ _ hC)) ?_ ?_⟩
    · rintro i x H' hi ⟨s', hD'⟩
      obtain ⟨p, hp1, rfl⟩ : ∃ p, qs[i]? = some p ∧ x = V.ref p := by
        rw [List.getElem?_map] at hi
        cases e : qs[i]? with
        | none => rw [e] at hi; cases hi
        | some p => rw [e] at hi; exact ⟨p, rfl, (Option.some.inj hi).symm⟩
      have hi23 : i < 23 := by
        have := (List.getElem?_eq_some_iff.mp hp1).1
        omega
      refine ⟨p, _, rfl, SqT.of (s' _ _ (pC i p hp1)), rfl, _, _, rfl, _, _, rfl, rfl, rfl, _, rfl, _, rfl, ?_⟩
      refine ite2 (fun hd => ?_) (fun hd => ?_)
      · have e : i = j := of_decide_eq_true hd
        subst e
        rw [if_neg (Nat.lt_irrefl _)] at hD'
        refine ⟨_, rfl, [], hD', by show 0 < sizeLine; decide, fun b o q => ?_, ?_⟩
        · rw [upd_ne (ne_of_none q hD)]
          exact s' _ _ q
        · rw [upd_same, if_pos (Nat.lt_succ_self _)]
          rfl
      · have e : i ≠ j := fun z => hd (decide_eq_true z)
        refine ⟨s', ?_⟩
        rw [hD']
        by_cases c : j < i
        · rw [if_pos c, if_pos (by omega)]
        · rw [if_neg c, if_neg (by omega)]
    · rintro H' ⟨s', hD'⟩
      rw [List.length_map, len, if_pos hj] at hD'
      exact k D H' (sC.trans s') hD'
end
end Kone
namespace Kone
open PySem L2 Gd
section
variable {X : Cx}
/-- C(), C without an __init__ of its own -/
theorem pe_exc0 {C : Addr} {bmB : List Value} {B newId initId : String} {x : Str} {p pos : Pos} (F : ExcBaseFacts B newId initId bmB) (q : PySem.W.excIn X.K C bmB newId = true) (gC : X.mg x = some (.ref C)) (kC : PySem.W.keepIn X.K (.ref C) = true) (hg : Gl X x)
    (hdb : (x == ("__debug__" : Str)) = false := by decide) : PE X (.Call (.Name x p) [] [] pos) (fun σ H Q => ∀ a, H a = none → Q (.ref a) (upd H a (exo a C none))) := by
  constructor
  intro pins s σ H Q I h
  apply wpAny_Call_Name_kw
  apply ld_glob I hg gC ?_ hdb
  apply PySem.W.callWith_K0 I.kIn kC
  show wpAny _ _ (call (.ref C) []) _ _ _
  obtain ⟨hp, gs, dr, n, os⟩ := s
  obtain ⟨bm, N, nm, qn, bs, hdct, sn, sub, ab, col, dd, k0, k1, k2, k3, k5, mN, hC, hN, hni, T⟩ := exc_obj I.kIn q
  apply wpAny_call_exc_subT F T hC hN hni
  intro h' a hm
  have hn : H a = none := I.hok.gone hm.new
  obtain ⟨t, ht, _, _⟩ := hm.there
  exact ⟨.ref a, _, I.laidN hm.keeps hm.new hn (exo_ok ht), rfl, h a hn⟩
end
theorem bootRepr : bootBuiltins "repr" = some (.builtin "repr") := by decide +kernel
theorem bootValueError : bootBuiltins "ValueError" = some (.type "ValueError") := by decide +kernel
theorem bootLookupError : bootBuiltins "LookupError" = some (.type "LookupError") := by decide +kernel
theorem bootTypeError : bootBuiltins "TypeError" = some (.type "TypeError") := by decide +kernel
def tRepNe (K : PySem.W.Frag) : TT := tTest (tOp rNe (tCB rRepr (tCons (tOp (rIxT K) (tVar 7) (tC (.int 1))) tNil)) (tCB rRepr (tCons (tOp (rIxT K) (tVar 7) (tC (.int 2))) tNil)))
def tNotSum (K : PySem.W.Frag) (S : Addr) : TT := tOr (tNot (tB (tCB (rIsX K) (tCons (tVar 8) (tCons (tC (.ref S)) tNil))))) (tNot (tB (tCB (rIsX K) (tCons (tVar 8) (tCons (tC (.ty "ValueError")) tNil)))))
def tIsLook (K : PySem.W.Frag) : TT := tOr (tB (tCB (rIsX K) (tCons (tVar 8) (tCons (tC (.ty "LookupError")) tNil)))) (tB (tCB (rIsX K) (tCons (tVar 8) (tCons (tC (.ty "TypeError")) tNil))))
structure Txt2 (K : PySem.W.Frag) (Cs : Nat → Addr) : Prop where
  exn : PySem.W.excIn K (Cs 21) [.type "ValueError", .type "Exception", .type "BaseException", .type "object"] "ValueError.__new__" = true
def spLaw (K : PySem.W.Frag) : Sp := fun vs H Q _ => ∃ (a : Addr) (ns : List Int), vs = [.ref a] ∧ SqL K H a (ns.map V.int) ∧ ∀ H', Q (.bl true) H'
section
variable {P : Program} {w : World} {K : PySem.W.Frag} {mg : Str → Option Value} {base : Heap} {S : Addr} {Cs : Nat → Addr}
theorem noB {b : Bool} {F G : Prop} (hb : b = false) (h : G) : if b = true then F else G := by
  subst hb
  rw [if_neg Bool.false_ne_true]
  exact h
/-! ### from the lists of triples -/
def RT (Cs : Nat → Addr) (H : Hp) (c : Nat) (t : Addr) : Prop := ∃ (e : Addr) (x y : V) (d : PyData) (n : Nat), H t = some (.tup [.ref e, x, y]) ∧ XAt H e (Cs c) ∧ Dq H n false x d ∧ Dq H n false y d ∧ okD d = true
theorem RT.same {H H' : Hp} {c : Nat} {t : Addr} (s : Same H H') (h : RT Cs H c t) : RT Cs H' c t := by
  obtain ⟨e, x, y, d, n, q1, q2, q3, q4, q5⟩ := h
  exact ⟨e, x, y, d, n, s _ _ q1, q2.same s, Dq.same s q3, Dq.same s q4, q5⟩
theorem Trip.tri {H : Hp} {l : Addr} {cl : List Nat} (h : Trip Cs H l cl) : Tri Cs H l cl := by
  obtain ⟨ts, h1, h2⟩ := h
  refine ⟨ts, h1, L2.Paired.mapP h2 fun _ _ ⟨e, v, v', f, q1, q2, d, q3, q4, q5⟩ => ⟨e, v, v', d, 2, q1, .inl ⟨_, q2⟩, q4, q5, ok_menu d q3⟩⟩
theorem Paired.get' {α β : Type} {R : α → β → Prop} : ∀ {xs : List α} {ys : List β} {i : Nat} {y : β}, Paired R xs ys → ys[i]? = some y → ∃ x, xs[i]? = some x ∧ R x y
  | _, _, _, _, .nil, e => by simp at e
  | _, _, 0, _, .cons r _, e => by simp at e; subst e; exact ⟨_, rfl, r⟩
  | _, _, i + 1, y, .cons _ t, e => by
    obtain ⟨x, h1, h2⟩ := Paired.get' (i := i) (y := y) t (by simpa using e)
    exact ⟨x, by simpa using h1, h2⟩
theorem okD0_of {d : PyData} (h : okD0 d = true) : d.showable = true ∧ d.shown.length ≤ sizeLine ∧ d.depth ≤ 60 := by
  unfold okD0 at h
  simp only [Bool.and_eq_true, decide_eq_true_eq] at h
  exact ⟨h.1.1, small h.1.2, h.2⟩
theorem okD_of {d : PyData} (h : okD d = true) : d.showable = true ∧ d.shown.length ≤ sizeLine ∧ d.depth ≤ 60 ∧ (nice d = true ∨ ∃ ds, d = .list ds ∧ ds ≠ [] ∧ ∀ e ∈ ds, nice e = true ∧ e.showable = true ∧ e.shown.length ≤ sizeLine) := by
  unfold okD at h
  rw [Bool.and_eq_true, Bool.or_eq_true] at h
  obtain ⟨h0, h1⟩ := h
  obtain ⟨o1, o2, o3⟩ := okD0_of h0
  refine ⟨o1, o2, o3, ?_⟩
  rcases h1 with h1 | h1
  · exact .inl h1
  · cases d
    case list ds =>
      unfold okL at h1
      rw [Bool.and_eq_true, List.all_eq_true] at h1
      refine .inr ⟨ds, rfl, fun z => by rw [z] at h1; exact absurd h1.1 (by decide), fun e he => ?_⟩
      have q := h1.2 e he
      rw [Bool.and_eq_true] at q
      obtain ⟨p1, p2, _⟩ := okD0_of q.2
      exact ⟨q.1, p1, p2⟩
    all_goals exact nomatch h1
def RX (Cs : Nat → Addr) (H : Hp) (c : Nat) (e : Addr) : Prop := XAt H e (Cs c)
theorem RX.put {H : Hp} {D : Addr} {xs ys : List V} {c : Nat} {e : Addr} (hD : H D = some (.lst xs)) (h : RX Cs H c e) : RX Cs (upd H D (.lst ys)) c e := by
  rcases h with ⟨fs, d, h1, h2⟩ | h1
  · have n2 : e ≠ D := ne_of h1 hD (fun z => by cases z)
    have n3 : d ≠ D := ne_of h2 hD (fun z => by cases z)
    exact .inl ⟨fs, d, by rw [upd_ne n2]; exact h1, by rw [upd_ne n3]; exact h2⟩
  · have n2 : e ≠ D := ne_of h1 hD (fun z => by cases z)
    exact .inr (by rw [upd_ne n2]; exact h1)
def cl44 : List Nat := oneCl ++ [14, 14, 22, 22]
def cl45 : List Nat := cl44 ++ [21]
theorem cl45_lt : ∀ c ∈ cl45, c < 23 := by decide +kernel
theorem cl45_len : cl45.length = 45 := by decide +kernel
def nameD (c : Nat) : PyData := .list [.str (nm c)]
def wantD : PyData := .list (cl45.map nameD)
theorem wantD_ok : SeqAt.shaped wantD = true := by decide +kernel
theorem wantD_eq : PyData.eqv wantD wantD = true := SeqAt.eqv_refl wantD (SeqAt.canLay_of_shaped wantD_ok)
/-- at l: a list of one text -/
def RL (H : Hp) (c : Nat) (l : Addr) : Prop := H l = some (.lst [.str (nm c)])
theorem RL.put {H : Hp} {D : Addr} {ls : List Addr} {ys : List V} {c : Nat} {l : Addr} (hD : H D = some (.lst (ls.map V.ref))) (h : RL H c l) : RL (upd H D (.lst ys)) c l := by
  have n : l ≠ D := ne_of h hD (fun z => by
    have z2 := HO.lst.inj z
    cases ls with
    | nil => cases z2
    | cons a r => cases z2)
  show upd H D (.lst ys) l = _
  rw [upd_ne n]
  exact h
theorem RL.dps {K : PySem.W.Frag} {H : Hp} : ∀ {cl : List Nat} {ls : List Addr}, Paired (RL H) cl ls → DpAll K H (ls.map V.ref) (cl.map nameD)
  | _, _, .nil => .nil
  | _, _, .cons r t => .cons (.lst (SqL.of r) (.cons (.str _) .nil)) (RL.dps t)
theorem scLaw : FnScope ["_law_script", "_law_pen_here", "_law_ones_here", "_law_twos_here", "_law_made", "_law_names", "_law_parts", "_law_one", "_law_error", "_law_name"] ["_law_script"] (defScope sLaw) := ⟨rfl, rfl, rfl, by decide +kernel, rfl, by decide +kernel, by decide +kernel⟩
theorem ok_law {f fN fD fP fA fO fT fK : Addr} {fd fdN fdD fdP fdA fdO fdT fdK : FuncData} (F : Fun K "law" "law" sLaw f fd) (T : Txt K mg S Cs) (T2 : Txt2 K Cs) (I : Inits P w K mg base Cs) (I14 : I2 P w K mg base (Cs 14) "line" "word") (I22 : I2 P w K mg base (Cs 22) "what" "most")
    (UN : Def K mg "_law_pen" sPen ["_law_script"] fN fdN) (UD : Def K mg "_law_draw" sDraw ["_law_pen_here", "_law_many"] fD fdD) (UP : Def K mg "_law_pick" sPick ["_law_pen_here", "_law_some"] fP fdP) (UA : Def K mg "_law_any" sAny ["_law_pen_here"] fA fdA)
    (UO : Def K mg "_law_ones" sOnes ["_law_pen_here"] fO fdO) (UT : Def K mg "_law_twos" sTwos ["_law_pen_here"] fT fdT) (UK : Def K mg "_law_kinds" sKinds ["_law_error"] fK fdK) : FnG P w K mg base CX0 7 f fd ["_law_script"] (spLaw K) := by
  have GN : FnOk P w K mg base CX0 1 fN fdN ["_law_script"] (spPen K) := ok_pen (fD := fD) UN.F T.d
  have GO : FnOk P w K mg base CX0 6 fO fdO ["_law_pen_here"] (spOnes Cs) := ok_ones UO.F T I UD UP UA
  have GT : FnOk P w K mg base CX0 6 fT fdT ["_law_pen_here"] (spTwos Cs) := ok_twos UT.F T I14 I22 UD UP UA
  have GK : FnOk P w K mg base CX0 1 fK fdK ["_law_error"] (spKinds Cs) := ok_kinds UK.F T
  refine Fun.okG F scLaw (fun vs H Q E h => ?_) (fun cdv A outer s H vs Q E hG hr h => ?_)
  · obtain ⟨a, ns, rfl, _⟩ := h
    rfl
  · obtain ⟨a, ns, rfl, hS, k⟩ := h
    have hG2 : (A.deeper (PyProof.Rows.envOfC "law" (defScope sLaw) s.heap.objs.size f cdv)).guards = some [] := hG
    refine ⟨_, (pss_cons (ps_set (i := 1) scLaw.nd rfl (Or.inl rfl) (pe_call GN (hr.mono (by decide)) rfl UN.g UN.k UN.b .nil pass0 (pa_cons (pv 0) pa_nil)))
      (pss_cons (ps_par (i := 2) (j := 3) (by rfl) scLaw.nd rfl rfl (by decide) rfl rfl (pa_cons (pe_call GO (hr.mono (by decide)) rfl UO.g UO.k UO.b .nil pass0 (pa_cons (pv 1) pa_nil)) (pa_cons (pe_call GT (hr.mono (by decide)) rfl UT.g UT.k UT.b .nil pass0 (pa_cons (pv 1) pa_nil)) pa_nil)) (by rfl))
      (pss_cons (ps_if (pt_cmpR (op_neD hr.units) (pe_lc (own := [("_law_one", 7)]) (g := gName 7) (tt := tRepNe K) (te := tVar 7) rfl scLaw.nd (pi_list (pe_op op_cat (pv 2) (pv 3))) (blkOk_by (N := ["_law_script", "_law_pen_here", "_law_ones_here", "_law_twos_here", "_law_made", "_law_names", "_law_parts", "_law_one", "_law_error", "_law_name"]) (sc := defScope sLaw) (by decide +kernel)) (fun _ _ _ _ _ => pg_name (i := 7) scLaw.nd rfl (Or.inl rfl)) (fun _ _ _ _ _ => pts_one (pt_cmpR op_ne (pe_callB (call_repr hG2 hr.units) (by rfl) T.rp bootRepr (pa_cons (pe_ix ix_tup (pv 7) pe_int (fun _ _ => rfl)) pa_nil)) (pe_callB (call_repr hG2 hr.units) (by rfl) T.rp bootRepr (pa_cons (pe_ix ix_tup (pv 7) pe_int (fun _ _ => rfl)) pa_nil)) (nomark _))) (fun _ _ _ _ _ => (pv 7))) (pe_lst pa_nil) (nomark _)) (pss_one (ps_ret pe_bl)) pss_nil)
      (pss_cons (ps_set (i := 4) scLaw.nd rfl (Or.inl rfl) (pe_op op_cat (pe_lc (own := [("_law_one", 7)]) (g := gName 7) (tt := tYes) (te := (tOp (rIxT K) (tVar 7) (tC (.int 0)))) rfl scLaw.nd (pi_list (pe_op op_cat (pv 2) (pv 3))) (blkOk_by (N := ["_law_script", "_law_pen_here", "_law_ones_here", "_law_twos_here", "_law_made", "_law_names", "_law_parts", "_law_one", "_law_error", "_law_name"]) (sc := defScope sLaw) (by decide +kernel)) (fun _ _ _ _ _ => pg_name (i := 7) scLaw.nd rfl (Or.inl rfl)) (fun _ _ _ _ _ => pts_nil) (fun _ _ _ _ _ => (pe_ix ix_tup (pv 7) pe_int (fun _ _ => rfl)))) (pe_lst (pa_cons (pe_exc0 (C := Cs 21) PySem.F.excBase_ValueError T2.exn (T.c 21 (by decide)).g (T.c 21 (by decide)).o.kC rfl) pa_nil))))
      (pss_cons (ps_if (pt_cmpR (op_neD hr.units) (pe_lc (own := [("_law_error", 8)]) (g := gName 8) (tt := tNotSum K S) (te := tVar 8) rfl scLaw.nd (pi_list (pv 4)) (blkOk_by (N := ["_law_script", "_law_pen_here", "_law_ones_here", "_law_twos_here", "_law_made", "_law_names", "_law_parts", "_law_one", "_law_error", "_law_name"]) (sc := defScope sLaw) (by decide +kernel)) (fun _ _ _ _ _ => pg_name (i := 8) scLaw.nd rfl (Or.inl rfl)) (fun _ _ _ _ _ => pts_one (PW.pt (pw_or (pt_not (pt_val (pe_callB call_isX (by rfl) T.isi PyProof.Rows.boot_isinstance (pa_cons (pv 8) (pa_cons (pe_glob (v := .ref S) rfl T.s rfl) pa_nil))))) (pw_or1 (pt_not (pt_val (pe_callB call_isX (by rfl) T.isi PyProof.Rows.boot_isinstance (pa_cons (pv 8) (pa_cons (pe_bltn (v := .ty "ValueError") rfl T.ve bootValueError rfl) pa_nil))))))))) (fun _ _ _ _ _ => (pv 8))) (pe_lst pa_nil) (nomark _)) (pss_one (ps_ret pe_bl)) pss_nil)
      (pss_cons (ps_if (pt_cmpR (op_neD hr.units) (pe_lc (own := [("_law_error", 8)]) (g := gName 8) (tt := tIsLook K) (te := tVar 8) rfl scLaw.nd (pi_list (pv 4)) (blkOk_by (N := ["_law_script", "_law_pen_here", "_law_ones_here", "_law_twos_here", "_law_made", "_law_names", "_law_parts", "_law_one", "_law_error", "_law_name"]) (sc := defScope sLaw) (by decide +kernel)) (fun _ _ _ _ _ => pg_name (i := 8) scLaw.nd rfl (Or.inl rfl)) (fun _ _ _ _ _ => pts_one (PW.pt (pw_or (pt_val (pe_callB call_isX (by rfl) T.isi PyProof.Rows.boot_isinstance (pa_cons (pv 8) (pa_cons (pe_bltn (v := .ty "LookupError") rfl T.le bootLookupError rfl) pa_nil)))) (pw_or1 (pt_val (pe_callB call_isX (by rfl) T.isi PyProof.Rows.boot_isinstance (pa_cons (pv 8) (pa_cons (pe_bltn (v := .ty "TypeError") rfl T.te bootTypeError rfl) pa_nil)))))))) (fun _ _ _ _ _ => (pv 8))) (pe_lst pa_nil) (nomark _)) (pss_one (ps_ret pe_bl)) pss_nil)
      (pss_cons (ps_set (i := 5) scLaw.nd rfl (Or.inl rfl) (pe_lst (pa_cons pe_str (pa_cons pe_str (pa_cons pe_str (pa_cons pe_str (pa_cons pe_str (pa_cons pe_str (pa_cons pe_str (pa_cons pe_str (pa_cons pe_str pa_nil)))))))))))
      (pss_cons (ps_set (i := 6) scLaw.nd rfl (Or.inl rfl) (pe_lst (pa_cons pe_str (pa_cons pe_str (pa_cons pe_str (pa_cons pe_str (pa_cons pe_str (pa_cons pe_str pa_nil))))))))
      (pss_cons (ps_set (i := 5) scLaw.nd rfl (Or.inl rfl) (pe_op op_cat (pe_op op_cat (pe_op op_cat (pe_op op_rep (pe_op op_cat (pv 5) (pe_lst (pa_cons pe_str (pa_cons pe_str (pa_cons pe_str pa_nil))))) pe_int) (pe_op op_rep (pv 6) pe_int)) (pe_op op_rep (pe_lst (pa_cons pe_str pa_nil)) pe_int)) (pe_op op_rep (pe_lst (pa_cons pe_str pa_nil)) pe_int)))
      (pss_cons (ps_set (i := 5) scLaw.nd rfl (Or.inl rfl) (pe_op op_cat (pe_op op_cat (pe_op op_cat (pv 5) (pe_op op_rep (pe_lst (pa_cons pe_str pa_nil)) pe_int)) (pe_op op_rep (pe_lst (pa_cons pe_str pa_nil)) pe_int)) (pe_lst (pa_cons pe_str pa_nil))))
      (pss_one (ps_ret (pe_cmpR (op_eqD hr.units) (pe_lc (own := [("_law_error", 8)]) (g := gName 8) (tt := tYes) (te := tCall (spKinds Cs) [] E0 (tCons (tVar 8) tNil)) rfl scLaw.nd (pi_list (pv 4)) (blkOk_by (N := ["_law_script", "_law_pen_here", "_law_ones_here", "_law_twos_here", "_law_made", "_law_names", "_law_parts", "_law_one", "_law_error", "_law_name"]) (sc := defScope sLaw) (by decide +kernel)) (fun _ _ _ _ _ => pg_name (i := 8) scLaw.nd rfl (Or.inl rfl)) (fun _ _ _ _ _ => pts_nil) (fun _ _ _ _ _ => (pe_call GK (hr.mono (by decide)) rfl UK.g UK.k UK.b .nil pass0 (pa_cons (pv 8) pa_nil)))) (pe_lc (own := [("_law_name", 9)]) (g := gName 9) (tt := tYes) (te := tLst (tCons (tVar 9) tNil)) rfl scLaw.nd (pi_list (pv 5)) (blkOk_by (N := ["_law_script", "_law_pen_here", "_law_ones_here", "_law_twos_here", "_law_made", "_law_names", "_law_parts", "_law_one", "_law_error", "_law_name"]) (sc := defScope sLaw) (by decide +kernel)) (fun _ _ _ _ _ => pg_name (i := 9) scLaw.nd rfl (Or.inl rfl)) (fun _ _ _ _ _ => pts_nil) (fun _ _ _ _ _ => (pe_lst (pa_cons (pv 9) pa_nil)))) (nomark _)))))))))))))), ?_⟩
    refine ⟨_, rfl, a, ns, rfl, hS, fun H1 p c s1 pen1 => ?_⟩
    show tSeq _ _ _ [some (.ref a), some (.ref p), none, none, none, none, none, none, none, none] _
    refine ⟨_, rfl, p, c, 0, rfl, pen1, by omega, fun H2 lo kp2 pen2 tr => ⟨_, rfl, p, c, 0 + 12, rfl, pen2, by omega, fun H3 lt kp3 tr2 => ⟨_, _, rfl, ?_⟩⟩⟩
    show tSeq _ _ _ [some (.ref a), some (.ref p), some (.ref lo), some (.ref lt), none, none, none, none, none, none] _
    have s23 : Same (hide p H2) H3 := fun b o e => by
      have n : b ≠ p := fun z => by
        rw [z] at e
        unfold hide at e
        rw [if_pos rfl] at e
        cases e
      exact kp3 b o n (hide_same b o e)
    obtain ⟨ts1, ho, pr1⟩ := (Trip.tri tr).same s23
    obtain ⟨ts2, ht, pr2⟩ := tr2
    have pr : Paired (RT Cs H3) cl44 (ts1 ++ ts2) := Paired.app pr1 pr2
    have zz : (ts1 ++ ts2).length = 44 := by rw [← Paired.len pr]; decide +kernel
    have zs : (ts1.map V.ref).length + (ts2.map V.ref).length = 44 := by rw [List.length_map, List.length_map, ← zz, List.length_append]
    have em : ts1.map V.ref ++ ts2.map V.ref = (ts1 ++ ts2).map V.ref := by rw [List.map_append]
    clear pr1 pr2 tr
    -- if [one for one in ones + twos if repr(one[1]) != repr(one[2])] != []: return False
    refine ⟨_, rfl, _, rfl, lo, lt, _, _, rfl, rfl, ho, ht, small (by omega), fun L hL => ⟨L, rfl, ⟨_, SqL.of upd_same⟩, fun D hD => ?_⟩⟩
    rw [em]
    generalize hts : ts1 ++ ts2 = ts at pr zz em
    have s4 := same_new (o := .lst (ts.map V.ref)) hL
    have hL4 : upd H3 L (.lst (ts.map V.ref)) L = some (.lst (ts.map V.ref)) := upd_same
    have hD' : upd H3 L (.lst (ts.map V.ref)) D = none := by rw [em] at hD; exact hD
    generalize upd H3 L (.lst (ts.map V.ref)) = H4 at s4 hL4 hD'
    have pr4 : Paired (RT Cs H4) cl44 ts := L2.Paired.mapP pr fun _ _ => RT.same s4
    refine lc_list (K := K) (a := L) (xs := ts.map V.ref) (fun i H' => Same H4 H' ∧ H' D = some (.lst [])) ⟨same_new hD', upd_same⟩ (fun i H' _ ⟨s', _⟩ => SqL.of (s' _ _ hL4)) ?_ ?_
    · rintro i v H' hi ⟨sF, hF⟩
      obtain ⟨t, ht, rfl⟩ := mapref_get hi
      obtain ⟨cc, hc, e, x, y, d, n, q1, q2, q3, q4, q5⟩ := Paired.get' pr4 ht
      obtain ⟨o1, o2, o3, o4⟩ := okD_of q5
      refine ⟨rfl, _, rfl, t, _, 1, x, rfl, rfl, SqT.of (sF _ _ q1), rfl, n, x, d, rfl, Dq.same sF q3, o4, o1, o2, o3, _, rfl, t, _, 2, y, rfl, rfl, SqT.of (sF _ _ q1), rfl, n, y, d, rfl, Dq.same sF q4, o4, o1, o2, o3, rfl, _, rfl, ?_⟩
      refine noB ?_ ⟨sF, hF⟩
      simp
    rintro H5 ⟨s5, hD5⟩
    refine ⟨Nat.zero_le _, fun E0 hE0 => ⟨.list [], .list [], .lst (SqL.of ((same_new hE0) _ _ hD5)) .nil, .lst (SqL.of upd_same) .nil, rfl, rfl, _, rfl, ?_⟩⟩
    have s6 := same_new (o := .lst []) hE0
    generalize upd H5 E0 (.lst []) = H6 at s6
    refine noB (by decide +kernel) ?_
    have s46 : Same H4 H6 := s5.trans s6
    show tSeq _ _ _ [some (.ref a), some (.ref p), some (.ref lo), some (.ref lt), none, none, none, none, none, none] _
    -- made
    have ho6 := s46 _ _ (s4 _ _ ho)
    have ht6 := s46 _ _ (s4 _ _ ht)
    have pr6 : Paired (RT Cs H6) cl44 ts := L2.Paired.mapP pr4 fun _ _ => RT.same s46
    have zt : ts.map V.ref = ts1.map V.ref ++ ts2.map V.ref := em.symm
    refine ⟨_, rfl, _, rfl, lo, lt, _, _, rfl, rfl, ho6, ht6, small (by omega), fun LL hLL => ⟨LL, rfl, ⟨_, SqL.of upd_same⟩, fun D2 hD2 => ?_⟩⟩
    have hD2' : upd H6 LL (.lst (ts.map V.ref)) D2 = none := by rw [zt]; exact hD2
    rw [← zt]
    have s7 := same_new (o := .lst (ts.map V.ref)) hLL
    have hL7 : upd H6 LL (.lst (ts.map V.ref)) LL = some (.lst (ts.map V.ref)) := upd_same
    generalize upd H6 LL (.lst (ts.map V.ref)) = H7 at s7 hL7 hD2'
    have pr7 : Paired (RT Cs H7) cl44 ts := L2.Paired.mapP pr6 fun _ _ => RT.same s7
    refine lc_list (K := K) (a := LL) (xs := ts.map V.ref) (fun i H' => Same H7 H' ∧ ∃ es : List Addr, H' D2 = some (.lst (es.map V.ref)) ∧ Paired (RX Cs H') (cl44.take i) es) ⟨same_new hD2', [], upd_same, .nil⟩ (fun i H' _ ⟨s', _⟩ => SqL.of (s' _ _ hL7)) ?_ ?_
    · rintro i v H' hi ⟨sF, es, hF, px⟩
      obtain ⟨t, ht', rfl⟩ := mapref_get hi
      obtain ⟨cc, hc, e, x, y, d, n, q1, q2, _⟩ := Paired.get' pr7 ht'
      refine ⟨rfl, yesT ?_⟩
      refine ⟨_, rfl, t, _, 0, .ref e, rfl, rfl, SqT.of (sF _ _ q1), rfl, es.map V.ref, hF, ?_, fun b o z => ?_, es ++ [e], ?_, ?_⟩
      · have z := Paired.len px
        rw [List.length_take] at z
        have : cl44.length = 44 := by decide +kernel
        exact lt100 (by rw [List.length_map]; omega)
      · rw [upd_ne (ne_of_none z hD2')]
        exact sF _ _ z
      · rw [upd_same, List.map_append]
        rfl
      · rw [take_succ hc]
        exact Paired.app (L2.Paired.mapP px fun _ _ h => RX.put hF h) (.cons (RX.put hF (q2.same sF)) .nil)
    rintro H8 ⟨s8, es, hD8, px⟩
    have px8 : Paired (RX Cs H8) cl44 es := by
      rw [List.length_map, zz, List.take_of_length_le (by decide +kernel)] at px
      exact px
    have zes : es.length = 44 := by rw [← Paired.len px8]; decide +kernel
    clear px pr6 pr7
    intro n0 hn0
    have s9 := same_new (o := exo n0 (Cs 21) none) hn0
    have x9 : XAt (upd H8 n0 (exo n0 (Cs 21) none)) n0 (Cs 21) := .inr upd_same
    generalize upd H8 n0 (exo n0 (Cs 21) none) = H9 at s9 x9
    refine ⟨small (by show 1 ≤ 1000; decide), fun ln hln => ?_⟩
    have sA := same_new (o := .lst [.ref n0]) hln
    have eA : upd H9 ln (.lst [.ref n0]) ln = some (.lst [.ref n0]) := upd_same
    generalize upd H9 ln (.lst [.ref n0]) = HA at sA eA
    refine ⟨D2, ln, _, _, rfl, rfl, sA _ _ (s9 _ _ hD8), eA, small (by rw [List.length_map, zes]; show 45 ≤ 1000; decide), fun M hM => ?_⟩
    have sB := same_new (o := .lst (es.map V.ref ++ [.ref n0])) hM
    have eB : upd HA M (.lst (es.map V.ref ++ [.ref n0])) M = some (.lst ((es ++ [n0]).map V.ref)) := by rw [upd_same, List.map_append]; rfl
    have pB : Paired (RX Cs (upd HA M (.lst (es.map V.ref ++ [.ref n0])))) cl45 (es ++ [n0]) := Paired.app (L2.Paired.mapP px8 fun _ _ h => XAt.same h (s9.trans (sA.trans sB))) (.cons (x9.same (sA.trans sB)) .nil)
    generalize es ++ [n0] = em5 at eB pB
    generalize upd HA M (.lst (es.map V.ref ++ [.ref n0])) = HB at eB pB
    show tSeq _ _ _ [some (.ref a), some (.ref p), some (.ref lo), some (.ref lt), some (.ref M), none, none, none, none, none] _
    have lt23 : ∀ {i e}, em5[i]? = some e → ∃ c, cl45[i]? = some c ∧ XAt HB e (Cs c) ∧ c < 23 := fun h => by
      obtain ⟨c, h1, h2⟩ := Paired.get' pB h
      exact ⟨c, h1, h2, cl45_lt c (List.mem_of_getElem? h1)⟩
    -- not SumError, not ValueError
    refine ⟨_, rfl, M, rfl, ⟨_, SqL.of eB⟩, fun D3 hD3 => lc_list (K := K) (a := M) (xs := em5.map V.ref) (fun i H' => Same HB H' ∧ H' D3 = some (.lst [])) ⟨same_new hD3, upd_same⟩ (fun i H' _ ⟨s', _⟩ => SqL.of (s' _ _ eB)) ?_ ?_⟩
    · rintro i v H' hi ⟨sF, hF⟩
      obtain ⟨e, he, rfl⟩ := mapref_get hi
      obtain ⟨cc, hc, hx, h23⟩ := lt23 he
      obtain ⟨cs, hcs⟩ := T.sc
      refine ⟨rfl, _, rfl, e, Cs cc, .ref S, .ref S, true, rfl, hx.same sF, .own _, (T.c cc h23).e, kit_sum (T.c cc h23) hcs T.st, true, rfl, ?_⟩
      refine noB rfl ?_
      refine ⟨_, rfl, e, Cs cc, .ty "ValueError", .type "ValueError", true, rfl, hx.same sF, .ty _, (T.c cc h23).e, (kit_type (T.c cc h23) "ValueError" (by decide +kernel)).trans (by decide +kernel), true, rfl, ?_⟩
      exact noB rfl ⟨sF, hF⟩
    rintro HC ⟨sC, hD3'⟩
    refine ⟨Nat.zero_le _, fun E3 hE3 => ⟨.list [], .list [], .lst (SqL.of ((same_new hE3) _ _ hD3')) .nil, .lst (SqL.of upd_same) .nil, rfl, rfl, _, rfl, ?_⟩⟩
    have sD := same_new (o := .lst []) hE3
    generalize upd HC E3 (.lst []) = HD at sD
    refine noB (by decide +kernel) ?_
    show tSeq _ _ _ [some (.ref a), some (.ref p), some (.ref lo), some (.ref lt), some (.ref M), none, none, none, none, none] _
    have sBD := sC.trans sD
    have eD := sBD _ _ eB
    -- LookupError, TypeError
    refine ⟨_, rfl, M, rfl, ⟨_, SqL.of eD⟩, fun D4 hD4 => lc_list (K := K) (a := M) (xs := em5.map V.ref) (fun i H' => Same HD H' ∧ H' D4 = some (.lst [])) ⟨same_new hD4, upd_same⟩ (fun i H' _ ⟨s', _⟩ => SqL.of (s' _ _ eD)) ?_ ?_⟩
    · rintro i v H' hi ⟨sF, hF⟩
      obtain ⟨e, he, rfl⟩ := mapref_get hi
      obtain ⟨cc, hc, hx, h23⟩ := lt23 he
      have hx' := hx.same (sBD.trans sF)
      refine ⟨rfl, _, rfl, e, Cs cc, .ty "LookupError", .type "LookupError", false, rfl, hx', .ty _, (T.c cc h23).e, (kit_type (T.c cc h23) "LookupError" (by decide +kernel)).trans (by decide +kernel), false, rfl, ?_⟩
      refine noB rfl ?_
      refine ⟨_, rfl, e, Cs cc, .ty "TypeError", .type "TypeError", false, rfl, hx', .ty _, (T.c cc h23).e, (kit_type (T.c cc h23) "TypeError" (by decide +kernel)).trans (by decide +kernel), false, rfl, ?_⟩
      exact noB rfl ⟨sF, hF⟩
    rintro HE ⟨sE, hD4'⟩
    refine ⟨Nat.zero_le _, fun E4 hE4 => ⟨.list [], .list [], .lst (SqL.of ((same_new hE4) _ _ hD4')) .nil, .lst (SqL.of upd_same) .nil, rfl, rfl, _, rfl, ?_⟩⟩
    have sF := same_new (o := .lst []) hE4
    generalize upd HE E4 (.lst []) = HF at sF
    refine noB (by decide +kernel) ?_
    show tSeq _ _ _ [some (.ref a), some (.ref p), some (.ref lo), some (.ref lt), some (.ref M), none, none, none, none, none] _
    have sBF := sBD.trans (sE.trans sF)
    have sn := Same.refl HF
    refine ⟨small (by decide), fun x1 hx1 => ?_⟩
    have sx1 := same_new (o := .lst [V.str "BadBase", V.str "BadWidth", V.str "BadName", V.str "BadWord", V.str "BadNumber", V.str "BadWeight", V.str "BadLetter", V.str "BadPlace", V.str "NoState"]) hx1
    have fx1 : upd HF x1 (.lst [V.str "BadBase", V.str "BadWidth", V.str "BadName", V.str "BadWord", V.str "BadNumber", V.str "BadWeight", V.str "BadLetter", V.str "BadPlace", V.str "NoState"]) x1 = some (.lst [V.str "BadBase", V.str "BadWidth", V.str "BadName", V.str "BadWord", V.str "BadNumber", V.str "BadWeight", V.str "BadLetter", V.str "BadPlace", V.str "NoState"]) := upd_same
    generalize upd HF x1 (.lst [V.str "BadBase", V.str "BadWidth", V.str "BadName", V.str "BadWord", V.str "BadNumber", V.str "BadWeight", V.str "BadLetter", V.str "BadPlace", V.str "NoState"]) = Hx1 at sx1 fx1
    have sn := sn.trans sx1
    show tSeq _ _ _ [some (.ref a), some (.ref p), some (.ref lo), some (.ref lt), some (.ref M), some (.ref x1), none, none, none, none] _
    refine ⟨small (by decide), fun x2 hx2 => ?_⟩
    have sx2 := same_new (o := .lst [V.str "BadTable", V.str "BadScheme", V.str "BadPlane", V.str "BadPaper", V.str "BadStore", V.str "Unlike"]) hx2
    have fx2 : upd Hx1 x2 (.lst [V.str "BadTable", V.str "BadScheme", V.str "BadPlane", V.str "BadPaper", V.str "BadStore", V.str "Unlike"]) x2 = some (.lst [V.str "BadTable", V.str "BadScheme", V.str "BadPlane", V.str "BadPaper", V.str "BadStore", V.str "Unlike"]) := upd_same
    generalize upd Hx1 x2 (.lst [V.str "BadTable", V.str "BadScheme", V.str "BadPlane", V.str "BadPaper", V.str "BadStore", V.str "Unlike"]) = Hx2 at sx2 fx2
    have fx1 := sx2 _ _ fx1
    have sn := sn.trans sx2
    show tSeq _ _ _ [some (.ref a), some (.ref p), some (.ref lo), some (.ref lt), some (.ref M), some (.ref x1), some (.ref x2), none, none, none] _
    refine ⟨_, rfl, ?_⟩
    refine ⟨small (by decide), fun x3 hx3 => ?_⟩
    have sx3 := same_new (o := .lst [V.str "NoEntry", V.str "NoPlane", V.str "Taken"]) hx3
    have fx3 : upd Hx2 x3 (.lst [V.str "NoEntry", V.str "NoPlane", V.str "Taken"]) x3 = some (.lst [V.str "NoEntry", V.str "NoPlane", V.str "Taken"]) := upd_same
    generalize upd Hx2 x3 (.lst [V.str "NoEntry", V.str "NoPlane", V.str "Taken"]) = Hx3 at sx3 fx3
    have fx1 := sx3 _ _ fx1
    have fx2 := sx3 _ _ fx2
    have sn := sn.trans sx3
    refine ⟨x1, x3, _, _, rfl, rfl, fx1, fx3, small (by decide), fun x4 hx4 => ?_⟩
    have sx4 := same_new (o := .lst ([V.str "BadBase", V.str "BadWidth", V.str "BadName", V.str "BadWord", V.str "BadNumber", V.str "BadWeight", V.str "BadLetter", V.str "BadPlace", V.str "NoState"] ++ [V.str "NoEntry", V.str "NoPlane", V.str "Taken"])) hx4
    have fx4 : upd Hx3 x4 (.lst ([V.str "BadBase", V.str "BadWidth", V.str "BadName", V.str "BadWord", V.str "BadNumber", V.str "BadWeight", V.str "BadLetter", V.str "BadPlace", V.str "NoState"] ++ [V.str "NoEntry", V.str "NoPlane", V.str "Taken"])) x4 = some (.lst ([V.str "BadBase", V.str "BadWidth", V.str "BadName", V.str "BadWord", V.str "BadNumber", V.str "BadWeight", V.str "BadLetter", V.str "BadPlace", V.str "NoState"] ++ [V.str "NoEntry", V.str "NoPlane", V.str "Taken"])) := upd_same
    generalize upd Hx3 x4 (.lst ([V.str "BadBase", V.str "BadWidth", V.str "BadName", V.str "BadWord", V.str "BadNumber", V.str "BadWeight", V.str "BadLetter", V.str "BadPlace", V.str "NoState"] ++ [V.str "NoEntry", V.str "NoPlane", V.str "Taken"])) = Hx4 at sx4 fx4
    have fx1 := sx4 _ _ fx1
    have fx2 := sx4 _ _ fx2
    have fx3 := sx4 _ _ fx3
    have sn := sn.trans sx4
    refine ⟨x4, 2, _, rfl, rfl, fx4, by decide, by decide, small (by decide), fun x5 hx5 => ?_⟩
    have sx5 := same_new (o := .lst (List.replicate (Int.toNat 2) ([V.str "BadBase", V.str "BadWidth", V.str "BadName", V.str "BadWord", V.str "BadNumber", V.str "BadWeight", V.str "BadLetter", V.str "BadPlace", V.str "NoState"] ++ [V.str "NoEntry", V.str "NoPlane", V.str "Taken"])).flatten) hx5
    have fx5 : upd Hx4 x5 (.lst (List.replicate (Int.toNat 2) ([V.str "BadBase", V.str "BadWidth", V.str "BadName", V.str "BadWord", V.str "BadNumber", V.str "BadWeight", V.str "BadLetter", V.str "BadPlace", V.str "NoState"] ++ [V.str "NoEntry", V.str "NoPlane", V.str "Taken"])).flatten) x5 = some (.lst (List.replicate (Int.toNat 2) ([V.str "BadBase", V.str "BadWidth", V.str "BadName", V.str "BadWord", V.str "BadNumber", V.str "BadWeight", V.str "BadLetter", V.str "BadPlace", V.str "NoState"] ++ [V.str "NoEntry", V.str "NoPlane", V.str "Taken"])).flatten) := upd_same
    generalize upd Hx4 x5 (.lst (List.replicate (Int.toNat 2) ([V.str "BadBase", V.str "BadWidth", V.str "BadName", V.str "BadWord", V.str "BadNumber", V.str "BadWeight", V.str "BadLetter", V.str "BadPlace", V.str "NoState"] ++ [V.str "NoEntry", V.str "NoPlane", V.str "Taken"])).flatten) = Hx5 at sx5 fx5
    have fx1 := sx5 _ _ fx1
    have fx2 := sx5 _ _ fx2
    have fx3 := sx5 _ _ fx3
    have fx4 := sx5 _ _ fx4
    have sn := sn.trans sx5
    refine ⟨_, rfl, ?_⟩
    refine ⟨x2, 2, _, rfl, rfl, fx2, by decide, by decide, small (by decide), fun x6 hx6 => ?_⟩
    have sx6 := same_new (o := .lst (List.replicate (Int.toNat 2) [V.str "BadTable", V.str "BadScheme", V.str "BadPlane", V.str "BadPaper", V.str "BadStore", V.str "Unlike"]).flatten) hx6
    have fx6 : upd Hx5 x6 (.lst (List.replicate (Int.toNat 2) [V.str "BadTable", V.str "BadScheme", V.str "BadPlane", V.str "BadPaper", V.str "BadStore", V.str "Unlike"]).flatten) x6 = some (.lst (List.replicate (Int.toNat 2) [V.str "BadTable", V.str "BadScheme", V.str "BadPlane", V.str "BadPaper", V.str "BadStore", V.str "Unlike"]).flatten) := upd_same
    generalize upd Hx5 x6 (.lst (List.replicate (Int.toNat 2) [V.str "BadTable", V.str "BadScheme", V.str "BadPlane", V.str "BadPaper", V.str "BadStore", V.str "Unlike"]).flatten) = Hx6 at sx6 fx6
    have fx1 := sx6 _ _ fx1
    have fx2 := sx6 _ _ fx2
    have fx3 := sx6 _ _ fx3
    have fx4 := sx6 _ _ fx4
    have fx5 := sx6 _ _ fx5
    have sn := sn.trans sx6
    refine ⟨x5, x6, _, _, rfl, rfl, fx5, fx6, small (by decide), fun x7 hx7 => ?_⟩
    have sx7 := same_new (o := .lst ((List.replicate (Int.toNat 2) ([V.str "BadBase", V.str "BadWidth", V.str "BadName", V.str "BadWord", V.str "BadNumber", V.str "BadWeight", V.str "BadLetter", V.str "BadPlace", V.str "NoState"] ++ [V.str "NoEntry", V.str "NoPlane", V.str "Taken"])).flatten ++ (List.replicate (Int.toNat 2) [V.str "BadTable", V.str "BadScheme", V.str "BadPlane", V.str "BadPaper", V.str "BadStore", V.str "Unlike"]).flatten)) hx7
    have fx7 : upd Hx6 x7 (.lst ((List.replicate (Int.toNat 2) ([V.str "BadBase", V.str "BadWidth", V.str "BadName", V.str "BadWord", V.str "BadNumber", V.str "BadWeight", V.str "BadLetter", V.str "BadPlace", V.str "NoState"] ++ [V.str "NoEntry", V.str "NoPlane", V.str "Taken"])).flatten ++ (List.replicate (Int.toNat 2) [V.str "BadTable", V.str "BadScheme", V.str "BadPlane", V.str "BadPaper", V.str "BadStore", V.str "Unlike"]).flatten)) x7 = some (.lst ((List.replicate (Int.toNat 2) ([V.str "BadBase", V.str "BadWidth", V.str "BadName", V.str "BadWord", V.str "BadNumber", V.str "BadWeight", V.str "BadLetter", V.str "BadPlace", V.str "NoState"] ++ [V.str "NoEntry", V.str "NoPlane", V.str "Taken"])).flatten ++ (List.replicate (Int.toNat 2) [V.str "BadTable", V.str "BadScheme", V.str "BadPlane", V.str "BadPaper", V.str "BadStore", V.str "Unlike"]).flatten)) := upd_same
    generalize upd Hx6 x7 (.lst ((List.replicate (Int.toNat 2) ([V.str "BadBase", V.str "BadWidth", V.str "BadName", V.str "BadWord", V.str "BadNumber", V.str "BadWeight", V.str "BadLetter", V.str "BadPlace", V.str "NoState"] ++ [V.str "NoEntry", V.str "NoPlane", V.str "Taken"])).flatten ++ (List.replicate (Int.toNat 2) [V.str "BadTable", V.str "BadScheme", V.str "BadPlane", V.str "BadPaper", V.str "BadStore", V.str "Unlike"]).flatten)) = Hx7 at sx7 fx7
    have fx1 := sx7 _ _ fx1
    have fx2 := sx7 _ _ fx2
    have fx3 := sx7 _ _ fx3
    have fx4 := sx7 _ _ fx4
    have fx5 := sx7 _ _ fx5
    have fx6 := sx7 _ _ fx6
    have sn := sn.trans sx7
    refine ⟨small (by decide), fun x8 hx8 => ?_⟩
    have sx8 := same_new (o := .lst [V.str "BadDeed"]) hx8
    have fx8 : upd Hx7 x8 (.lst [V.str "BadDeed"]) x8 = some (.lst [V.str "BadDeed"]) := upd_same
    generalize upd Hx7 x8 (.lst [V.str "BadDeed"]) = Hx8 at sx8 fx8
    have fx1 := sx8 _ _ fx1
    have fx2 := sx8 _ _ fx2
    have fx3 := sx8 _ _ fx3
    have fx4 := sx8 _ _ fx4
    have fx5 := sx8 _ _ fx5
    have fx6 := sx8 _ _ fx6
    have fx7 := sx8 _ _ fx7
    have sn := sn.trans sx8
    refine ⟨x8, 2, _, rfl, rfl, fx8, by decide, by decide, small (by decide), fun x9 hx9 => ?_⟩
    have sx9 := same_new (o := .lst (List.replicate (Int.toNat 2) [V.str "BadDeed"]).flatten) hx9
    have fx9 : upd Hx8 x9 (.lst (List.replicate (Int.toNat 2) [V.str "BadDeed"]).flatten) x9 = some (.lst (List.replicate (Int.toNat 2) [V.str "BadDeed"]).flatten) := upd_same
    generalize upd Hx8 x9 (.lst (List.replicate (Int.toNat 2) [V.str "BadDeed"]).flatten) = Hx9 at sx9 fx9
    have fx1 := sx9 _ _ fx1
    have fx2 := sx9 _ _ fx2
    have fx3 := sx9 _ _ fx3
    have fx4 := sx9 _ _ fx4
    have fx5 := sx9 _ _ fx5
    have fx6 := sx9 _ _ fx6
    have fx7 := sx9 _ _ fx7
    have fx8 := sx9 _ _ fx8
    have sn := sn.trans sx9
    refine ⟨x7, x9, _, _, rfl, rfl, fx7, fx9, small (by decide), fun x10 hx10 => ?_⟩
    have sx10 := same_new (o := .lst (((List.replicate (Int.toNat 2) ([V.str "BadBase", V.str "BadWidth", V.str "BadName", V.str "BadWord", V.str "BadNumber", V.str "BadWeight", V.str "BadLetter", V.str "BadPlace", V.str "NoState"] ++ [V.str "NoEntry", V.str "NoPlane", V.str "Taken"])).flatten ++ (List.replicate (Int.toNat 2) [V.str "BadTable", V.str "BadScheme", V.str "BadPlane", V.str "BadPaper", V.str "BadStore", V.str "Unlike"]).flatten) ++ (List.replicate (Int.toNat 2) [V.str "BadDeed"]).flatten)) hx10
    have fx10 : upd Hx9 x10 (.lst (((List.replicate (Int.toNat 2) ([V.str "BadBase", V.str "BadWidth", V.str "BadName", V.str "BadWord", V.str "BadNumber", V.str "BadWeight", V.str "BadLetter", V.str "BadPlace", V.str "NoState"] ++ [V.str "NoEntry", V.str "NoPlane", V.str "Taken"])).flatten ++ (List.replicate (Int.toNat 2) [V.str "BadTable", V.str "BadScheme", V.str "BadPlane", V.str "BadPaper", V.str "BadStore", V.str "Unlike"]).flatten) ++ (List.replicate (Int.toNat 2) [V.str "BadDeed"]).flatten)) x10 = some (.lst (((List.replicate (Int.toNat 2) ([V.str "BadBase", V.str "BadWidth", V.str "BadName", V.str "BadWord", V.str "BadNumber", V.str "BadWeight", V.str "BadLetter", V.str "BadPlace", V.str "NoState"] ++ [V.str "NoEntry", V.str "NoPlane", V.str "Taken"])).flatten ++ (List.replicate (Int.toNat 2) [V.str "BadTable", V.str "BadScheme", V.str "BadPlane", V.str "BadPaper", V.str "BadStore", V.str "Unlike"]).flatten) ++ (List.replicate (Int.toNat 2) [V.str "BadDeed"]).flatten)) := upd_same
    generalize upd Hx9 x10 (.lst (((List.replicate (Int.toNat 2) ([V.str "BadBase", V.str "BadWidth", V.str "BadName", V.str "BadWord", V.str "BadNumber", V.str "BadWeight", V.str "BadLetter", V.str "BadPlace", V.str "NoState"] ++ [V.str "NoEntry", V.str "NoPlane", V.str "Taken"])).flatten ++ (List.replicate (Int.toNat 2) [V.str "BadTable", V.str "BadScheme", V.str "BadPlane", V.str "BadPaper", V.str "BadStore", V.str "Unlike"]).flatten) ++ (List.replicate (Int.toNat 2) [V.str "BadDeed"]).flatten)) = Hx10 at sx10 fx10
    have fx1 := sx10 _ _ fx1
    have fx2 := sx10 _ _ fx2
    have fx3 := sx10 _ _ fx3
    have fx4 := sx10 _ _ fx4
    have fx5 := sx10 _ _ fx5
    have fx6 := sx10 _ _ fx6
    have fx7 := sx10 _ _ fx7
    have fx8 := sx10 _ _ fx8
    have fx9 := sx10 _ _ fx9
    have sn := sn.trans sx10
    refine ⟨small (by decide), fun x11 hx11 => ?_⟩
    have sx11 := same_new (o := .lst [V.str "BadCommand"]) hx11
    have fx11 : upd Hx10 x11 (.lst [V.str "BadCommand"]) x11 = some (.lst [V.str "BadCommand"]) := upd_same
    generalize upd Hx10 x11 (.lst [V.str "BadCommand"]) = Hx11 at sx11 fx11
    have fx1 := sx11 _ _ fx1
    have fx2 := sx11 _ _ fx2
    have fx3 := sx11 _ _ fx3
    have fx4 := sx11 _ _ fx4
    have fx5 := sx11 _ _ fx5
    have fx6 := sx11 _ _ fx6
    have fx7 := sx11 _ _ fx7
    have fx8 := sx11 _ _ fx8
    have fx9 := sx11 _ _ fx9
    have fx10 := sx11 _ _ fx10
    have sn := sn.trans sx11
    refine ⟨x11, 2, _, rfl, rfl, fx11, by decide, by decide, small (by decide), fun x12 hx12 => ?_⟩
    have sx12 := same_new (o := .lst (List.replicate (Int.toNat 2) [V.str "BadCommand"]).flatten) hx12
    have fx12 : upd Hx11 x12 (.lst (List.replicate (Int.toNat 2) [V.str "BadCommand"]).flatten) x12 = some (.lst (List.replicate (Int.toNat 2) [V.str "BadCommand"]).flatten) := upd_same
    generalize upd Hx11 x12 (.lst (List.replicate (Int.toNat 2) [V.str "BadCommand"]).flatten) = Hx12 at sx12 fx12
    have fx1 := sx12 _ _ fx1
    have fx2 := sx12 _ _ fx2
    have fx3 := sx12 _ _ fx3
    have fx4 := sx12 _ _ fx4
    have fx5 := sx12 _ _ fx5
    have fx6 := sx12 _ _ fx6
    have fx7 := sx12 _ _ fx7
    have fx8 := sx12 _ _ fx8
    have fx9 := sx12 _ _ fx9
    have fx10 := sx12 _ _ fx10
    have fx11 := sx12 _ _ fx11
    have sn := sn.trans sx12
    refine ⟨x10, x12, _, _, rfl, rfl, fx10, fx12, small (by decide), fun x13 hx13 => ?_⟩
    have sx13 := same_new (o := .lst ((((List.replicate (Int.toNat 2) ([V.str "BadBase", V.str "BadWidth", V.str "BadName", V.str "BadWord", V.str "BadNumber", V.str "BadWeight", V.str "BadLetter", V.str "BadPlace", V.str "NoState"] ++ [V.str "NoEntry", V.str "NoPlane", V.str "Taken"])).flatten ++ (List.replicate (Int.toNat 2) [V.str "BadTable", V.str "BadScheme", V.str "BadPlane", V.str "BadPaper", V.str "BadStore", V.str "Unlike"]).flatten) ++ (List.replicate (Int.toNat 2) [V.str "BadDeed"]).flatten) ++ (List.replicate (Int.toNat 2) [V.str "BadCommand"]).flatten)) hx13
    have fx13 : upd Hx12 x13 (.lst ((((List.replicate (Int.toNat 2) ([V.str "BadBase", V.str "BadWidth", V.str "BadName", V.str "BadWord", V.str "BadNumber", V.str "BadWeight", V.str "BadLetter", V.str "BadPlace", V.str "NoState"] ++ [V.str "NoEntry", V.str "NoPlane", V.str "Taken"])).flatten ++ (List.replicate (Int.toNat 2) [V.str "BadTable", V.str "BadScheme", V.str "BadPlane", V.str "BadPaper", V.str "BadStore", V.str "Unlike"]).flatten) ++ (List.replicate (Int.toNat 2) [V.str "BadDeed"]).flatten) ++ (List.replicate (Int.toNat 2) [V.str "BadCommand"]).flatten)) x13 = some (.lst ((((List.replicate (Int.toNat 2) ([V.str "BadBase", V.str "BadWidth", V.str "BadName", V.str "BadWord", V.str "BadNumber", V.str "BadWeight", V.str "BadLetter", V.str "BadPlace", V.str "NoState"] ++ [V.str "NoEntry", V.str "NoPlane", V.str "Taken"])).flatten ++ (List.replicate (Int.toNat 2) [V.str "BadTable", V.str "BadScheme", V.str "BadPlane", V.str "BadPaper", V.str "BadStore", V.str "Unlike"]).flatten) ++ (List.replicate (Int.toNat 2) [V.str "BadDeed"]).flatten) ++ (List.replicate (Int.toNat 2) [V.str "BadCommand"]).flatten)) := upd_same
    generalize upd Hx12 x13 (.lst ((((List.replicate (Int.toNat 2) ([V.str "BadBase", V.str "BadWidth", V.str "BadName", V.str "BadWord", V.str "BadNumber", V.str "BadWeight", V.str "BadLetter", V.str "BadPlace", V.str "NoState"] ++ [V.str "NoEntry", V.str "NoPlane", V.str "Taken"])).flatten ++ (List.replicate (Int.toNat 2) [V.str "BadTable", V.str "BadScheme", V.str "BadPlane", V.str "BadPaper", V.str "BadStore", V.str "Unlike"]).flatten) ++ (List.replicate (Int.toNat 2) [V.str "BadDeed"]).flatten) ++ (List.replicate (Int.toNat 2) [V.str "BadCommand"]).flatten)) = Hx13 at sx13 fx13
    have fx1 := sx13 _ _ fx1
    have fx2 := sx13 _ _ fx2
    have fx3 := sx13 _ _ fx3
    have fx4 := sx13 _ _ fx4
    have fx5 := sx13 _ _ fx5
    have fx6 := sx13 _ _ fx6
    have fx7 := sx13 _ _ fx7
    have fx8 := sx13 _ _ fx8
    have fx9 := sx13 _ _ fx9
    have fx10 := sx13 _ _ fx10
    have fx11 := sx13 _ _ fx11
    have fx12 := sx13 _ _ fx12
    have sn := sn.trans sx13
    show tSeq _ _ _ [some (.ref a), some (.ref p), some (.ref lo), some (.ref lt), some (.ref M), some (.ref x13), some (.ref x2), none, none, none] _
    refine ⟨_, rfl, ?_⟩
    refine ⟨small (by decide), fun x14 hx14 => ?_⟩
    have sx14 := same_new (o := .lst [V.str "BadText"]) hx14
    have fx14 : upd Hx13 x14 (.lst [V.str "BadText"]) x14 = some (.lst [V.str "BadText"]) := upd_same
    generalize upd Hx13 x14 (.lst [V.str "BadText"]) = Hx14 at sx14 fx14
    have fx1 := sx14 _ _ fx1
    have fx2 := sx14 _ _ fx2
    have fx3 := sx14 _ _ fx3
    have fx4 := sx14 _ _ fx4
    have fx5 := sx14 _ _ fx5
    have fx6 := sx14 _ _ fx6
    have fx7 := sx14 _ _ fx7
    have fx8 := sx14 _ _ fx8
    have fx9 := sx14 _ _ fx9
    have fx10 := sx14 _ _ fx10
    have fx11 := sx14 _ _ fx11
    have fx12 := sx14 _ _ fx12
    have fx13 := sx14 _ _ fx13
    have sn := sn.trans sx14
    refine ⟨x14, 2, _, rfl, rfl, fx14, by decide, by decide, small (by decide), fun x15 hx15 => ?_⟩
    have sx15 := same_new (o := .lst (List.replicate (Int.toNat 2) [V.str "BadText"]).flatten) hx15
    have fx15 : upd Hx14 x15 (.lst (List.replicate (Int.toNat 2) [V.str "BadText"]).flatten) x15 = some (.lst (List.replicate (Int.toNat 2) [V.str "BadText"]).flatten) := upd_same
    generalize upd Hx14 x15 (.lst (List.replicate (Int.toNat 2) [V.str "BadText"]).flatten) = Hx15 at sx15 fx15
    have fx1 := sx15 _ _ fx1
    have fx2 := sx15 _ _ fx2
    have fx3 := sx15 _ _ fx3
    have fx4 := sx15 _ _ fx4
    have fx5 := sx15 _ _ fx5
    have fx6 := sx15 _ _ fx6
    have fx7 := sx15 _ _ fx7
    have fx8 := sx15 _ _ fx8
    have fx9 := sx15 _ _ fx9
    have fx10 := sx15 _ _ fx10
    have fx11 := sx15 _ _ fx11
    have fx12 := sx15 _ _ fx12
    have fx13 := sx15 _ _ fx13
    have fx14 := sx15 _ _ fx14
    have sn := sn.trans sx15
    refine ⟨x13, x15, _, _, rfl, rfl, fx13, fx15, small (by decide), fun x16 hx16 => ?_⟩
    have sx16 := same_new (o := .lst (((((List.replicate (Int.toNat 2) ([V.str "BadBase", V.str "BadWidth", V.str "BadName", V.str "BadWord", V.str "BadNumber", V.str "BadWeight", V.str "BadLetter", V.str "BadPlace", V.str "NoState"] ++ [V.str "NoEntry", V.str "NoPlane", V.str "Taken"])).flatten ++ (List.replicate (Int.toNat 2) [V.str "BadTable", V.str "BadScheme", V.str "BadPlane", V.str "BadPaper", V.str "BadStore", V.str "Unlike"]).flatten) ++ (List.replicate (Int.toNat 2) [V.str "BadDeed"]).flatten) ++ (List.replicate (Int.toNat 2) [V.str "BadCommand"]).flatten) ++ (List.replicate (Int.toNat 2) [V.str "BadText"]).flatten)) hx16
    have fx16 : upd Hx15 x16 (.lst (((((List.replicate (Int.toNat 2) ([V.str "BadBase", V.str "BadWidth", V.str "BadName", V.str "BadWord", V.str "BadNumber", V.str "BadWeight", V.str "BadLetter", V.str "BadPlace", V.str "NoState"] ++ [V.str "NoEntry", V.str "NoPlane", V.str "Taken"])).flatten ++ (List.replicate (Int.toNat 2) [V.str "BadTable", V.str "BadScheme", V.str "BadPlane", V.str "BadPaper", V.str "BadStore", V.str "Unlike"]).flatten) ++ (List.replicate (Int.toNat 2) [V.str "BadDeed"]).flatten) ++ (List.replicate (Int.toNat 2) [V.str "BadCommand"]).flatten) ++ (List.replicate (Int.toNat 2) [V.str "BadText"]).flatten)) x16 = some (.lst (((((List.replicate (Int.toNat 2) ([V.str "BadBase", V.str "BadWidth", V.str "BadName", V.str "BadWord", V.str "BadNumber", V.str "BadWeight", V.str "BadLetter", V.str "BadPlace", V.str "NoState"] ++ [V.str "NoEntry", V.str "NoPlane", V.str "Taken"])).flatten ++ (List.replicate (Int.toNat 2) [V.str "BadTable", V.str "BadScheme", V.str "BadPlane", V.str "BadPaper", V.str "BadStore", V.str "Unlike"]).flatten) ++ (List.replicate (Int.toNat 2) [V.str "BadDeed"]).flatten) ++ (List.replicate (Int.toNat 2) [V.str "BadCommand"]).flatten) ++ (List.replicate (Int.toNat 2) [V.str "BadText"]).flatten)) := upd_same
    generalize upd Hx15 x16 (.lst (((((List.replicate (Int.toNat 2) ([V.str "BadBase", V.str "BadWidth", V.str "BadName", V.str "BadWord", V.str "BadNumber", V.str "BadWeight", V.str "BadLetter", V.str "BadPlace", V.str "NoState"] ++ [V.str "NoEntry", V.str "NoPlane", V.str "Taken"])).flatten ++ (List.replicate (Int.toNat 2) [V.str "BadTable", V.str "BadScheme", V.str "BadPlane", V.str "BadPaper", V.str "BadStore", V.str "Unlike"]).flatten) ++ (List.replicate (Int.toNat 2) [V.str "BadDeed"]).flatten) ++ (List.replicate (Int.toNat 2) [V.str "BadCommand"]).flatten) ++ (List.replicate (Int.toNat 2) [V.str "BadText"]).flatten)) = Hx16 at sx16 fx16
    have fx1 := sx16 _ _ fx1
    have fx2 := sx16 _ _ fx2
    have fx3 := sx16 _ _ fx3
    have fx4 := sx16 _ _ fx4
    have fx5 := sx16 _ _ fx5
    have fx6 := sx16 _ _ fx6
    have fx7 := sx16 _ _ fx7
    have fx8 := sx16 _ _ fx8
    have fx9 := sx16 _ _ fx9
    have fx10 := sx16 _ _ fx10
    have fx11 := sx16 _ _ fx11
    have fx12 := sx16 _ _ fx12
    have fx13 := sx16 _ _ fx13
    have fx14 := sx16 _ _ fx14
    have fx15 := sx16 _ _ fx15
    have sn := sn.trans sx16
    refine ⟨small (by decide), fun x17 hx17 => ?_⟩
    have sx17 := same_new (o := .lst [V.str "TooMany"]) hx17
    have fx17 : upd Hx16 x17 (.lst [V.str "TooMany"]) x17 = some (.lst [V.str "TooMany"]) := upd_same
    generalize upd Hx16 x17 (.lst [V.str "TooMany"]) = Hx17 at sx17 fx17
    have fx1 := sx17 _ _ fx1
    have fx2 := sx17 _ _ fx2
    have fx3 := sx17 _ _ fx3
    have fx4 := sx17 _ _ fx4
    have fx5 := sx17 _ _ fx5
    have fx6 := sx17 _ _ fx6
    have fx7 := sx17 _ _ fx7
    have fx8 := sx17 _ _ fx8
    have fx9 := sx17 _ _ fx9
    have fx10 := sx17 _ _ fx10
    have fx11 := sx17 _ _ fx11
    have fx12 := sx17 _ _ fx12
    have fx13 := sx17 _ _ fx13
    have fx14 := sx17 _ _ fx14
    have fx15 := sx17 _ _ fx15
    have fx16 := sx17 _ _ fx16
    have sn := sn.trans sx17
    refine ⟨x17, 2, _, rfl, rfl, fx17, by decide, by decide, small (by decide), fun x18 hx18 => ?_⟩
    have sx18 := same_new (o := .lst (List.replicate (Int.toNat 2) [V.str "TooMany"]).flatten) hx18
    have fx18 : upd Hx17 x18 (.lst (List.replicate (Int.toNat 2) [V.str "TooMany"]).flatten) x18 = some (.lst (List.replicate (Int.toNat 2) [V.str "TooMany"]).flatten) := upd_same
    generalize upd Hx17 x18 (.lst (List.replicate (Int.toNat 2) [V.str "TooMany"]).flatten) = Hx18 at sx18 fx18
    have fx1 := sx18 _ _ fx1
    have fx2 := sx18 _ _ fx2
    have fx3 := sx18 _ _ fx3
    have fx4 := sx18 _ _ fx4
    have fx5 := sx18 _ _ fx5
    have fx6 := sx18 _ _ fx6
    have fx7 := sx18 _ _ fx7
    have fx8 := sx18 _ _ fx8
    have fx9 := sx18 _ _ fx9
    have fx10 := sx18 _ _ fx10
    have fx11 := sx18 _ _ fx11
    have fx12 := sx18 _ _ fx12
    have fx13 := sx18 _ _ fx13
    have fx14 := sx18 _ _ fx14
    have fx15 := sx18 _ _ fx15
    have fx16 := sx18 _ _ fx16
    have fx17 := sx18 _ _ fx17
    have sn := sn.trans sx18
    refine ⟨x16, x18, _, _, rfl, rfl, fx16, fx18, small (by decide), fun x19 hx19 => ?_⟩
    have sx19 := same_new (o := .lst ((((((List.replicate (Int.toNat 2) ([V.str "BadBase", V.str "BadWidth", V.str "BadName", V.str "BadWord", V.str "BadNumber", V.str "BadWeight", V.str "BadLetter", V.str "BadPlace", V.str "NoState"] ++ [V.str "NoEntry", V.str "NoPlane", V.str "Taken"])).flatten ++ (List.replicate (Int.toNat 2) [V.str "BadTable", V.str "BadScheme", V.str "BadPlane", V.str "BadPaper", V.str "BadStore", V.str "Unlike"]).flatten) ++ (List.replicate (Int.toNat 2) [V.str "BadDeed"]).flatten) ++ (List.replicate (Int.toNat 2) [V.str "BadCommand"]).flatten) ++ (List.replicate (Int.toNat 2) [V.str "BadText"]).flatten) ++ (List.replicate (Int.toNat 2) [V.str "TooMany"]).flatten)) hx19
    have fx19 : upd Hx18 x19 (.lst ((((((List.replicate (Int.toNat 2) ([V.str "BadBase", V.str "BadWidth", V.str "BadName", V.str "BadWord", V.str "BadNumber", V.str "BadWeight", V.str "BadLetter", V.str "BadPlace", V.str "NoState"] ++ [V.str "NoEntry", V.str "NoPlane", V.str "Taken"])).flatten ++ (List.replicate (Int.toNat 2) [V.str "BadTable", V.str "BadScheme", V.str "BadPlane", V.str "BadPaper", V.str "BadStore", V.str "Unlike"]).flatten) ++ (List.replicate (Int.toNat 2) [V.str "BadDeed"]).flatten) ++ (List.replicate (Int.toNat 2) [V.str "BadCommand"]).flatten) ++ (List.replicate (Int.toNat 2) [V.str "BadText"]).flatten) ++ (List.replicate (Int.toNat 2) [V.str "TooMany"]).flatten)) x19 = some (.lst ((((((List.replicate (Int.toNat 2) ([V.str "BadBase", V.str "BadWidth", V.str "BadName", V.str "BadWord", V.str "BadNumber", V.str "BadWeight", V.str "BadLetter", V.str "BadPlace", V.str "NoState"] ++ [V.str "NoEntry", V.str "NoPlane", V.str "Taken"])).flatten ++ (List.replicate (Int.toNat 2) [V.str "BadTable", V.str "BadScheme", V.str "BadPlane", V.str "BadPaper", V.str "BadStore", V.str "Unlike"]).flatten) ++ (List.replicate (Int.toNat 2) [V.str "BadDeed"]).flatten) ++ (List.replicate (Int.toNat 2) [V.str "BadCommand"]).flatten) ++ (List.replicate (Int.toNat 2) [V.str "BadText"]).flatten) ++ (List.replicate (Int.toNat 2) [V.str "TooMany"]).flatten)) := upd_same
    generalize upd Hx18 x19 (.lst ((((((List.replicate (Int.toNat 2) ([V.str "BadBase", V.str "BadWidth", V.str "BadName", V.str "BadWord", V.str "BadNumber", V.str "BadWeight", V.str "BadLetter", V.str "BadPlace", V.str "NoState"] ++ [V.str "NoEntry", V.str "NoPlane", V.str "Taken"])).flatten ++ (List.replicate (Int.toNat 2) [V.str "BadTable", V.str "BadScheme", V.str "BadPlane", V.str "BadPaper", V.str "BadStore", V.str "Unlike"]).flatten) ++ (List.replicate (Int.toNat 2) [V.str "BadDeed"]).flatten) ++ (List.replicate (Int.toNat 2) [V.str "BadCommand"]).flatten) ++ (List.replicate (Int.toNat 2) [V.str "BadText"]).flatten) ++ (List.replicate (Int.toNat 2) [V.str "TooMany"]).flatten)) = Hx19 at sx19 fx19
    have fx1 := sx19 _ _ fx1
    have fx2 := sx19 _ _ fx2
    have fx3 := sx19 _ _ fx3
    have fx4 := sx19 _ _ fx4
    have fx5 := sx19 _ _ fx5
    have fx6 := sx19 _ _ fx6
    have fx7 := sx19 _ _ fx7
    have fx8 := sx19 _ _ fx8
    have fx9 := sx19 _ _ fx9
    have fx10 := sx19 _ _ fx10
    have fx11 := sx19 _ _ fx11
    have fx12 := sx19 _ _ fx12
    have fx13 := sx19 _ _ fx13
    have fx14 := sx19 _ _ fx14
    have fx15 := sx19 _ _ fx15
    have fx16 := sx19 _ _ fx16
    have fx17 := sx19 _ _ fx17
    have fx18 := sx19 _ _ fx18
    have sn := sn.trans sx19
    refine ⟨small (by decide), fun x20 hx20 => ?_⟩
    have sx20 := same_new (o := .lst [V.str "Nothing"]) hx20
    have fx20 : upd Hx19 x20 (.lst [V.str "Nothing"]) x20 = some (.lst [V.str "Nothing"]) := upd_same
    generalize upd Hx19 x20 (.lst [V.str "Nothing"]) = Hx20 at sx20 fx20
    have fx1 := sx20 _ _ fx1
    have fx2 := sx20 _ _ fx2
    have fx3 := sx20 _ _ fx3
    have fx4 := sx20 _ _ fx4
    have fx5 := sx20 _ _ fx5
    have fx6 := sx20 _ _ fx6
    have fx7 := sx20 _ _ fx7
    have fx8 := sx20 _ _ fx8
    have fx9 := sx20 _ _ fx9
    have fx10 := sx20 _ _ fx10
    have fx11 := sx20 _ _ fx11
    have fx12 := sx20 _ _ fx12
    have fx13 := sx20 _ _ fx13
    have fx14 := sx20 _ _ fx14
    have fx15 := sx20 _ _ fx15
    have fx16 := sx20 _ _ fx16
    have fx17 := sx20 _ _ fx17
    have fx18 := sx20 _ _ fx18
    have fx19 := sx20 _ _ fx19
    have sn := sn.trans sx20
    refine ⟨x19, x20, _, _, rfl, rfl, fx19, fx20, small (by decide), fun x21 hx21 => ?_⟩
    have sx21 := same_new (o := .lst (((((((List.replicate (Int.toNat 2) ([V.str "BadBase", V.str "BadWidth", V.str "BadName", V.str "BadWord", V.str "BadNumber", V.str "BadWeight", V.str "BadLetter", V.str "BadPlace", V.str "NoState"] ++ [V.str "NoEntry", V.str "NoPlane", V.str "Taken"])).flatten ++ (List.replicate (Int.toNat 2) [V.str "BadTable", V.str "BadScheme", V.str "BadPlane", V.str "BadPaper", V.str "BadStore", V.str "Unlike"]).flatten) ++ (List.replicate (Int.toNat 2) [V.str "BadDeed"]).flatten) ++ (List.replicate (Int.toNat 2) [V.str "BadCommand"]).flatten) ++ (List.replicate (Int.toNat 2) [V.str "BadText"]).flatten) ++ (List.replicate (Int.toNat 2) [V.str "TooMany"]).flatten) ++ [V.str "Nothing"])) hx21
    have fx21 : upd Hx20 x21 (.lst (((((((List.replicate (Int.toNat 2) ([V.str "BadBase", V.str "BadWidth", V.str "BadName", V.str "BadWord", V.str "BadNumber", V.str "BadWeight", V.str "BadLetter", V.str "BadPlace", V.str "NoState"] ++ [V.str "NoEntry", V.str "NoPlane", V.str "Taken"])).flatten ++ (List.replicate (Int.toNat 2) [V.str "BadTable", V.str "BadScheme", V.str "BadPlane", V.str "BadPaper", V.str "BadStore", V.str "Unlike"]).flatten) ++ (List.replicate (Int.toNat 2) [V.str "BadDeed"]).flatten) ++ (List.replicate (Int.toNat 2) [V.str "BadCommand"]).flatten) ++ (List.replicate (Int.toNat 2) [V.str "BadText"]).flatten) ++ (List.replicate (Int.toNat 2) [V.str "TooMany"]).flatten) ++ [V.str "Nothing"])) x21 = some (.lst (((((((List.replicate (Int.toNat 2) ([V.str "BadBase", V.str "BadWidth", V.str "BadName", V.str "BadWord", V.str "BadNumber", V.str "BadWeight", V.str "BadLetter", V.str "BadPlace", V.str "NoState"] ++ [V.str "NoEntry", V.str "NoPlane", V.str "Taken"])).flatten ++ (List.replicate (Int.toNat 2) [V.str "BadTable", V.str "BadScheme", V.str "BadPlane", V.str "BadPaper", V.str "BadStore", V.str "Unlike"]).flatten) ++ (List.replicate (Int.toNat 2) [V.str "BadDeed"]).flatten) ++ (List.replicate (Int.toNat 2) [V.str "BadCommand"]).flatten) ++ (List.replicate (Int.toNat 2) [V.str "BadText"]).flatten) ++ (List.replicate (Int.toNat 2) [V.str "TooMany"]).flatten) ++ [V.str "Nothing"])) := upd_same
    generalize upd Hx20 x21 (.lst (((((((List.replicate (Int.toNat 2) ([V.str "BadBase", V.str "BadWidth", V.str "BadName", V.str "BadWord", V.str "BadNumber", V.str "BadWeight", V.str "BadLetter", V.str "BadPlace", V.str "NoState"] ++ [V.str "NoEntry", V.str "NoPlane", V.str "Taken"])).flatten ++ (List.replicate (Int.toNat 2) [V.str "BadTable", V.str "BadScheme", V.str "BadPlane", V.str "BadPaper", V.str "BadStore", V.str "Unlike"]).flatten) ++ (List.replicate (Int.toNat 2) [V.str "BadDeed"]).flatten) ++ (List.replicate (Int.toNat 2) [V.str "BadCommand"]).flatten) ++ (List.replicate (Int.toNat 2) [V.str "BadText"]).flatten) ++ (List.replicate (Int.toNat 2) [V.str "TooMany"]).flatten) ++ [V.str "Nothing"])) = Hx21 at sx21 fx21
    have fx1 := sx21 _ _ fx1
    have fx2 := sx21 _ _ fx2
    have fx3 := sx21 _ _ fx3
    have fx4 := sx21 _ _ fx4
    have fx5 := sx21 _ _ fx5
    have fx6 := sx21 _ _ fx6
    have fx7 := sx21 _ _ fx7
    have fx8 := sx21 _ _ fx8
    have fx9 := sx21 _ _ fx9
    have fx10 := sx21 _ _ fx10
    have fx11 := sx21 _ _ fx11
    have fx12 := sx21 _ _ fx12
    have fx13 := sx21 _ _ fx13
    have fx14 := sx21 _ _ fx14
    have fx15 := sx21 _ _ fx15
    have fx16 := sx21 _ _ fx16
    have fx17 := sx21 _ _ fx17
    have fx18 := sx21 _ _ fx18
    have fx19 := sx21 _ _ fx19
    have fx20 := sx21 _ _ fx20
    have sn := sn.trans sx21
    have fin : (((((((List.replicate (Int.toNat 2) ([V.str "BadBase", V.str "BadWidth", V.str "BadName", V.str "BadWord", V.str "BadNumber", V.str "BadWeight", V.str "BadLetter", V.str "BadPlace", V.str "NoState"] ++ [V.str "NoEntry", V.str "NoPlane", V.str "Taken"])).flatten ++ (List.replicate (Int.toNat 2) [V.str "BadTable", V.str "BadScheme", V.str "BadPlane", V.str "BadPaper", V.str "BadStore", V.str "Unlike"]).flatten) ++ (List.replicate (Int.toNat 2) [V.str "BadDeed"]).flatten) ++ (List.replicate (Int.toNat 2) [V.str "BadCommand"]).flatten) ++ (List.replicate (Int.toNat 2) [V.str "BadText"]).flatten) ++ (List.replicate (Int.toNat 2) [V.str "TooMany"]).flatten) ++ [V.str "Nothing"]) = cl45.map fun c => V.str (nm c) := by decide +kernel
    rw [fin] at fx21
    have eM := sn _ _ (sBF _ _ eB)
    have sBZ := sBF.trans sn
    refine ⟨_, rfl, M, rfl, ⟨_, SqL.of eM⟩, fun D5 hD5 => lc_list (K := K) (a := M) (xs := em5.map V.ref) (fun i H' => Same Hx21 H' ∧ ∃ ls : List Addr, H' D5 = some (.lst (ls.map V.ref)) ∧ Paired (RL H') (cl45.take i) ls) ⟨same_new hD5, [], upd_same, .nil⟩ (fun i H' _ ⟨s', _⟩ => SqL.of (s' _ _ eM)) ?_ ?_⟩
    · rintro i v H' hi ⟨sF, ls, hF, pl⟩
      obtain ⟨e, he, rfl⟩ := mapref_get hi
      obtain ⟨cc, hc, hx, h23⟩ := lt23 he
      refine ⟨rfl, yesT ?_⟩
      refine ⟨_, rfl, e, cc, rfl, hx.same (sBZ.trans sF), h23, fun l H2 s2 hl => ⟨ls.map V.ref, s2 _ _ hF, ?_, fun b o z => ?_, ls ++ [l], ?_, ?_⟩⟩
      · have z := Paired.len pl
        rw [List.length_take, cl45_len] at z
        exact lt100 (by rw [List.length_map]; omega)
      · rw [upd_ne (ne_of_none z hD5)]
        exact s2 _ _ (sF _ _ z)
      · rw [upd_same, List.map_append]
        rfl
      · rw [take_succ hc]
        exact Paired.app (L2.Paired.mapP pl fun _ _ h => RL.put (s2 _ _ hF) (s2 _ _ h)) (.cons (RL.put (s2 _ _ hF) hl) .nil)
    rintro HG ⟨sG, ls, hD5', pl⟩
    have zem : em5.length = 45 := by rw [← Paired.len pB, cl45_len]
    have pl5 : Paired (RL HG) cl45 ls := by
      rw [List.length_map, zem, List.take_of_length_le (by rw [cl45_len]; exact Nat.le_refl _)] at pl
      exact pl
    have eN := sG _ _ fx21
    refine ⟨_, rfl, x21, rfl, ⟨_, SqL.of eN⟩, fun D6 hD6 => lc_list (K := K) (a := x21) (xs := cl45.map fun c => V.str (nm c)) (fun i H' => Same HG H' ∧ ∃ ls : List Addr, H' D6 = some (.lst (ls.map V.ref)) ∧ Paired (RL H') (cl45.take i) ls) ⟨same_new hD6, [], upd_same, .nil⟩ (fun i H' _ ⟨s', _⟩ => SqL.of (s' _ _ eN)) ?_ ?_⟩
    · rintro i v H' hi ⟨sF, ls, hF, pl⟩
      obtain ⟨cc, hc, rfl⟩ : ∃ cc, cl45[i]? = some cc ∧ v = V.str (nm cc) := by
        rw [List.getElem?_map] at hi
        cases q : cl45[i]? with
        | none => rw [q] at hi; cases hi
        | some cc => rw [q] at hi; exact ⟨cc, rfl, (Option.some.inj hi).symm⟩
      refine ⟨rfl, yesT ?_⟩
      refine ⟨_, rfl, small (by show 1 ≤ 1000; decide), fun l hl => ⟨ls.map V.ref, same_new hl _ _ hF, ?_, fun b o z => ?_, ls ++ [l], ?_, ?_⟩⟩
      · have z := Paired.len pl
        rw [List.length_take, cl45_len] at z
        exact lt100 (by rw [List.length_map]; omega)
      · rw [upd_ne (ne_of_none z hD6)]
        exact same_new hl _ _ (sF _ _ z)
      · rw [upd_same, List.map_append]
        rfl
      · rw [take_succ hc]
        exact Paired.app (L2.Paired.mapP pl fun _ _ h => RL.put (same_new hl _ _ hF) (same_new hl _ _ h)) (.cons (RL.put (same_new hl _ _ hF) upd_same) .nil)
    rintro HI ⟨sI, ls2, hD6', pl2⟩
    have pl6 : Paired (RL HI) cl45 ls2 := by
      rw [List.length_map, cl45_len, List.take_of_length_le (by rw [cl45_len]; exact Nat.le_refl _)] at pl2
      exact pl2
    refine ⟨wantD, wantD, .lst (SqL.of (sI _ _ hD5')) (RL.dps (L2.Paired.mapP pl5 fun _ _ h => sI _ _ h)), .lst (SqL.of hD6') (RL.dps pl6), wantD_ok, wantD_ok, ?_⟩
    rw [wantD_eq]
    exact k _
end
end Kone
namespace Kone
open PySem L2 Gd
/-! ### what the head has written, class by class -/
def CK (K : PySem.W.Frag) (S : Addr) (x : Str) (C : Addr) : Prop := ∀ (mg : Str → Option Value) (h : Heap), K.In h → h.Ns mainGlobals mg → XC K mg S x C
theorem ck_mk {K : PySem.W.Frag} {S C : Addr} {x : Str} {nm q : Str} {N : Addr} {bs : List Value} {sn : List Str} {sub : List Value} {ab : Bool} {col : Option Bool} {dd : Option Addr} {k0 k1 k2 k3 k5 : Option Value}
    (a : PySem.W.nsIn K mainGlobals x = some (some (.ref C)))
    (l : K.lookup C = some (excClassObj nm q C N bs [.ref S, .type "ValueError", .type "Exception", .type "BaseException", .type "object"] true sn sub ab col dd k0 k1 k2 k3 k5 "ValueError.__new__"))
    (sa : PySem.W.findIn K (.ref C) "__setattr__" = some (some (.builtin "object.__setattr__"))) (exC : PySem.W.subIn K (.ref C) (.type "BaseException") = some true) (tyC : PySem.W.typeIn K (.ref C) = some (.type "type")) (kC : PySem.W.keepIn K (.ref C) = true)
    (hg : PySem.W.findIn K (.ref C) "__getattribute__" = some (some (.builtin "BaseException.__getattribute__"))) (hk : PySem.W.findIn K (.ref C) "__getattr__" = some none) (hd : PySem.W.hasDictIn K C = true) (ha : PySem.W.findIn K (.ref C) "__class__" = some (some (.builtin "object.__class__")))
    (hn : PySem.W.specialIn K (.builtin "object.__class__") "__get__" = some (some (.builtin "getset_descriptor.__get__"))) (ht : PySem.W.takesIn K (.builtin "object.__class__") = some true) (hm : PySem.W.mroIn K C (.type "object") = some true) : CK K S x C := by
  intro mg h X G
  refine ⟨PySem.W.mg_of X G a, ⟨⟨_, _, _, _, _, _, _, _, _, _, _, _, _, _, _, l, rfl⟩, sa, exC, tyC, kC⟩, ⟨hg, hk, exC, hd, ha, hn, ht, hm⟩, ?_⟩
  unfold PySem.W.clsIn
  rw [l]
  exact ⟨_, rfl, rfl⟩
theorem vals_two {vs : List V} {us : List Value} (h : Vals vs us) : True := trivial
theorem kb_pos {K : PySem.W.Frag} {fd : FuncData} {ps : List Str} (h : ∀ us : List Value, us.length = ps.length → bindArgs fd ⟨us, []⟩ = pure (ps.zip us)) : KBinds K fd ps [] gPos gPos := by
  refine ⟨fun s us ws X hl => ?_, fun r _ => r⟩
  exact .of_eq (h us hl)
theorem kb_key {K : PySem.W.Frag} {fd : FuncData} {a f : Str} (h : ∀ u w : Value, bindArgs fd ⟨[u], [(f, w)]⟩ = pure [(a, u), (f, w)]) : KBinds K fd [a, f] [f] gKey gKey := by
  constructor
  · intro s us ws X hl
    match us, ws, hl with
    | [u], [w], _ => exact .of_eq (h u w)
    | [], _, hl => exact nomatch hl
    | [_], [], hl => exact nomatch hl
    | [_], _ :: _ :: _, hl => exact nomatch hl
    | _ :: _ :: _, _, hl => exact nomatch hl
  · intro vs us zs ws r q
    match r, q with
    | .cons r1 .nil, .cons q1 .nil => exact .cons r1 (.cons q1 .nil)
    | .nil, _ => exact .nil
    | .cons _ .nil, .nil => exact .nil
    | .cons _ .nil, .cons _ (.cons _ _) => exact .nil
    | .cons _ (.cons _ _), _ => exact .nil
theorem kb_key2 {K : PySem.W.Frag} {fd : FuncData} {a f1 f2 : Str} (h : ∀ u w1 w2 : Value, bindArgs fd ⟨[u], [(f2, w2), (f1, w1)]⟩ = pure [(a, u), (f1, w1), (f2, w2)]) : KBinds K fd [a, f1, f2] [f2, f1] gKey2 gKey2 := by
  constructor
  · intro s us ws X hl
    match us, ws, hl with
    | [u], [w2, w1], _ => exact .of_eq (h u w1 w2)
    | [], _, hl => exact nomatch hl
    | [_], [], hl => exact nomatch hl
    | [_], [_], hl => exact nomatch hl
    | [_], _ :: _ :: _ :: _, hl => exact nomatch hl
    | _ :: _ :: _, _, hl => exact nomatch hl
  · intro vs us zs ws r q
    match r, q with
    | .cons r1 .nil, .cons q1 (.cons q2 .nil) => exact .cons r1 (.cons q2 (.cons q1 .nil))
    | .nil, _ => exact .nil
    | .cons _ .nil, .nil => exact .nil
    | .cons _ .nil, .cons _ .nil => exact .nil
    | .cons _ .nil, .cons _ (.cons _ (.cons _ _)) => exact .nil
    | .cons _ (.cons _ _), _ => exact .nil
/-- the __init__ of one field -/
theorem i1_mk {K : PySem.W.Frag} {C fI : Addr} {f qual : Str} {st : Stmt} {oc : Value} {od an : Option Addr} {sl : Array (Option Value)} {kV dc pm cd ct : Value} {p1 p2 p3 p4 p5 p6 : Pos}
    (S : FnScope ["self", f] ["self", f] (defScope st)) (hB : defBody st = [.Assign [.Attribute (.Name "self" p1) f p2] (.Call (.Name "kept" p5) [.Name f p3] [] p6) p4]) (h0 : Vis (defScope st) "self") (h1 : Vis (defScope st) f) (hgk : (defScope st).names.lookup ("kept" : Str) = some .globalImplicit) (hd : (f == ("__debug__" : Str)) = false) (hc : (f == ("__classdict__" : Str)) = false)
    (b1 : ∀ (kV dc pm : Value) (an : Option Addr) (cd ct : Value) (us : List Value), us.length = 2 → bindArgs (PySem.W.fnOf "__init__" qual (defArgs st) (defBody st) (defScope st) .none kV dc pm an cd ct) ⟨us, []⟩ = pure ((["self", f] : List Str).zip us))
    (b2 : ∀ (kV dc pm : Value) (an : Option Addr) (cd ct : Value) (u w : Value), bindArgs (PySem.W.fnOf "__init__" qual (defArgs st) (defBody st) (defScope st) .none kV dc pm an cd ct) ⟨[u], [(f, w)]⟩ = pure [(("self" : Str), u), (f, w)])
    (a : PySem.W.findIn K (.ref C) "__init__" = some (some (.ref fI))) (t : PySem.W.typeIn K (.ref fI) = some (.type "function"))
    (l : K.lookup fI = some ⟨oc, od, .func (PySem.W.fnOf "__init__" qual (defArgs st) (defBody st) (defScope st) .none kV dc pm an cd ct), sl⟩) (c : PySem.W.codeIn K cd qual = true) (k : PySem.W.keepIn K (.ref fI) = true) (no : PySem.W.findIn K (.ref C) f = some none) :
    ∀ (P : Program) (w : World) (mg : Str → Option Value) (base : Heap), TxtK mg → ∀ {fK : Addr} {fdK : FuncData}, Def K mg "kept" sKept ["value"] fK fdK → I1 P w K mg base C f := fun P w mg base T _ _ U =>
  ⟨⟨fI, _, a, t, ok_init1 (fun_mk (st := st) l c k) T U S hB h0 h1 hgk hd hc, kb_pos (b1 kV dc pm an cd ct), kb_key (b2 kV dc pm an cd ct)⟩, no⟩
theorem i2_mk {K : PySem.W.Frag} {C fI : Addr} {f1 f2 qual : Str} {st : Stmt} {oc : Value} {od an : Option Addr} {sl : Array (Option Value)} {kV dc pm cd ct : Value} {p1 p2 p3 p4 p5 p6 q1 q2 q3 q4 q5 q6 : Pos}
    (S : FnScope ["self", f1, f2] ["self", f1, f2] (defScope st)) (hB : defBody st = [.Assign [.Attribute (.Name "self" p1) f1 p2] (.Call (.Name "kept" p5) [.Name f1 p3] [] p6) p4, .Assign [.Attribute (.Name "self" q1) f2 q2] (.Call (.Name "kept" q5) [.Name f2 q3] [] q6) q4])
    (h0 : Vis (defScope st) "self") (h1 : Vis (defScope st) f1) (h2 : Vis (defScope st) f2) (hgk : (defScope st).names.lookup ("kept" : Str) = some .globalImplicit) (hd : (f1 == ("__debug__" : Str)) = false) (hc : (f1 == ("__classdict__" : Str)) = false) (hd2 : (f2 == ("__debug__" : Str)) = false) (hc2 : (f2 == ("__classdict__" : Str)) = false)
    (b1 : ∀ (kV dc pm : Value) (an : Option Addr) (cd ct : Value) (us : List Value), us.length = 3 → bindArgs (PySem.W.fnOf "__init__" qual (defArgs st) (defBody st) (defScope st) .none kV dc pm an cd ct) ⟨us, []⟩ = pure ((["self", f1, f2] : List Str).zip us))
    (b2 : ∀ (kV dc pm : Value) (an : Option Addr) (cd ct : Value) (u w1 w2 : Value), bindArgs (PySem.W.fnOf "__init__" qual (defArgs st) (defBody st) (defScope st) .none kV dc pm an cd ct) ⟨[u], [(f2, w2), (f1, w1)]⟩ = pure [(("self" : Str), u), (f1, w1), (f2, w2)])
    (a : PySem.W.findIn K (.ref C) "__init__" = some (some (.ref fI))) (t : PySem.W.typeIn K (.ref fI) = some (.type "function"))
    (l : K.lookup fI = some ⟨oc, od, .func (PySem.W.fnOf "__init__" qual (defArgs st) (defBody st) (defScope st) .none kV dc pm an cd ct), sl⟩) (c : PySem.W.codeIn K cd qual = true) (k : PySem.W.keepIn K (.ref fI) = true) (n1 : PySem.W.findIn K (.ref C) f1 = some none) (n2 : PySem.W.findIn K (.ref C) f2 = some none) :
    ∀ (P : Program) (w : World) (mg : Str → Option Value) (base : Heap), TxtK mg → ∀ {fK : Addr} {fdK : FuncData}, Def K mg "kept" sKept ["value"] fK fdK → I2 P w K mg base C f1 f2 := fun P w mg base T _ _ U =>
  ⟨⟨fI, _, a, t, ok_init2 (fun_mk (st := st) l c k) T U S hB h0 h1 h2 hgk hd hc hd2 hc2, kb_pos (b1 kV dc pm an cd ct), kb_key2 (b2 kV dc pm an cd ct)⟩, n1, n2⟩
/-- a def of the module -/
theorem d_mk {K : PySem.W.Frag} {x : Str} {st : Stmt} {ps : List Str} {f : Addr} {oc : Value} {od an : Option Addr} {sl : Array (Option Value)} {kV dc pm cd ct : Value}
    (b : ∀ (kV dc pm : Value) (an : Option Addr) (cd ct : Value) (us : List Value), us.length = ps.length → bindArgs (PySem.W.fnOf x x (defArgs st) (defBody st) (defScope st) .none kV dc pm an cd ct) ⟨us, []⟩ = pure (ps.zip us))
    (a : PySem.W.nsIn K mainGlobals x = some (some (.ref f))) (l : K.lookup f = some ⟨oc, od, .func (PySem.W.fnOf x x (defArgs st) (defBody st) (defScope st) .none kV dc pm an cd ct), sl⟩) (c : PySem.W.codeIn K cd x = true) (k : PySem.W.keepIn K (.ref f) = true) :
    ∀ (mg : Str → Option Value) (h : Heap), K.In h → h.Ns mainGlobals mg → ∃ fd, Def K mg x st ps f fd := fun mg h X G => by
  have F := fun_mk (st := st) l c k
  exact ⟨_, PySem.W.mg_of X G a, k, F.binds b, F⟩
/-- one of the inits, by the text -/
theorem s1 : ∀ i f, (i, f) ∈ flds → FnScope ["self", f] ["self", f] (defScope (sInit i)) := by
  intro i f h
  simp only [flds, List.mem_cons, Prod.mk.injEq, List.not_mem_nil, or_false] at h
  rcases h with ⟨rfl, rfl⟩ | ⟨rfl, rfl⟩ | ⟨rfl, rfl⟩ | ⟨rfl, rfl⟩ | ⟨rfl, rfl⟩ | ⟨rfl, rfl⟩ | ⟨rfl, rfl⟩ | ⟨rfl, rfl⟩ | ⟨rfl, rfl⟩ | ⟨rfl, rfl⟩ | ⟨rfl, rfl⟩ | ⟨rfl, rfl⟩ | ⟨rfl, rfl⟩ | ⟨rfl, rfl⟩ | ⟨rfl, rfl⟩ | ⟨rfl, rfl⟩ | ⟨rfl, rfl⟩ | ⟨rfl, rfl⟩ | ⟨rfl, rfl⟩ | ⟨rfl, rfl⟩
  all_goals exact ⟨rfl, rfl, rfl, by decide +kernel, rfl, by decide +kernel, by decide +kernel⟩
end Kone
namespace Kone
open PySem L2 Gd
theorem getD_get {l : List Addr} {i : Nat} (hi : i < l.length) : l.getD i 0 = l[i] := by
  show (l[i]?).getD 0 = l[i]
  rw [List.getElem?_eq_getElem hi]
  rfl
theorem getD_inj {l : List Addr} (h : l.Nodup) {i j : Nat} (hi : i < l.length) (hj : j < l.length) (e : l.getD i 0 = l.getD j 0) : i = j := by
  rw [getD_get hi, getD_get hj] at e
  exact (List.getElem_inj h).mp e
theorem dl_mk {K : PySem.W.Frag} {f : Addr} {oc : Value} {od an : Option Addr} {sl : Array (Option Value)} {kV dc pm cd ct : Value}
    (a : PySem.W.nsIn K mainGlobals "law" = some (some (.ref f))) (l : K.lookup f = some ⟨oc, od, .func (PySem.W.fnOf "law" "law" (defArgs sLaw) (defBody sLaw) (defScope sLaw) .none kV dc pm an cd ct), sl⟩) (c : PySem.W.codeIn K cd "law" = true) (k : PySem.W.keepIn K (.ref f) = true) :
    ∀ (mg : Str → Option Value) (h : Heap), K.In h → h.Ns mainGlobals mg → ∃ fd, Def K mg "law" sLaw ["_law_script"] f fd ∧ ∀ (s : Shared) (u : Value), BindsTo s fd ⟨[u], []⟩ [(("_law_script" : Str), u)] := fun mg h X G => by
  have F := fun_mk (st := sLaw) l c k
  exact ⟨_, ⟨PySem.W.mg_of X G a, k, F.binds (fun _ _ _ _ _ _ us hl => match us, hl with | [_], _ => rfl), F⟩, fun s u => .of_eq rfl⟩
theorem all_mk {P : Program} {w : World} {K : PySem.W.Frag} {h : Heap} {mg : Str → Option Value} {fa S C0 C1 C2 C3 C4 C5 C6 C7 C8 C9 C10 C11 C12 C13 C14 C15 C16 C17 C18 C19 C20 C21 C22 f_pen f_draw f_pick f_any f_ones f_twos f_kinds f_law f_kept : Addr} {cs0 : ClassData} (X : K.In h) (G : h.Ns mainGlobals mg) (hfa : mg "law" = some (.ref fa))
    (aS : PySem.W.nsIn K mainGlobals "SumError" = some (some (.ref S))) (lS : PySem.W.clsIn K S = some cs0) (tS : PySem.W.typeIn K (.ref S) = some (.type "type"))
    (c0 : CK K S "BadBase" C0)
    (c1 : CK K S "BadWidth" C1)
    (c2 : CK K S "BadName" C2)
    (c3 : CK K S "BadWord" C3)
    (c4 : CK K S "BadNumber" C4)
    (c5 : CK K S "BadWeight" C5)
    (c6 : CK K S "BadLetter" C6)
    (c7 : CK K S "BadPlace" C7)
    (c8 : CK K S "BadTable" C8)
    (c9 : CK K S "BadScheme" C9)
    (c10 : CK K S "BadPlane" C10)
    (c11 : CK K S "BadPaper" C11)
    (c12 : CK K S "BadStore" C12)
    (c13 : CK K S "BadDeed" C13)
    (c14 : CK K S "BadText" C14)
    (c15 : CK K S "BadCommand" C15)
    (c16 : CK K S "NoState" C16)
    (c17 : CK K S "NoEntry" C17)
    (c18 : CK K S "NoPlane" C18)
    (c19 : CK K S "Unlike" C19)
    (c20 : CK K S "Taken" C20)
    (c21 : CK K S "Nothing" C21)
    (c22 : CK K S "TooMany" C22)
    (i0 : ∀ (P : Program) (w : World) (mg : Str → Option Value) (base : Heap), TxtK mg → ∀ {fK : Addr} {fdK : FuncData}, Def K mg "kept" sKept ["value"] fK fdK → I1 P w K mg base C0 "value")
    (i1 : ∀ (P : Program) (w : World) (mg : Str → Option Value) (base : Heap), TxtK mg → ∀ {fK : Addr} {fdK : FuncData}, Def K mg "kept" sKept ["value"] fK fdK → I1 P w K mg base C1 "value")
    (i2 : ∀ (P : Program) (w : World) (mg : Str → Option Value) (base : Heap), TxtK mg → ∀ {fK : Addr} {fdK : FuncData}, Def K mg "kept" sKept ["value"] fK fdK → I1 P w K mg base C2 "value")
    (i3 : ∀ (P : Program) (w : World) (mg : Str → Option Value) (base : Heap), TxtK mg → ∀ {fK : Addr} {fdK : FuncData}, Def K mg "kept" sKept ["value"] fK fdK → I1 P w K mg base C3 "value")
    (i4 : ∀ (P : Program) (w : World) (mg : Str → Option Value) (base : Heap), TxtK mg → ∀ {fK : Addr} {fdK : FuncData}, Def K mg "kept" sKept ["value"] fK fdK → I1 P w K mg base C4 "value")
    (i5 : ∀ (P : Program) (w : World) (mg : Str → Option Value) (base : Heap), TxtK mg → ∀ {fK : Addr} {fdK : FuncData}, Def K mg "kept" sKept ["value"] fK fdK → I1 P w K mg base C5 "value")
    (i6 : ∀ (P : Program) (w : World) (mg : Str → Option Value) (base : Heap), TxtK mg → ∀ {fK : Addr} {fdK : FuncData}, Def K mg "kept" sKept ["value"] fK fdK → I1 P w K mg base C6 "value")
    (i7 : ∀ (P : Program) (w : World) (mg : Str → Option Value) (base : Heap), TxtK mg → ∀ {fK : Addr} {fdK : FuncData}, Def K mg "kept" sKept ["value"] fK fdK → I1 P w K mg base C7 "value")
    (i8 : ∀ (P : Program) (w : World) (mg : Str → Option Value) (base : Heap), TxtK mg → ∀ {fK : Addr} {fdK : FuncData}, Def K mg "kept" sKept ["value"] fK fdK → I1 P w K mg base C8 "part")
    (i9 : ∀ (P : Program) (w : World) (mg : Str → Option Value) (base : Heap), TxtK mg → ∀ {fK : Addr} {fdK : FuncData}, Def K mg "kept" sKept ["value"] fK fdK → I1 P w K mg base C9 "part")
    (i10 : ∀ (P : Program) (w : World) (mg : Str → Option Value) (base : Heap), TxtK mg → ∀ {fK : Addr} {fdK : FuncData}, Def K mg "kept" sKept ["value"] fK fdK → I1 P w K mg base C10 "part")
    (i11 : ∀ (P : Program) (w : World) (mg : Str → Option Value) (base : Heap), TxtK mg → ∀ {fK : Addr} {fdK : FuncData}, Def K mg "kept" sKept ["value"] fK fdK → I1 P w K mg base C11 "part")
    (i12 : ∀ (P : Program) (w : World) (mg : Str → Option Value) (base : Heap), TxtK mg → ∀ {fK : Addr} {fdK : FuncData}, Def K mg "kept" sKept ["value"] fK fdK → I1 P w K mg base C12 "part")
    (i13 : ∀ (P : Program) (w : World) (mg : Str → Option Value) (base : Heap), TxtK mg → ∀ {fK : Addr} {fdK : FuncData}, Def K mg "kept" sKept ["value"] fK fdK → I1 P w K mg base C13 "at")
    (i15 : ∀ (P : Program) (w : World) (mg : Str → Option Value) (base : Heap), TxtK mg → ∀ {fK : Addr} {fdK : FuncData}, Def K mg "kept" sKept ["value"] fK fdK → I1 P w K mg base C15 "word")
    (i16 : ∀ (P : Program) (w : World) (mg : Str → Option Value) (base : Heap), TxtK mg → ∀ {fK : Addr} {fdK : FuncData}, Def K mg "kept" sKept ["value"] fK fdK → I1 P w K mg base C16 "value")
    (i17 : ∀ (P : Program) (w : World) (mg : Str → Option Value) (base : Heap), TxtK mg → ∀ {fK : Addr} {fdK : FuncData}, Def K mg "kept" sKept ["value"] fK fdK → I1 P w K mg base C17 "value")
    (i18 : ∀ (P : Program) (w : World) (mg : Str → Option Value) (base : Heap), TxtK mg → ∀ {fK : Addr} {fdK : FuncData}, Def K mg "kept" sKept ["value"] fK fdK → I1 P w K mg base C18 "value")
    (i19 : ∀ (P : Program) (w : World) (mg : Str → Option Value) (base : Heap), TxtK mg → ∀ {fK : Addr} {fdK : FuncData}, Def K mg "kept" sKept ["value"] fK fdK → I1 P w K mg base C19 "part")
    (i20 : ∀ (P : Program) (w : World) (mg : Str → Option Value) (base : Heap), TxtK mg → ∀ {fK : Addr} {fdK : FuncData}, Def K mg "kept" sKept ["value"] fK fdK → I1 P w K mg base C20 "value")
    (i14 : ∀ (P : Program) (w : World) (mg : Str → Option Value) (base : Heap), TxtK mg → ∀ {fK : Addr} {fdK : FuncData}, Def K mg "kept" sKept ["value"] fK fdK → I2 P w K mg base C14 "line" "word")
    (i22 : ∀ (P : Program) (w : World) (mg : Str → Option Value) (base : Heap), TxtK mg → ∀ {fK : Addr} {fdK : FuncData}, Def K mg "kept" sKept ["value"] fK fdK → I2 P w K mg base C22 "what" "most")
    (exn : PySem.W.excIn K C21 [.type "ValueError", .type "Exception", .type "BaseException", .type "object"] "ValueError.__new__" = true)
    (nd : ([S, C0, C1, C2, C3, C4, C5, C6, C7, C8, C9, C10, C11, C12, C13, C14, C15, C16, C17, C18, C19, C20, C21, C22] : List Addr).Nodup)
    (z_isinstance : PySem.W.nsIn K mainGlobals "isinstance" = some none)
    (z_ValueError : PySem.W.nsIn K mainGlobals "ValueError" = some none)
    (z_LookupError : PySem.W.nsIn K mainGlobals "LookupError" = some none)
    (z_TypeError : PySem.W.nsIn K mainGlobals "TypeError" = some none)
    (z_repr : PySem.W.nsIn K mainGlobals "repr" = some none)
    (z_int : PySem.W.nsIn K mainGlobals "int" = some none)
    (z_len : PySem.W.nsIn K mainGlobals "len" = some none)
    (z_abs : PySem.W.nsIn K mainGlobals "abs" = some none)
    (z_list : PySem.W.nsIn K mainGlobals "list" = some none)
    (z_range : PySem.W.nsIn K mainGlobals "range" = some none)
    (z_tuple : PySem.W.nsIn K mainGlobals "tuple" = some none)
    (z_dict : PySem.W.nsIn K mainGlobals "dict" = some none)
    (z_any : PySem.W.nsIn K mainGlobals "any" = some none)
    (d_kept : ∀ (mg : Str → Option Value) (h : Heap), K.In h → h.Ns mainGlobals mg → ∃ fd, Def K mg "kept" sKept ["value"] f_kept fd)
    (d_pen : ∀ (mg : Str → Option Value) (h : Heap), K.In h → h.Ns mainGlobals mg → ∃ fd, Def K mg "_law_pen" sPen ["_law_script"] f_pen fd)
    (d_draw : ∀ (mg : Str → Option Value) (h : Heap), K.In h → h.Ns mainGlobals mg → ∃ fd, Def K mg "_law_draw" sDraw ["_law_pen_here", "_law_many"] f_draw fd)
    (d_pick : ∀ (mg : Str → Option Value) (h : Heap), K.In h → h.Ns mainGlobals mg → ∃ fd, Def K mg "_law_pick" sPick ["_law_pen_here", "_law_some"] f_pick fd)
    (d_any : ∀ (mg : Str → Option Value) (h : Heap), K.In h → h.Ns mainGlobals mg → ∃ fd, Def K mg "_law_any" sAny ["_law_pen_here"] f_any fd)
    (d_ones : ∀ (mg : Str → Option Value) (h : Heap), K.In h → h.Ns mainGlobals mg → ∃ fd, Def K mg "_law_ones" sOnes ["_law_pen_here"] f_ones fd)
    (d_twos : ∀ (mg : Str → Option Value) (h : Heap), K.In h → h.Ns mainGlobals mg → ∃ fd, Def K mg "_law_twos" sTwos ["_law_pen_here"] f_twos fd)
    (d_kinds : ∀ (mg : Str → Option Value) (h : Heap), K.In h → h.Ns mainGlobals mg → ∃ fd, Def K mg "_law_kinds" sKinds ["_law_error"] f_kinds fd)
    (d_law : ∀ (mg : Str → Option Value) (h : Heap), K.In h → h.Ns mainGlobals mg → ∃ fd, Def K mg "law" sLaw ["_law_script"] f_law fd ∧ ∀ (s : Shared) (u : Value), BindsTo s fd ⟨[u], []⟩ [(("_law_script" : Str), u)]) :
    ∃ fd : FuncData, (∀ (s : Shared) (u : Value), BindsTo s fd ⟨[u], []⟩ [(("_law_script" : Str), u)]) ∧ ∀ base : Heap, K.In base → base.Ns mainGlobals mg → FnG P w K mg base CX0 7 fa fd ["_law_script"] (spLaw K) := by
  obtain ⟨fdl, Ul, hbl⟩ := d_law mg h X G
  have e := hfa.symm.trans Ul.g
  cases e
  have nd2 := List.nodup_cons.mp nd
  have T : Txt K mg S (fun i => ([C0, C1, C2, C3, C4, C5, C6, C7, C8, C9, C10, C11, C12, C13, C14, C15, C16, C17, C18, C19, C20, C21, C22] : List Addr).getD i 0) := {
    c := fun i hi => by
      match i, hi with
      | 0, _ => exact c0 mg h X G
      | 1, _ => exact c1 mg h X G
      | 2, _ => exact c2 mg h X G
      | 3, _ => exact c3 mg h X G
      | 4, _ => exact c4 mg h X G
      | 5, _ => exact c5 mg h X G
      | 6, _ => exact c6 mg h X G
      | 7, _ => exact c7 mg h X G
      | 8, _ => exact c8 mg h X G
      | 9, _ => exact c9 mg h X G
      | 10, _ => exact c10 mg h X G
      | 11, _ => exact c11 mg h X G
      | 12, _ => exact c12 mg h X G
      | 13, _ => exact c13 mg h X G
      | 14, _ => exact c14 mg h X G
      | 15, _ => exact c15 mg h X G
      | 16, _ => exact c16 mg h X G
      | 17, _ => exact c17 mg h X G
      | 18, _ => exact c18 mg h X G
      | 19, _ => exact c19 mg h X G
      | 20, _ => exact c20 mg h X G
      | 21, _ => exact c21 mg h X G
      | 22, _ => exact c22 mg h X G
      | n + 23, hi => exact absurd hi (by omega)
    inj := fun i j hi hj e => getD_inj nd2.2 hi hj e
    ne := fun i hi e => nd2.1 (by
      rw [← e]
      show ([C0, C1, C2, C3, C4, C5, C6, C7, C8, C9, C10, C11, C12, C13, C14, C15, C16, C17, C18, C19, C20, C21, C22] : List Addr).getD i 0 ∈ _
      rw [getD_get hi]
      exact List.getElem_mem _)
    s := PySem.W.mg_of X G aS
    sc := ⟨_, lS⟩
    st := tS
    isi := PySem.W.mg_none_of X G z_isinstance
    ve := PySem.W.mg_none_of X G z_ValueError
    le := PySem.W.mg_none_of X G z_LookupError
    te := PySem.W.mg_none_of X G z_TypeError
    rp := PySem.W.mg_none_of X G z_repr
    int := PySem.W.mg_none_of X G z_int
    len := PySem.W.mg_none_of X G z_len
    abs := PySem.W.mg_none_of X G z_abs
    list := PySem.W.mg_none_of X G z_list
    range := PySem.W.mg_none_of X G z_range
    tuple := PySem.W.mg_none_of X G z_tuple
    dict := PySem.W.mg_none_of X G z_dict
    any := PySem.W.mg_none_of X G z_any }
  have TK : TxtK mg := ⟨T.isi, T.tuple, T.list, T.dict, T.any⟩
  obtain ⟨f0, U0⟩ := d_kept mg h X G
  refine ⟨fdl, fun s u => ?_, fun base KB GB => ?_⟩
  · exact hbl s u
  obtain ⟨f1, U1⟩ := d_pen mg h X G
  obtain ⟨f2, U2⟩ := d_draw mg h X G
  obtain ⟨f3, U3⟩ := d_pick mg h X G
  obtain ⟨f4, U4⟩ := d_any mg h X G
  obtain ⟨f5, U5⟩ := d_ones mg h X G
  obtain ⟨f6, U6⟩ := d_twos mg h X G
  obtain ⟨f7, U7⟩ := d_kinds mg h X G
  refine ok_law Ul.F T ⟨exn⟩ ⟨fun i f hf => ?_⟩ (i14 P w mg base TK U0) (i22 P w mg base TK U0) U1 U2 U3 U4 U5 U6 U7
  simp only [flds, List.mem_cons, Prod.mk.injEq, List.not_mem_nil, or_false] at hf
  rcases hf with ⟨rfl, rfl⟩ | ⟨rfl, rfl⟩ | ⟨rfl, rfl⟩ | ⟨rfl, rfl⟩ | ⟨rfl, rfl⟩ | ⟨rfl, rfl⟩ | ⟨rfl, rfl⟩ | ⟨rfl, rfl⟩ | ⟨rfl, rfl⟩ | ⟨rfl, rfl⟩ | ⟨rfl, rfl⟩ | ⟨rfl, rfl⟩ | ⟨rfl, rfl⟩ | ⟨rfl, rfl⟩ | ⟨rfl, rfl⟩ | ⟨rfl, rfl⟩ | ⟨rfl, rfl⟩ | ⟨rfl, rfl⟩ | ⟨rfl, rfl⟩ | ⟨rfl, rfl⟩
  · exact i0 P w mg base TK U0
  · exact i1 P w mg base TK U0
  · exact i2 P w mg base TK U0
  · exact i3 P w mg base TK U0
  · exact i4 P w mg base TK U0
  · exact i5 P w mg base TK U0
  · exact i6 P w mg base TK U0
  · exact i7 P w mg base TK U0
  · exact i8 P w mg base TK U0
  · exact i9 P w mg base TK U0
  · exact i10 P w mg base TK U0
  · exact i11 P w mg base TK U0
  · exact i12 P w mg base TK U0
  · exact i13 P w mg base TK U0
  · exact i15 P w mg base TK U0
  · exact i16 P w mg base TK U0
  · exact i17 P w mg base TK U0
  · exact i18 P w mg base TK U0
  · exact i19 P w mg base TK U0
  · exact i20 P w mg base TK U0
end Kone
open PySem PySem.W PyProof.Rows in
set_option maxRecDepth 100000 in
set_option maxHeartbeats 0 in
theorem PySem.Challenge.cw_sumdigits_k01_errors_made_holds : PySem.Challenge.rw_sumdigits_k01_errors_made.Holds := by
  w_on; o_law; k_head; (case hw => w_witness2)
  k_fill
  refine Gd.walk_at (l := PySem.Challenge.rw_sumdigits_k01_errors_made) (n := 63) (k := 7) (CX := L2.CX0) (sp := Kone.spLaw) (x := "_law_script") rfl (by decide) rfl ⟨rfl, by decide, by decide⟩ (fun w h Y => PySem.W.kIn_of Y) ?F (fun K H a ns hl hS => ⟨a, ns, rfl, hS, fun _ => rfl⟩) (fun _ _ _ _ z => z)
  case F =>
    intro w mg fa h KX G hmg
    refine' Kone.all_mk KX G hmg ?aS ?lS ?tS ?c0 ?c1 ?c2 ?c3 ?c4 ?c5 ?c6 ?c7 ?c8 ?c9 ?c10 ?c11 ?c12 ?c13 ?c14 ?c15 ?c16 ?c17 ?c18 ?c19 ?c20 ?c21 ?c22 ?i0 ?i1 ?i2 ?i3 ?i4 ?i5 ?i6 ?i7 ?i8 ?i9 ?i10 ?i11 ?i12 ?i13 ?i15 ?i16 ?i17 ?i18 ?i19 ?i20 ?i14 ?i22 ?exn ?nd ?z_isinstance ?z_ValueError ?z_LookupError ?z_TypeError ?z_repr ?z_int ?z_len ?z_abs ?z_list ?z_range ?z_tuple ?z_dict ?z_any ?d_kept ?d_pen ?d_draw ?d_pick ?d_any ?d_ones ?d_twos ?d_kinds ?d_law
    (case aS => k_is)
    (case lS => k_is)
    (case tS => k_is)
    (case c0 => refine' Kone.ck_mk ?a ?l ?sa ?exC ?tyC ?kC ?hg ?hk ?hd ?ha ?hn ?ht ?hm; (case a => k_is); (case l => k_is); (case sa => k_is); (case exC => k_is); (case tyC => k_is); (case kC => k_is); (case hg => k_is); (case hk => k_is); (case hd => k_is); (case ha => k_is); (case hn => k_is); (case ht => k_is); (case hm => k_is))
    (case c1 => refine' Kone.ck_mk ?a ?l ?sa ?exC ?tyC ?kC ?hg ?hk ?hd ?ha ?hn ?ht ?hm; (case a => k_is); (case l => k_is); (case sa => k_is); (case exC => k_is); (case tyC => k_is); (case kC => k_is); (case hg => k_is); (case hk => k_is); (case hd => k_is); (case ha => k_is); (case hn => k_is); (case ht => k_is); (case hm => k_is))
    (case c2 => refine' Kone.ck_mk ?a ?l ?sa ?exC ?tyC ?kC ?hg ?hk ?hd ?ha ?hn ?ht ?hm; (case a => k_is); (case l => k_is); (case sa => k_is); (case exC => k_is); (case tyC => k_is); (case kC => k_is); (case hg => k_is); (case hk => k_is); (case hd => k_is); (case ha => k_is); (case hn => k_is); (case ht => k_is); (case hm => k_is))
    (case c3 => refine' Kone.ck_mk ?a ?l ?sa ?exC ?tyC ?kC ?hg ?hk ?hd ?ha ?hn ?ht ?hm; (case a => k_is); (case l => k_is); (case sa => k_is); (case exC => k_is); (case tyC => k_is); (case kC => k_is); (case hg => k_is); (case hk => k_is); (case hd => k_is); (case ha => k_is); (case hn => k_is); (case ht => k_is); (case hm => k_is))
    (case c4 => refine' Kone.ck_mk ?a ?l ?sa ?exC ?tyC ?kC ?hg ?hk ?hd ?ha ?hn ?ht ?hm; (case a => k_is); (case l => k_is); (case sa => k_is); (case exC => k_is); (case tyC => k_is); (case kC => k_is); (case hg => k_is); (case hk => k_is); (case hd => k_is); (case ha => k_is); (case hn => k_is); (case ht => k_is); (case hm => k_is))
    (case c5 => refine' Kone.ck_mk ?a ?l ?sa ?exC ?tyC ?kC ?hg ?hk ?hd ?ha ?hn ?ht ?hm; (case a => k_is); (case l => k_is); (case sa => k_is); (case exC => k_is); (case tyC => k_is); (case kC => k_is); (case hg => k_is); (case hk => k_is); (case hd => k_is); (case ha => k_is); (case hn => k_is); (case ht => k_is); (case hm => k_is))
    (case c6 => refine' Kone.ck_mk ?a ?l ?sa ?exC ?tyC ?kC ?hg ?hk ?hd ?ha ?hn ?ht ?hm; (case a => k_is); (case l => k_is); (case sa => k_is); (case exC => k_is); (case tyC => k_is); (case kC => k_is); (case hg => k_is); (case hk => k_is); (case hd => k_is); (case ha => k_is); (case hn => k_is); (case ht => k_is); (case hm => k_is))
    (case c7 => refine' Kone.ck_mk ?a ?l ?sa ?exC ?tyC ?kC ?hg ?hk ?hd ?ha ?hn ?ht ?hm; (case a => k_is); (case l => k_is); (case sa => k_is); (case exC => k_is); (case tyC => k_is); (case kC => k_is); (case hg => k_is); (case hk => k_is); (case hd => k_is); (case ha => k_is); (case hn => k_is); (case ht => k_is); (case hm => k_is))
    (case c8 => refine' Kone.ck_mk ?a ?l ?sa ?exC ?tyC ?kC ?hg ?hk ?hd ?ha ?hn ?ht ?hm; (case a => k_is); (case l => k_is); (case sa => k_is); (case exC => k_is); (case tyC => k_is); (case kC => k_is); (case hg => k_is); (case hk => k_is); (case hd => k_is); (case ha => k_is); (case hn => k_is); (case ht => k_is); (case hm => k_is))
    (case c9 => refine' Kone.ck_mk ?a ?l ?sa ?exC ?tyC ?kC ?hg ?hk ?hd ?ha ?hn ?ht ?hm; (case a => k_is); (case l => k_is); (case sa => k_is); (case exC => k_is); (case tyC => k_is); (case kC => k_is); (case hg => k_is); (case hk => k_is); (case hd => k_is); (case ha => k_is); (case hn => k_is); (case ht => k_is); (case hm => k_is))
    (case c10 => refine' Kone.ck_mk ?a ?l ?sa ?exC ?tyC ?kC ?hg ?hk ?hd ?ha ?hn ?ht ?hm; (case a => k_is); (case l => k_is); (case sa => k_is); (case exC => k_is); (case tyC => k_is); (case kC => k_is); (case hg => k_is); (case hk => k_is); (case hd => k_is); (case ha => k_is); (case hn => k_is); (case ht => k_is); (case hm => k_is))
    (case c11 => refine' Kone.ck_mk ?a ?l ?sa ?exC ?tyC ?kC ?hg ?hk ?hd ?ha ?hn ?ht ?hm; (case a => k_is); (case l => k_is); (case sa => k_is); (case exC => k_is); (case tyC => k_is); (case kC => k_is); (case hg => k_is); (case hk => k_is); (case hd => k_is); (case ha => k_is); (case hn => k_is); (case ht => k_is); (case hm => k_is))
    (case c12 => refine' Kone.ck_mk ?a ?l ?sa ?exC ?tyC ?kC ?hg ?hk ?hd ?ha ?hn ?ht ?hm; (case a => k_is); (case l => k_is); (case sa => k_is); (case exC => k_is); (case tyC => k_is); (case kC => k_is); (case hg => k_is); (case hk => k_is); (case hd => k_is); (case ha => k_is); (case hn => k_is); (case ht => k_is); (case hm => k_is))
    (case c13 => refine' Kone.ck_mk ?a ?l ?sa ?exC ?tyC ?kC ?hg ?hk ?hd ?ha ?hn ?ht ?hm; (case a => k_is); (case l => k_is); (case sa => k_is); (case exC => k_is); (case tyC => k_is); (case kC => k_is); (case hg => k_is); (case hk => k_is); (case hd => k_is); (case ha => k_is); (case hn => k_is); (case ht => k_is); (case hm => k_is))
    (case c14 => refine' Kone.ck_mk ?a ?l ?sa ?exC ?tyC ?kC ?hg ?hk ?hd ?ha ?hn ?ht ?hm; (case a => k_is); (case l => k_is); (case sa => k_is); (case exC => k_is); (case tyC => k_is); (case kC => k_is); (case hg => k_is); (case hk => k_is); (case hd => k_is); (case ha => k_is); (case hn => k_is); (case ht => k_is); (case hm => k_is))
    (case c15 => refine' Kone.ck_mk ?a ?l ?sa ?exC ?tyC ?kC ?hg ?hk ?hd ?ha ?hn ?ht ?hm; (case a => k_is); (case l => k_is); (case sa => k_is); (case exC => k_is); (case tyC => k_is); (case kC => k_is); (case hg => k_is); (case hk => k_is); (case hd => k_is); (case ha => k_is); (case hn => k_is); (case ht => k_is); (case hm => k_is))
    (case c16 => refine' Kone.ck_mk ?a ?l ?sa ?exC ?tyC ?kC ?hg ?hk ?hd ?ha ?hn ?ht ?hm; (case a => k_is); (case l => k_is); (case sa => k_is); (case exC => k_is); (case tyC => k_is); (case kC => k_is); (case hg => k_is); (case hk => k_is); (case hd => k_is); (case ha => k_is); (case hn => k_is); (case ht => k_is); (case hm => k_is))
    (case c17 => refine' Kone.ck_mk ?a ?l ?sa ?exC ?tyC ?kC ?hg ?hk ?hd ?ha ?hn ?ht ?hm; (case a => k_is); (case l => k_is); (case sa => k_is); (case exC => k_is); (case tyC => k_is); (case kC => k_is); (case hg => k_is); (case hk => k_is); (case hd => k_is); (case ha => k_is); (case hn => k_is); (case ht => k_is); (case hm => k_is))
    (case c18 => refine' Kone.ck_mk ?a ?l ?sa ?exC ?tyC ?kC ?hg ?hk ?hd ?ha ?hn ?ht ?hm; (case a => k_is); (case l => k_is); (case sa => k_is); (case exC => k_is); (case tyC => k_is); (case kC => k_is); (case hg => k_is); (case hk => k_is); (case hd => k_is); (case ha => k_is); (case hn => k_is); (case ht => k_is); (case hm => k_is))
    (case c19 => refine' Kone.ck_mk ?a ?l ?sa ?exC ?tyC ?kC ?hg ?hk ?hd ?ha ?hn ?ht ?hm; (case a => k_is); (case l => k_is); (case sa => k_is); (case exC => k_is); (case tyC => k_is); (case kC => k_is); (case hg => k_is); (case hk => k_is); (case hd => k_is); (case ha => k_is); (case hn => k_is); (case ht => k_is); (case hm => k_is))
    (case c20 => refine' Kone.ck_mk ?a ?l ?sa ?exC ?tyC ?kC ?hg ?hk ?hd ?ha ?hn ?ht ?hm; (case a => k_is); (case l => k_is); (case sa => k_is); (case exC => k_is); (case tyC => k_is); (case kC => k_is); (case hg => k_is); (case hk => k_is); (case hd => k_is); (case ha => k_is); (case hn => k_is); (case ht => k_is); (case hm => k_is))
    (case c21 => refine' Kone.ck_mk ?a ?l ?sa ?exC ?tyC ?kC ?hg ?hk ?hd ?ha ?hn ?ht ?hm; (case a => k_is); (case l => k_is); (case sa => k_is); (case exC => k_is); (case tyC => k_is); (case kC => k_is); (case hg => k_is); (case hk => k_is); (case hd => k_is); (case ha => k_is); (case hn => k_is); (case ht => k_is); (case hm => k_is))
    (case c22 => refine' Kone.ck_mk ?a ?l ?sa ?exC ?tyC ?kC ?hg ?hk ?hd ?ha ?hn ?ht ?hm; (case a => k_is); (case l => k_is); (case sa => k_is); (case exC => k_is); (case tyC => k_is); (case kC => k_is); (case hg => k_is); (case hk => k_is); (case hd => k_is); (case ha => k_is); (case hn => k_is); (case ht => k_is); (case hm => k_is))
    (case i0 => refine' Kone.i1_mk (st := Kone.sInit 0) (Kone.s1 0 "value" (by decide +kernel)) rfl (Or.inl rfl) (Or.inl rfl) rfl (by decide) (by decide) (fun _ _ _ _ _ _ us hl => match us, hl with | [_, _], _ => rfl) (fun _ _ _ _ _ _ _ _ => rfl) ?a ?t ?l ?c ?k ?no; (case a => k_is); (case t => k_is); (case l => k_is); (case c => k_is); (case k => k_is); (case no => k_is))
    (case i1 => refine' Kone.i1_mk (st := Kone.sInit 1) (Kone.s1 1 "value" (by decide +kernel)) rfl (Or.inl rfl) (Or.inl rfl) rfl (by decide) (by decide) (fun _ _ _ _ _ _ us hl => match us, hl with | [_, _], _ => rfl) (fun _ _ _ _ _ _ _ _ => rfl) ?a ?t ?l ?c ?k ?no; (case a => k_is); (case t => k_is); (case l => k_is); (case c => k_is); (case k => k_is); (case no => k_is))
    (case i2 => refine' Kone.i1_mk (st := Kone.sInit 2) (Kone.s1 2 "value" (by decide +kernel)) rfl (Or.inl rfl) (Or.inl rfl) rfl (by decide) (by decide) (fun _ _ _ _ _ _ us hl => match us, hl with | [_, _], _ => rfl) (fun _ _ _ _ _ _ _ _ => rfl) ?a ?t ?l ?c ?k ?no; (case a => k_is); (case t => k_is); (case l => k_is); (case c => k_is); (case k => k_is); (case no => k_is))
    (case i3 => refine' Kone.i1_mk (st := Kone.sInit 3) (Kone.s1 3 "value" (by decide +kernel)) rfl (Or.inl rfl) (Or.inl rfl) rfl (by decide) (by decide) (fun _ _ _ _ _ _ us hl => match us, hl with | [_, _], _ => rfl) (fun _ _ _ _ _ _ _ _ => rfl) ?a ?t ?l ?c ?k ?no; (case a => k_is); (case t => k_is); (case l => k_is); (case c => k_is); (case k => k_is); (case no => k_is))
    (case i4 => refine' Kone.i1_mk (st := Kone.sInit 4) (Kone.s1 4 "value" (by decide +kernel)) rfl (Or.inl rfl) (Or.inl rfl) rfl (by decide) (by decide) (fun _ _ _ _ _ _ us hl => match us, hl with | [_, _], _ => rfl) (fun _ _ _ _ _ _ _ _ => rfl) ?a ?t ?l ?c ?k ?no; (case a => k_is); (case t => k_is); (case l => k_is); (case c => k_is); (case k => k_is); (case no => k_is))
    (case i5 => refine' Kone.i1_mk (st := Kone.sInit 5) (Kone.s1 5 "value" (by decide +kernel)) rfl (Or.inl rfl) (Or.inl rfl) rfl (by decide) (by decide) (fun _ _ _ _ _ _ us hl => match us, hl with | [_, _], _ => rfl) (fun _ _ _ _ _ _ _ _ => rfl) ?a ?t ?l ?c ?k ?no; (case a => k_is); (case t => k_is); (case l => k_is); (case c => k_is); (case k => k_is); (case no => k_is))
    (case i6 => refine' Kone.i1_mk (st := Kone.sInit 6) (Kone.s1 6 "value" (by decide +kernel)) rfl (Or.inl rfl) (Or.inl rfl) rfl (by decide) (by decide) (fun _ _ _ _ _ _ us hl => match us, hl with | [_, _], _ => rfl) (fun _ _ _ _ _ _ _ _ => rfl) ?a ?t ?l ?c ?k ?no; (case a => k_is); (case t => k_is); (case l => k_is); (case c => k_is); (case k => k_is); (case no => k_is))
    (case i7 => refine' Kone.i1_mk (st := Kone.sInit 7) (Kone.s1 7 "value" (by decide +kernel)) rfl (Or.inl rfl) (Or.inl rfl) rfl (by decide) (by decide) (fun _ _ _ _ _ _ us hl => match us, hl with | [_, _], _ => rfl) (fun _ _ _ _ _ _ _ _ => rfl) ?a ?t ?l ?c ?k ?no; (case a => k_is); (case t => k_is); (case l => k_is); (case c => k_is); (case k => k_is); (case no => k_is))
    (case i8 => refine' Kone.i1_mk (st := Kone.sInit 8) (Kone.s1 8 "part" (by decide +kernel)) rfl (Or.inl rfl) (Or.inl rfl) rfl (by decide) (by decide) (fun _ _ _ _ _ _ us hl => match us, hl with | [_, _], _ => rfl) (fun _ _ _ _ _ _ _ _ => rfl) ?a ?t ?l ?c ?k ?no; (case a => k_is); (case t => k_is); (case l => k_is); (case c => k_is); (case k => k_is); (case no => k_is))
    (case i9 => refine' Kone.i1_mk (st := Kone.sInit 9) (Kone.s1 9 "part" (by decide +kernel)) rfl (Or.inl rfl) (Or.inl rfl) rfl (by decide) (by decide) (fun _ _ _ _ _ _ us hl => match us, hl with | [_, _], _ => rfl) (fun _ _ _ _ _ _ _ _ => rfl) ?a ?t ?l ?c ?k ?no; (case a => k_is); (case t => k_is); (case l => k_is); (case c => k_is); (case k => k_is); (case no => k_is))
    (case i10 => refine' Kone.i1_mk (st := Kone.sInit 10) (Kone.s1 10 "part" (by decide +kernel)) rfl (Or.inl rfl) (Or.inl rfl) rfl (by decide) (by decide) (fun _ _ _ _ _ _ us hl => match us, hl with | [_, _], _ => rfl) (fun _ _ _ _ _ _ _ _ => rfl) ?a ?t ?l ?c ?k ?no; (case a => k_is); (case t => k_is); (case l => k_is); (case c => k_is); (case k => k_is); (case no => k_is))
    (case i11 => refine' Kone.i1_mk (st := Kone.sInit 11) (Kone.s1 11 "part" (by decide +kernel)) rfl (Or.inl rfl) (Or.inl rfl) rfl (by decide) (by decide) (fun _ _ _ _ _ _ us hl => match us, hl with | [_, _], _ => rfl) (fun _ _ _ _ _ _ _ _ => rfl) ?a ?t ?l ?c ?k ?no; (case a => k_is); (case t => k_is); (case l => k_is); (case c => k_is); (case k => k_is); (case no => k_is))
    (case i12 => refine' Kone.i1_mk (st := Kone.sInit 12) (Kone.s1 12 "part" (by decide +kernel)) rfl (Or.inl rfl) (Or.inl rfl) rfl (by decide) (by decide) (fun _ _ _ _ _ _ us hl => match us, hl with | [_, _], _ => rfl) (fun _ _ _ _ _ _ _ _ => rfl) ?a ?t ?l ?c ?k ?no; (case a => k_is); (case t => k_is); (case l => k_is); (case c => k_is); (case k => k_is); (case no => k_is))
    (case i13 => refine' Kone.i1_mk (st := Kone.sInit 13) (Kone.s1 13 "at" (by decide +kernel)) rfl (Or.inl rfl) (Or.inl rfl) rfl (by decide) (by decide) (fun _ _ _ _ _ _ us hl => match us, hl with | [_, _], _ => rfl) (fun _ _ _ _ _ _ _ _ => rfl) ?a ?t ?l ?c ?k ?no; (case a => k_is); (case t => k_is); (case l => k_is); (case c => k_is); (case k => k_is); (case no => k_is))
    (case i15 => refine' Kone.i1_mk (st := Kone.sInit 15) (Kone.s1 15 "word" (by decide +kernel)) rfl (Or.inl rfl) (Or.inl rfl) rfl (by decide) (by decide) (fun _ _ _ _ _ _ us hl => match us, hl with | [_, _], _ => rfl) (fun _ _ _ _ _ _ _ _ => rfl) ?a ?t ?l ?c ?k ?no; (case a => k_is); (case t => k_is); (case l => k_is); (case c => k_is); (case k => k_is); (case no => k_is))
    (case i16 => refine' Kone.i1_mk (st := Kone.sInit 16) (Kone.s1 16 "value" (by decide +kernel)) rfl (Or.inl rfl) (Or.inl rfl) rfl (by decide) (by decide) (fun _ _ _ _ _ _ us hl => match us, hl with | [_, _], _ => rfl) (fun _ _ _ _ _ _ _ _ => rfl) ?a ?t ?l ?c ?k ?no; (case a => k_is); (case t => k_is); (case l => k_is); (case c => k_is); (case k => k_is); (case no => k_is))
    (case i17 => refine' Kone.i1_mk (st := Kone.sInit 17) (Kone.s1 17 "value" (by decide +kernel)) rfl (Or.inl rfl) (Or.inl rfl) rfl (by decide) (by decide) (fun _ _ _ _ _ _ us hl => match us, hl with | [_, _], _ => rfl) (fun _ _ _ _ _ _ _ _ => rfl) ?a ?t ?l ?c ?k ?no; (case a => k_is); (case t => k_is); (case l => k_is); (case c => k_is); (case k => k_is); (case no => k_is))
    (case i18 => refine' Kone.i1_mk (st := Kone.sInit 18) (Kone.s1 18 "value" (by decide +kernel)) rfl (Or.inl rfl) (Or.inl rfl) rfl (by decide) (by decide) (fun _ _ _ _ _ _ us hl => match us, hl with | [_, _], _ => rfl) (fun _ _ _ _ _ _ _ _ => rfl) ?a ?t ?l ?c ?k ?no; (case a => k_is); (case t => k_is); (case l => k_is); (case c => k_is); (case k => k_is); (case no => k_is))
    (case i19 => refine' Kone.i1_mk (st := Kone.sInit 19) (Kone.s1 19 "part" (by decide +kernel)) rfl (Or.inl rfl) (Or.inl rfl) rfl (by decide) (by decide) (fun _ _ _ _ _ _ us hl => match us, hl with | [_, _], _ => rfl) (fun _ _ _ _ _ _ _ _ => rfl) ?a ?t ?l ?c ?k ?no; (case a => k_is); (case t => k_is); (case l => k_is); (case c => k_is); (case k => k_is); (case no => k_is))
    (case i20 => refine' Kone.i1_mk (st := Kone.sInit 20) (Kone.s1 20 "value" (by decide +kernel)) rfl (Or.inl rfl) (Or.inl rfl) rfl (by decide) (by decide) (fun _ _ _ _ _ _ us hl => match us, hl with | [_, _], _ => rfl) (fun _ _ _ _ _ _ _ _ => rfl) ?a ?t ?l ?c ?k ?no; (case a => k_is); (case t => k_is); (case l => k_is); (case c => k_is); (case k => k_is); (case no => k_is))
    (case i14 => refine' Kone.i2_mk (st := Kone.sInit 14) ⟨rfl, rfl, rfl, by decide +kernel, rfl, by decide +kernel, by decide +kernel⟩ rfl (Or.inl rfl) (Or.inl rfl) (Or.inl rfl) rfl (by decide) (by decide) (by decide) (by decide) (fun _ _ _ _ _ _ us hl => match us, hl with | [_, _, _], _ => rfl) (fun _ _ _ _ _ _ _ _ _ => rfl) ?a ?t ?l ?c ?k ?n1 ?n2; (case a => k_is); (case t => k_is); (case l => k_is); (case c => k_is); (case k => k_is); (case n1 => k_is); (case n2 => k_is))
    (case i22 => refine' Kone.i2_mk (st := Kone.sInit 22) ⟨rfl, rfl, rfl, by decide +kernel, rfl, by decide +kernel, by decide +kernel⟩ rfl (Or.inl rfl) (Or.inl rfl) (Or.inl rfl) rfl (by decide) (by decide) (by decide) (by decide) (fun _ _ _ _ _ _ us hl => match us, hl with | [_, _, _], _ => rfl) (fun _ _ _ _ _ _ _ _ _ => rfl) ?a ?t ?l ?c ?k ?n1 ?n2; (case a => k_is); (case t => k_is); (case l => k_is); (case c => k_is); (case k => k_is); (case n1 => k_is); (case n2 => k_is))
    (case exn => k_exc)
    (case nd => decide)
    (case z_isinstance => k_is)
    (case z_ValueError => k_is)
    (case z_LookupError => k_is)
    (case z_TypeError => k_is)
    (case z_repr => k_is)
    (case z_int => k_is)
    (case z_len => k_is)
    (case z_abs => k_is)
    (case z_list => k_is)
    (case z_range => k_is)
    (case z_tuple => k_is)
    (case z_dict => k_is)
    (case z_any => k_is)
    (case d_kept => refine' Kone.d_mk (st := Kone.sKept) (fun _ _ _ _ _ _ us hl => match us, hl with | [_], _ => rfl) ?a ?l ?c ?k; (case a => k_is); (case l => k_is); (case c => k_is); (case k => k_is))
    (case d_pen => refine' Kone.d_mk (st := Kone.sPen) (fun _ _ _ _ _ _ us hl => match us, hl with | [_], _ => rfl) ?a ?l ?c ?k; (case a => k_is); (case l => k_is); (case c => k_is); (case k => k_is))
    (case d_draw => refine' Kone.d_mk (st := Kone.sDraw) (fun _ _ _ _ _ _ us hl => match us, hl with | [_, _], _ => rfl) ?a ?l ?c ?k; (case a => k_is); (case l => k_is); (case c => k_is); (case k => k_is))
    (case d_pick => refine' Kone.d_mk (st := Kone.sPick) (fun _ _ _ _ _ _ us hl => match us, hl with | [_, _], _ => rfl) ?a ?l ?c ?k; (case a => k_is); (case l => k_is); (case c => k_is); (case k => k_is))
    (case d_any => refine' Kone.d_mk (st := Kone.sAny) (fun _ _ _ _ _ _ us hl => match us, hl with | [_], _ => rfl) ?a ?l ?c ?k; (case a => k_is); (case l => k_is); (case c => k_is); (case k => k_is))
    (case d_ones => refine' Kone.d_mk (st := Kone.sOnes) (fun _ _ _ _ _ _ us hl => match us, hl with | [_], _ => rfl) ?a ?l ?c ?k; (case a => k_is); (case l => k_is); (case c => k_is); (case k => k_is))
    (case d_twos => refine' Kone.d_mk (st := Kone.sTwos) (fun _ _ _ _ _ _ us hl => match us, hl with | [_], _ => rfl) ?a ?l ?c ?k; (case a => k_is); (case l => k_is); (case c => k_is); (case k => k_is))
    (case d_kinds => refine' Kone.d_mk (st := Kone.sKinds) (fun _ _ _ _ _ _ us hl => match us, hl with | [_], _ => rfl) ?a ?l ?c ?k; (case a => k_is); (case l => k_is); (case c => k_is); (case k => k_is))
    (case d_law => refine' Kone.dl_mk ?a ?l ?c ?k; (case a => k_is); (case l => k_is); (case c => k_is); (case k => k_is))
