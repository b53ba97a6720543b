import PyProof.Rows.All
import Wide.All
import OpenK.AllK
import Wide.FinOn
import HandS.ForMost
import HandS.Exc
import HandS.ExcInit
import HandS.ExcIs
import HandS.IsInst
import HandS.MakeKw
import HandS.MakeKwOnly
import KE.KEqSeq
import KE.KIsAll
import KE.KTryMore
import HandS.ExcValue
import HandS.WordsExc
import HandS.ExcOwn
import HandS.DictComp
import HandS.Zip
import HandS.Star
import KE.GoesMore
import KE.KDictZip
import HandS.Wide
import HandS.Text
import HandS.Flow
import HandS.Walk
import HandS.StrMore
import PyProof.StrLaws
import HandS.Lambda
import HandS.Replace
import HandS.TupMul
import PyProof.StrOps2
import HandS.TupAny
import KE.DataCmp
import HandS.EndTab
import HandS.HeadWalk
import KE.KNestM
import KE.KLam
import PySem.Challenge.RW_sumdigits_k04_whole_readings_of_words
set_option Elab.async false
set_option linter.all false
set_option maxRecDepth 100000
set_option maxHeartbeats 4000000
namespace Gd
open PySem PySem.Spec PyProof.Rows L2
/-! A promise that is kept where no repr is under way (A.guards = some []). -/
structure FnG (P : Program) (w : World) (K : PySem.W.Frag) (mg : Str → Option Value) (base : Heap) (CX : CXT) (k : Nat) (f : Addr) (fd : FuncData) (ps : List Str) (sp : Sp) : Prop where
  len : ∀ vs H Q E, sp vs H Q E → vs.length = ps.length
  run : ∀ (A : Around) (outer : List Env) (s : Shared) (H : Hp) (args : Args) (us : List Value) (vs : List V) (Q : VK) (E : XK), A.guards = some [] → Room k A → Env0 P w K mg base A outer s H →
    BindsTo s fd args (ps.zip us) → Vals vs us → sp vs H Q E → codeAny (model P w) A (.call (.ref f) args) (CR CX outer P w H s Q E) s
theorem deeper_guards {A : Around} {env : Env} (h : A.guards = some []) : (A.deeper env).guards = some [] := h
section
variable {P : Program} {w : World} {K : PySem.W.Frag} {mg : Str → Option Value} {base : Heap} {CX : CXT}
theorem fnG_of {x qual : Str} {st : Stmt} {f : Addr} {fd : FuncData} {N ps : List Str} {k : Nat} {sp : Sp} (F : Fun K x qual st f fd) (S : FnScope N ps (defScope st))
    (len : ∀ vs H Q E, sp vs H Q E → vs.length = ps.length)
    (body : ∀ (cdv : Value) (A : Around) (outer : List Env) (s : Shared) (H : Hp) (vs : List V) (Q : VK) (E : XK), A.guards = some [] → Room k (A.deeper (envOfC qual (defScope st) s.heap.objs.size f cdv)) → sp vs H Q E →
      ∃ t, PSs (cxOf CX P w K mg base N qual (defScope st) f cdv A outer s H E) (defBody st) t ∧ t { nx := fun _ H' => Q .non H', rt := Q } (start N vs) H) : FnG P w K mg base CX (k + 1) f fd ps sp := by
  obtain ⟨oc, od, kV, doc, pm, an, cdv, ct, osl, rfl, lk, hcd⟩ := F.ex
  constructor
  · exact len
  · intro A outer s H args us vs Q E hG hr e0 hb r hsp
    obtain ⟨t, ht, hq⟩ := body cdv A outer s H vs Q E hG (hr.deeper _) hsp
    have KX : K.In s.heap := e0.mod.kin.keeps fun b o e => (e0.bs b o e).1
    have places : ∀ y ∈ ps.zip us, (defScope st).names.lookup y.1 = some .local ∨ ((defScope st).names.lookup y.1 = some .cell ∧ ((cellsFrom (s.heap.objs.size + 1) (defScope st).names []).lookup y.1).isSome = true) := by
      rintro ⟨n, v⟩ hy
      cases S.par n (List.of_mem_zip hy).1 with
      | inl q => exact .inl q
      | inr q => exact .inr ⟨q, PySem.W.cellsFrom_some _ _ _ (.inl q)⟩
    apply codeAny_call_function hr.depth (KX _ _ lk) rfl S.co S.gen rfl (PySem.W.codeRec_of KX hcd)
    apply hb
    apply wpAny_newFunctionEnv_cells S.kind places
    intro env he s1 x
    subst he
    refine ⟨(e0.mod.nolimit.keeps fun b o e => (e0.bs b o e).1).keeps x.toInCall.keep, codeAny_func ?_⟩
    have I := inv_start (CX := CX) (E := E) S hr.hd e0 (len _ _ _ _ hsp) r x
    apply wpAny_mono (ht.run [] s1 (start N vs) H _ I hq)
    · intro fl s' hs
      cases fl with
      | ret u =>
        obtain ⟨v, σ', H', J, rv, q⟩ := hs
        exact ⟨v, H', J.os, J.bare, J.base, J.hok, rv, q⟩
      | next =>
        obtain ⟨σ', H', J, q⟩ := hs
        exact ⟨.non, H', J.os, J.bare, J.base, J.hok, rfl, q⟩
      | brk => exact (hs.choose_spec.choose_spec.2 : False).elim
      | cont => exact (hs.choose_spec.choose_spec.2 : False).elim
    · intro e s' hs
      exact hs
/-- in the form of the layer's own rule -/
theorem Fun.okG {x qual : Str} {st : Stmt} {f : Addr} {fd : FuncData} {N ps : List Str} {k : Nat} {sp : Sp} (F : Fun K x qual st f fd) (S : FnScope N ps (defScope st)) (len : ∀ vs H Q E, sp vs H Q E → vs.length = ps.length)
    (body : ∀ (cdv : Value) (A : Around) (outer : List Env) (s : Shared) (H : Hp) (vs : List V) (Q : VK) (E : XK), A.guards = some [] → Room k (A.deeper (envOfC qual (defScope st) s.heap.objs.size f cdv)) → sp vs H Q E →
      ∃ t, PSs (cxOf CX0 P w K mg base N qual (defScope st) f cdv A outer s H E).nox (defBody st) t ∧ t { nx := fun _ H' => Q .non H', rt := Q } (start N vs) H) : FnG P w K mg base CX0 (k + 1) f fd ps sp :=
  fnG_of F S len fun cdv A outer s H vs Q E hG hr hsp => by
    obtain ⟨t, h, q⟩ := body cdv A outer s H vs Q E hG hr hsp
    exact ⟨t, h.nox, q⟩
end

/-! ### the law itself, called at the outermost place -/
section
variable {P : Program} {w : World} {K : PySem.W.Frag} {mg mb : Str → Option Value} {CX : CXT} {k : Nat} {fa a : Addr} {fd : FuncData} {x : Str} {sp : Sp} {s : Shared} {vs : List Value} {ns : List Int}
/-- where at most the script's list is tracked, and no written thing is -/
structure Lone (K : PySem.W.Frag) (H : Hp) (a : Addr) : Prop where
  only : Only H
  just : ∀ b u, H b = some u → b = a
  free : ∀ u, H a = some u → K.lookup a = none
theorem Lone.base {H : Hp} (L : Lone K H a) (KX : K.In s.heap) : K.In (hidT s.heap H) := by
  intro b o e
  apply hidT_get (KX b o e)
  match q : H b with
  | none => rfl
  | some u =>
    have eb := L.just b u q
    subst eb
    rw [L.free u q] at e
    exact nomatch e
theorem Lone.names {H : Hp} (L : Lone K H a) {o : Obj} (ha : s.heap.get? a = some o) (hd : ∀ es ep, o.data ≠ .dict es ep) {b : Addr} {m : Str → Option Value} (h : s.heap.Ns b m) : (hidT s.heap H).Ns b m := by
  obtain ⟨ob, es, ep, e, d, r⟩ := h
  refine ⟨ob, es, ep, hidT_get e ?_, d, r⟩
  match q : H b with
  | none => rfl
  | some u =>
    have eb := L.just b u q
    subst eb
    rw [ha] at e
    exact (hd es ep (Option.some.inj e ▸ d)).elim
theorem law_at (KX : K.In s.heap) (hns : s.heap.Ns mainGlobals mg) (hb : s.heap.Ns builtinsNs mb) (hbb : ∀ x : Str, x ≠ "__name__" → mb x = bootBuiltins x) (hlim : s.heap.NoLimit) (hg : s.gens = #[])
    (ha : s.heap.get? a = some { cls := .type "list", data := .seq vs.toArray }) (hr : Room k callerA)
    (F : ∀ base : Heap, K.In base → base.Ns mainGlobals mg → FnG P w K mg base CX k fa fd [x] sp) (hbind : ∀ (s : Shared) (u : Value), BindsTo s fd ⟨[u], []⟩ [(x, u)])
    (hCX : ∀ H e s', CX [] H s (fun _ _ _ => False) e s' → False) {H : Hp} (L : Lone K H a) (hok : HOk P w H s.heap) (hsp : sp [.ref a] H (fun v _ => v = .bl true) fun _ _ _ => False) :
    codeAny (model P w) callerA (.call (.ref fa) ⟨[.ref a], []⟩) (fun r s' => r = .ok (.ret (.bool true)) ∧ OldK s.heap s'.heap ∧ s'.os = s.os ∧ AllBare s'.gens) s := by
  have nd : ∀ (es : Array DictEntry) (ep : Nat), ({ cls := .type "list", data := .seq vs.toArray } : Obj).data ≠ .dict es ep := fun es ep z => nomatch z
  have KB := L.base KX
  have NB := L.names ha nd hns
  have lim : (hidT s.heap H).NoLimit := by
    obtain ⟨m, h1, h2⟩ := hlim
    exact ⟨m, L.names ha nd h1, h2⟩
  have none_in : ∀ b : Addr, b ∉ frs ([] : List Env) := fun b z => nomatch (show b ∈ ([] : List Addr) from z)
  have e0 : Env0 P w K mg (hidT s.heap H) callerA [] s H :=
    { frames := rfl, mod := ⟨KB, NB, ⟨mb, L.names ha nd hb, hbb⟩, lim⟩, bs := fun _ _ e => of_hidT e, bsz := Nat.le_of_eq (hidT_size _ _), funs := trivial, frf := fun b z => absurd z (none_in b), hok := hok, bare := .of_eq hg }
  have go := (F _ KB NB).run callerA [] s H ⟨[.ref a], []⟩ [.ref a] [.ref a] _ _ rfl hr e0 (hbind s (.ref a)) (.cons rfl .nil) hsp
  apply codeAny_mono go
  intro r s' h
  match r, h with
  | .error e, h => exact (hCX H e s' h).elim
  | .ok (.ret u), ⟨v, H', os, bare, un, hok', rv, q⟩ =>
    cases (show v = V.bl true from q)
    cases (show u = Value.bool true from rv)
    refine ⟨rfl, OldK.of_keep fun b o e => ?_, os, bare⟩
    cases L.only b with
    | inl n => exact un.keep b o e n (none_in b) (fun z => nomatch z)
    | inr z =>
      obtain ⟨ob, xs, z⟩ := z
      have e1 : s.heap.get? b = some ob := (show ObjOk P w H s.heap b (.frz ob (.lst xs)) from hok b _ z).1
      have e2 : s'.heap.get? b = some ob := (show ObjOk P w H' s'.heap b (.frz ob (.lst xs)) from hok' b _ (un.frzs b ob _ z)).1
      rw [e1] at e
      rw [e2, ← Option.some.inj e]
  | .ok .next, h => exact (h : False).elim
  | .ok .brk, h => exact (h : False).elim
  | .ok .cont, h => exact (h : False).elim
end
open Classical in
theorem walk_at {l : PySem.W.OpenLaw} {n k : Nat} {q : Program} {loose : List Str} {XP : (Str → Option Value) → Heap → Prop} {YP : World → Heap → Prop} {d : DefRec} {K : Params → PySem.W.Frag} {CX : CXT} {sp : PySem.W.Frag → Sp} {x : Str}
    (hn : l.most = some n) (hn2 : n ≤ sizeLine) (hdf : d.params.defaults = []) (hr : Room k callerA) (hY : ∀ (w : World) (h : Heap), YP w h → (K w.params).In h)
    (F : ∀ (w : World) (mg : Str → Option Value) (fa : Addr) (h : Heap), (K w.params).In h → h.Ns mainGlobals mg → mg d.name = some (.ref fa) →
      ∃ fd : FuncData, (∀ (s : Shared) (u : Value), BindsTo s fd ⟨[u], []⟩ [(x, u)]) ∧
        ∀ base : Heap, (K w.params).In base → base.Ns mainGlobals mg → FnG l.prog w (K w.params) mg base CX k fa fd [x] (sp (K w.params)))
    (hsp : ∀ (K : PySem.W.Frag) (H : Hp) (a : Addr) (ns : List Int), ns.length ≤ n → SqL K H a (ns.map V.int) → sp K [.ref a] H (fun v _ => v = .bl true) fun _ _ _ => False)
    (hCX : ∀ (H : Hp) (s : Shared) (e : Value) (s' : Shared), CX [] H s (fun _ _ _ => False) e s' → False) :
    PySem.W.WalkO q loose XP YP l.row.toRowW d [] (fun f vs => PySem.call f vs) := by
  refine Att.attach_call hn hdf fun w s₀ s₁ mg mb fa o pm cd doc a vs ns G Y ho hd hcd hmg hobj hints hlen hg => ?_
  have KX := hY w _ Y
  obtain ⟨fd, hb, hF⟩ := F w mg fa _ KX G.T.g hmg
  have rv := vals_ints hints
  have lv : vs.length = ns.length := hints.length
  by_cases hk : (K w.params).lookup a = none
  · let sc : HO := .frz { cls := .type "list", data := .seq vs.toArray } (.lst (ns.map V.int))
    have at_a : ∀ {b : Addr} {u : HO}, (if b = a then some sc else none) = some u → b = a ∧ u = sc := by
      intro b u z
      by_cases e : b = a
      · rw [if_pos e] at z
        exact ⟨e, (Option.some.inj z).symm⟩
      · rw [if_neg e] at z
        exact nomatch z
    refine law_at KX G.T.g G.T.b G.T.builtins G.T.nolimit hg hobj hr hF hb (fun H e s' => hCX H s₁ e s') (H := fun b => if b = a then some sc else none) ⟨fun b => ?_, fun b u z => (at_a z).1, fun u z => hk⟩ (fun b u z => ?_) (hsp _ _ a ns hlen (.inl (.inr ⟨_, if_pos rfl⟩)))
    · by_cases e : b = a
      · exact .inr ⟨_, _, if_pos e⟩
      · exact .inl (if_neg e)
    · obtain ⟨e1, e2⟩ := at_a z
      subst e1 e2
      exact ⟨hobj, by rw [List.length_map]; omega, vs, _, rv, hobj⟩
  · obtain ⟨ob, hk⟩ := Option.ne_none_iff_exists'.mp hk
    have e := KX a ob hk
    rw [hobj] at e
    cases e
    have no : ∀ {u : HO}, (none : Option HO) = some u → False := fun z => nomatch z
    exact law_at KX G.T.g G.T.b G.T.builtins G.T.nolimit hg hobj hr hF hb (fun H e s' => hCX H s₁ e s') (H := fun _ => none) ⟨fun b => .inl rfl, fun b u z => (no z).elim, fun u z => (no z).elim⟩ (fun b u z => (no z).elim)
      (hsp _ _ a ns hlen (.inr ⟨_, vs.toArray, _, hk, rfl, rfl, rfl, by rw [List.size_toArray]; omega, by simpa using rv⟩))
end Gd
namespace Gd
open PySem PySem.Spec PyProof.Rows L2
/-! ### repr of data of small depth, dicts among them -/
def Sc : V → PyData → Prop
  | .non, .none => True
  | .bl b, .bool c => b = c
  | .int i, .int j => i = j
  | .str x, .str y => x = y
  | _, _ => False
/-- of depth n at most, v is data d; with true tuples alone -/
def Dq (H : Hp) : Nat → Bool → V → PyData → Prop
  | 0, _, v, d => Sc v d
  | n + 1, b, v, d => Sc v d ∨ (b = false ∧ ∃ (a : Addr) (xs : List V) (ds : List PyData), v = .ref a ∧ d = .list ds ∧ H a = some (.lst xs) ∧ Paired (Dq H n b) xs ds ∧ xs.length ≤ 100) ∨
      (∃ (a : Addr) (xs : List V) (ds : List PyData), v = .ref a ∧ d = .tuple ds ∧ H a = some (.tup xs) ∧ Paired (Dq H n b) xs ds ∧ xs.length ≤ 100) ∨
      (b = false ∧ ∃ (a : Addr) (kvs : List (Key × V)) (kds : List (PyData × PyData)), v = .ref a ∧ d = .dict kds ∧ H a = some (.dK kvs) ∧ Paired (fun (p : Key × V) (q : PyData × PyData) => Sc (kV p.1) q.1 ∧ Dq H n true p.2 q.2) kvs kds ∧ kvs.length ≤ 100 ∧ (kvs.map (·.1)).Nodup)
/-- things that hold nothing -/
def flat : PyData → Bool
  | .none => true
  | .bool _ => true
  | .int _ => true
  | .str _ => true
  | _ => false
/-- data whose lists and tuples hold flat things alone -/
def nice : PyData → Bool
  | .list ds => ds.all flat
  | .tuple ds => ds.all flat
  | .dict _ => true
  | _ => true
theorem flat_noDict : ∀ {ds : List PyData}, ds.all flat = true → PyData.hasDictAll ds = false
  | [], _ => rfl
  | d :: ds, h => by
    rw [List.all_cons, Bool.and_eq_true] at h
    rw [PyData.hasDictAll, flat_noDict h.2]
    cases d <;> first | rfl | (exact absurd h.1 (by decide)) | (exact nomatch h.1)
theorem sc_reads {h : Heap} : ∀ {v : V} {d : PyData} {u : Value}, Sc v d → RelV v u → Reads h u d []
  | .non, .none, u, _, r => by cases (show u = Value.none from r); exact .none
  | .bl b, .bool c, u, e, r => by cases (show u = Value.bool b from r); cases (show b = c from e); exact .bool b
  | .int i, .int j, u, e, r => by obtain ⟨t, q⟩ := (show ∃ t, u = Value.int i t from r); cases q; cases (show i = j from e); exact .int i t
  | .str x, .str y, u, e, r => by obtain ⟨t, q⟩ := (show ∃ t, u = Value.str x t from r); cases q; cases (show x = y from e); exact .str x t
theorem readsAll_of {h : Heap} {R : V → PyData → Prop} {Z : List Addr → Prop} (z0 : Z []) (za : ∀ as bs, Z as → Z bs → Z (as ++ bs)) (f : ∀ v d u, R v d → RelV v u → ∃ as, Reads h u d as ∧ Z as) : ∀ {vs : List V} {ds : List PyData} {us : List Value}, Paired R vs ds → Vals vs us → ∃ as, ReadsAll h us ds as ∧ Z as
  | _, _, _, .nil, .nil => ⟨[], .nil, z0⟩
  | _, _, _, .cons r1 r2, .cons q1 q2 => by
    obtain ⟨as, x, n⟩ := f _ _ _ r1 q1
    obtain ⟨bs, y, m⟩ := readsAll_of z0 za f r2 q2
    exact ⟨_, .cons x y, za _ _ n m⟩
theorem key_reads {h : Heap} {k : Key} {d : PyData} {u : Value} (e : Sc (kV k) d) (q : keyIs k u = true) : Reads h u d [] := by
  rcases keyIs_shape q with ⟨i, t, rfl, rfl⟩ | ⟨x, t, rfl, rfl⟩
  · exact sc_reads e ⟨t, rfl⟩
  · exact sc_reads e ⟨t, rfl⟩
theorem pairs_reads {P : Program} {w : World} {h : Heap} {R : V → PyData → Prop} (f : ∀ v d u, R v d → RelV v u → ∃ as, Reads h u d as ∧ as = []) : ∀ {es : List DictEntry} {vs : List (Key × Value)} {kvs : List (Key × V)} {kds : List (PyData × PyData)},
    Pairs (mixKind P w) es vs → KV kvs vs → Paired (fun (p : Key × V) (q : PyData × PyData) => Sc (kV p.1) q.1 ∧ R p.2 q.2) kvs kds → ReadsAll h (es.map (·.key)) (kds.map (·.1)) [] ∧ ReadsAll h (es.map (·.val)) (kds.map (·.2)) []
  | _, _, _, _, .nil, .nil, .nil => ⟨.nil, .nil⟩
  | _, _, _, _, .cons k1 k2 k3, .cons r1 r2, .cons q1 q2 => by
    obtain ⟨x, y⟩ := pairs_reads f k3 r2 q2
    obtain ⟨e1, e2⟩ := r1
    obtain ⟨cs, z, ec⟩ := f _ _ _ q1.2 e2
    subst ec
    exact ⟨.cons (as := []) (key_reads (k := _) q1.1 (by rw [e1]; exact k1)) x, .cons (as := []) (by dsimp only; rw [k2]; exact z) y⟩
section
variable {X : Cx} {pins : List (Addr × Obj)} {σ : L2.St} {H : Hp} {s : Shared}
theorem dq_reads (I : Inv X pins σ H s) : ∀ (n : Nat) (b : Bool) (v : V) (d : PyData) (u : Value), Dq H n b v d → RelV v u → ∃ as, Reads s.heap u d as ∧ (b = true → as = [])
  | 0, b, v, d, u, e, r => ⟨[], sc_reads e r, fun _ => rfl⟩
  | n + 1, b, v, d, u, e, r => by
    have ih := fun b v d u => dq_reads I n b v d u
    have za : ∀ (b : Bool) (as bs : List Addr), (b = true → as = []) → (b = true → bs = []) → b = true → as ++ bs = [] := fun b as bs h1 h2 e => by rw [h1 e, h2 e]; rfl
    rcases e with e | ⟨e0, a, xs, ds, rfl, rfl, ha, hp, _⟩ | ⟨a, xs, ds, rfl, rfl, ha, hp, _⟩ | ⟨e0, a, kvs, kds, rfl, rfl, ha, hp, _⟩
    · exact ⟨[], sc_reads e r, fun _ => rfl⟩
    · cases (show u = Value.ref a from r)
      obtain ⟨_, its, m, rv, hg⟩ := (show ObjOk X.prog X.w H s.heap a (.lst xs) from I.hok a _ ha)
      obtain ⟨as, x, o⟩ := readsAll_of (fun _ => rfl) (za b) (ih b) hp rv
      exact ⟨_, .list hg rfl rfl x, fun z => by rw [e0] at z; cases z⟩
    · cases (show u = Value.ref a from r)
      obtain ⟨_, its, rv, ob, hg, hc, m, hd⟩ := (show ObjOk X.prog X.w H s.heap a (.tup xs) from I.hok a _ ha)
      obtain ⟨as, x, o⟩ := readsAll_of (fun _ => rfl) (za b) (ih b) hp rv
      exact ⟨_, .tuple hg hc hd x, o⟩
    · cases (show u = Value.ref a from r)
      obtain ⟨_, hs, vs, kv, ob, es, ep, hg, hx, hd, _, hpr, _⟩ := (show ObjOk X.prog X.w H s.heap a (.dK kvs) from I.hok a _ ha)
      obtain ⟨x, y⟩ := pairs_reads (fun v d u q r => let ⟨as, z, e⟩ := ih true v d u q r; ⟨as, z, e rfl⟩) hpr kv hp
      exact ⟨_, .dict hg hx.1 hd x y, fun z => by rw [e0] at z; cases z⟩
/-- nice data: no place of sys.modules among the dicts -/
theorem dq_nice (I : Inv X pins σ H s) {n : Nat} {v : V} {d : PyData} {u : Value} (hn : nice d = true) (e : Dq H n false v d) (r : RelV v u) : ∃ as, Reads s.heap u d as ∧ (d.hasDict = true → sysModules ∉ as) := by
  match n, e with
  | 0, e => exact ⟨[], sc_reads e r, fun _ z => nomatch z⟩
  | n + 1, e =>
    have gen := dq_reads I (n + 1) false v d u e r
    rcases e with e | ⟨e0, a, xs, ds, rfl, rfl, ha, hp, _⟩ | ⟨a, xs, ds, rfl, rfl, ha, hp, _⟩ | ⟨e0, a, kvs, kds, rfl, rfl, ha, hp, _⟩
    · exact ⟨[], sc_reads e r, fun _ z => nomatch z⟩
    · obtain ⟨as, x, _⟩ := gen
      exact ⟨as, x, fun z => by rw [PyData.hasDict, flat_noDict hn] at z; cases z⟩
    · obtain ⟨as, x, _⟩ := gen
      exact ⟨as, x, fun z => by rw [PyData.hasDict, flat_noDict hn] at z; cases z⟩
    · cases (show u = Value.ref a from r)
      obtain ⟨_, hs, vs, kv, ob, es, ep, hg, hx, hd, _, hpr, _⟩ := (show ObjOk X.prog X.w H s.heap a (.dK kvs) from I.hok a _ ha)
      obtain ⟨x, y⟩ := pairs_reads (fun v d u q r => let ⟨as, z, e⟩ := dq_reads I n true v d u q r; ⟨as, z, e rfl⟩) hpr kv hp
      refine ⟨_, .dict hg hx.1 hd x y, fun _ z => ?_⟩
      rcases List.mem_cons.mp z with z | z
      · rw [← z] at hs
        exact absurd hs (by decide)
      · exact nomatch z
/-- the parts of a list of nice data, each by itself -/
theorem parts_shown {P : Program} {w : World} {h : Heap} : ∀ {us : List Value} {ds : List PyData} {as : List Addr}, ReadsAll h us ds as → (∀ (i : Nat) (u : Value) (d : PyData), us[i]? = some u → ds[i]? = some d → ∃ bs, Reads h u d bs ∧ (d.hasDict = true → sysModules ∉ bs)) →
    (∀ d ∈ ds, d.showable = true ∧ d.shown.length ≤ sizeLine) → ∃ bs, ReadAtMost h (PyData.depthAll ds) bs ∧ ReprAllK P w bs h (PyData.depthAll ds) us (PyData.shownAll ds)
  | [], [], _, .nil, _, _ => ⟨[], (fun _ z => nomatch z), ReprAllK.nil⟩
  | u :: us, d :: ds, _, .cons r rs, f, g => by
    obtain ⟨as1, r1, h1⟩ := f 0 u d rfl rfl
    obtain ⟨g1, g2⟩ := g d (List.mem_cons_self ..)
    obtain ⟨b1, m1, k1⟩ := ReprK.of_reads (prog := P) (w := w) r1 g1 h1 g2
    obtain ⟨b2, m2, k2⟩ := parts_shown (P := P) (w := w) rs (fun i u d e1 e2 => f (i + 1) u d e1 e2) (fun d hd => g d (List.mem_cons_of_mem _ hd))
    have l1 : d.depth ≤ PyData.depthAll (d :: ds) := by rw [PyData.depthAll]; exact Nat.le_max_left _ _
    have l2 : PyData.depthAll ds ≤ PyData.depthAll (d :: ds) := by rw [PyData.depthAll]; exact Nat.le_max_right _ _
    refine ⟨b1 ++ b2, (m1.mono l1).append (m2.mono l2), ?_⟩
    rw [PyData.shownAll]
    exact .cons ((k1.more fun b q => List.mem_append_left _ q).level_le l1) (k2.more_le (fun b q => List.mem_append_right _ q) l2)
/-- repr(x), x nice data or a list of such -/
def rRepr : List V → Hp → VK → Prop := fun xs H Q => ∃ (n : Nat) (x : V) (d : PyData), xs = [x] ∧ Dq H n false x d ∧ (nice d = true ∨ ∃ ds, d = .list ds ∧ ds ≠ [] ∧ ∀ e ∈ ds, nice e = true ∧ e.showable = true ∧ e.shown.length ≤ sizeLine) ∧ d.showable = true ∧ d.shown.length ≤ sizeLine ∧ d.depth ≤ 60 ∧ Q (.str d.shown) H
theorem call_repr (hG : X.A.guards = some []) (hu : X.A.units + 64 < cLine) : CallR X (.builtin "repr") rRepr := by
  intro pins s σ H xs us Q I r h
  obtain ⟨n, x, d, rfl, hd, hc, hs, hz, hp, q⟩ := h
  cases r with
  | cons r1 r2 =>
    cases r2
    rename_i u
    have out : ∀ (h' : Heap) (t : Tok) (tk : Nat), (∀ b o, s.heap.get? b = some o → h'.get? b = some o) → EP X pins σ Q (.str d.shown t) { s with heap := h', toks := tk } := fun h' t tk hk => ⟨.str d.shown, H, I.kept (t' := tk) hk, ⟨t, rfl⟩, q⟩
    rcases hc with hn | ⟨ds, rfl, ne, hn⟩
    · obtain ⟨as, rd, hno⟩ := dq_nice I hn hd r1
      cases rd with
      | none => exact PySem.P.repr_of_none (out s.heap _ _ fun _ _ e => e)
      | bool b => exact PySem.P.repr_of_bool (by simpa only [PyData.shown] using out s.heap _ _ fun _ _ e => e)
      | int i t => exact PySem.P.repr_of_int (by simpa only [PyData.showable, decide_eq_true_eq] using hs) (by simpa only [PyData.shown] using out s.heap s.toks (s.toks + 1) fun _ _ e => e)
      | str z t => exact PySem.P.repr_of_str (by simpa only [PyData.shown] using out s.heap s.toks (s.toks + 1) fun _ _ e => e) (by simpa only [PyData.shown] using hz)
      | list a b c e => exact repr_of_reads' (.list a b c e) hs hno hG (by omega) (fun _ _ e => e) (fun h' t tk hk => out h' t tk hk) hz
      | tuple a b c e => exact repr_of_reads' (.tuple a b c e) hs hno hG (by omega) (fun _ _ e => e) (fun h' t tk hk => out h' t tk hk) hz
      | dict a b c e f => exact repr_of_reads' (.dict a b c e f) hs hno hG (by omega) (fun _ _ e => e) (fun h' t tk hk => out h' t tk hk) hz
    · match n, hd with
      | 0, hd => exact (show False by cases x <;> exact hd).elim
      | n + 1, hd =>
        rcases hd with e | ⟨_, a, ys, ds', rfl, e, ha, hpr, _⟩ | ⟨_, _, _, _, e, _⟩ | ⟨_, _, _, _, _, e, _⟩
        · exact (show False by cases x <;> exact e).elim
        · cases e
          cases (show u = Value.ref a from r1)
          obtain ⟨_, its, m, rv, hg⟩ := (show ObjOk X.prog X.w H s.heap a (.lst ys) from I.hok a _ ha)
          obtain ⟨as, rd, _⟩ := readsAll_of (Z := fun _ => True) True.intro (fun _ _ _ _ => True.intro) (fun v d u q r => let ⟨as, z, _⟩ := dq_reads I n false v d u q r; ⟨as, z, True.intro⟩) hpr rv
          have each : ∀ {ys : List V} {ds : List PyData} {its : List Value}, Paired (Dq H n false) ys ds → Vals ys its → (∀ e ∈ ds, nice e = true) → ∀ (i : Nat) (u : Value) (d : PyData), its[i]? = some u → ds[i]? = some d → ∃ bs, Reads s.heap u d bs ∧ (d.hasDict = true → sysModules ∉ bs) := by
            intro ys ds its p
            induction p generalizing its with
            | nil => intro _ _ i u d _ e2; simp at e2
            | cons q t ih =>
              intro rv hn i u d e1 e2
              cases rv with
              | cons w1 w2 =>
                cases i with
                | zero =>
                  cases e1
                  cases e2
                  exact dq_nice I (hn _ (List.mem_cons_self ..)) q w1
                | succ i => exact ih w2 (fun e he => hn e (List.mem_cons_of_mem _ he)) i u d (by simpa using e1) (by simpa using e2)
          obtain ⟨bs, hb, hk⟩ := parts_shown (P := X.prog) (w := X.w) rd (each hpr rv fun e he => (hn e he).1) (fun e he => (hn e he).2)
          have whole : Reads s.heap (.ref a) (.list ds) _ := .list hg rfl rfl rd
          have dp : (PyData.list ds).depth = PyData.depthAll ds + 1 := by rw [PyData.depth]
          have away : a ∉ bs := not_mem_of_deeper whole (by rw [dp]; omega) hb
          have hz2 : (listText (PyData.shownAll ds)).length ≤ sizeLine := by simpa only [PyData.shown] using hz
          have ty : s.TypeIs (.ref a) "list" := ⟨_, hg, rfl⟩
          refine call_repr_slot (by omega) ty F.slot_list_repr.toG ?_
          cases its with
          | nil =>
            cases rd
            exact absurd rfl ne
          | cons u1 its =>
            refine call_list_reprK hg rfl rfl away (by simpa using hk.length_eq) (fun i y e => hk.item i y (by simpa using e)) hG (fun b _ => Clear.nil b) (by rw [dp] at hp; show X.A.units + 1 + _ < cLine; omega) (fun _ _ e => e) (fun h' t tk hk => ?_) hz2
            refine ⟨_, _, rfl, ?_⟩
            have z := out h' t tk hk
            simpa only [PyData.shown] using z
        · cases e
        · cases e
end
end Gd
namespace Gd
open PySem PySem.Spec PyProof.Rows L2 PySem.HandSPX Builtin Builtin.ObjectAttr
/-! ### an exception class of one's own called with keywords, too -/
section
variable {prog : Program} {w : World} {A : Around} {E : Value → Shared → Prop} {R : Result → Shared → Prop} {h : Heap} {g : Array GenState} {d : Drawn} {t : Nat} {os : OsState}
variable {nm q : Str} {C N : Addr} {bs bm bmB : List Value} {hdct : Bool} {sn : List Str} {sub : List Value} {ab : Bool} {col : Option Bool} {dd : Option Addr} {k0 k1 k2 k3 k5 : Option Value} {B newId initId : String}
  {rest : List Value} {kw : List (Str × Value)}
theorem kw_check {M : Model} (F : ExcBaseFacts B newId initId bmB) (same : ∀ X : String, bm.contains (.type X) = bmB.contains (.type X)) {Q : Unit → Shared → Prop}
    (hC : h.get? C = some (excClassObj nm q C N bs bm hdct sn sub ab col dd k0 k1 k2 k3 k5 newId)) (hq : Q () ⟨h, g, d, t, os⟩) : wpAny M A (checkBuiltinCall newId ⟨.ref C :: rest, kw⟩) Q E ⟨h, g, d, t, os⟩ := by
  have below : (Value.ref C :: bm).contains (.type B) = true := by simp only [List.contains_cons, same, F.hasB, Bool.or_true]
  have star := F.noStar
  simp only [checkBuiltinCall, F.newSplit, F.newKind, F.newRow]
  repeat first
    | refine wpAny_staticBase_exc hC ?_
    | refine wpAny_madeBy_exc hC ?_
    | (refine wpAny_isSubtype_exc hC ?_; rw [below])
    | refine wpAny_loadPart_at hC ?_
    | simp only [Bool.false_eq_true, bne_self_eq_false, if_false]
    | wp_step
  exact hq
theorem kw_new (F : ExcBaseFacts B newId initId bmB) (same : ∀ X : String, bm.contains (.type X) = bmB.contains (.type X)) (hC : h.get? C = some (excClassObj nm q C N bs bm hdct sn sub ab col dd k0 k1 k2 k3 k5 newId)) (hl : rest.length ≤ sizeLine)
    (hq : R (.ok (.ret (.ref (h.objs.size + 1)))) ⟨(h.push (PySem.W.kdv_tup rest)).push (excO C h.objs.size), g, d, t, os⟩) :
    codeAny (model prog w) A (.builtin newId ⟨.ref C :: rest, kw⟩) R ⟨h, g, d, t, os⟩ := by
  have ends := F.ends
  have isB : (Value.ref C :: bm).contains (.type B) = true := by simp only [List.contains_cons, same, F.hasB, Bool.or_true]
  have notA : (Value.ref C :: bm).contains (.type "AttributeError") = false := by simp only [List.contains_cons, same, F.noAttr, Bool.or_false]; rfl
  have notN : (Value.ref C :: bm).contains (.type "NameError") = false := by simp only [List.contains_cons, same, F.noName, Bool.or_false]; rfl
  apply codeAny_builtinAt F.entry
  unfold Builtin.«BaseException.__new__»
  refine PySem.wpAt_bind ?_
  show PySem.wpAt _ _ _ (stack >>= _) _ _ _
  refine PySem.wpAt_bind ?_
  refine PySem.wpAt_stack fun p below => ?_
  apply PySem.wpAt_of_wpAny
  wp_walk
  apply PySem.wpAt_of_wpAny
  rw [F.owner]
  repeat first
    | with_reducible refine wpAny_loadPart_at hC ?_
    | with_reducible refine wpAny_madeHere_exc F.canon hC ?_
    | (with_reducible refine wpAny_isSubtype_exc hC ?_; first | rw [notN] | rw [notA] | rw [isB])
    | wp_step
  show R _ _
  rw [Heap.size_push]
  exact hq
/-- C(*rest, **kw): the new exception, then C's own __init__ over it -/
theorem kw_make (F : ExcBaseFacts B newId initId bmB) (same : ∀ X : String, bm.contains (.type X) = bmB.contains (.type X)) {fI : Addr} (hC : h.get? C = some (excClassObj nm q C N bs bm hdct sn sub ab col dd k0 k1 k2 k3 k5 newId)) (hl : rest.length ≤ sizeLine)
    (hi : PySem.W.Looks (model prog w) h (typeLookup (.ref C) "__init__") (some (.ref fI))) (hb : ∀ self, PySem.W.Looks (model prog w) h (bindSpecial (.ref fI) self) (.ref fI, [self]))
    (hq : codeAny (model prog w) (A.under (.builtin "type.__call__" ⟨.ref C :: rest, kw⟩)) (.call (.ref fI) ⟨.ref (h.objs.size + 1) :: rest, kw⟩) (PySem.W.InitBack (h.objs.size + 1) R)
      ⟨(h.push (PySem.W.kdv_tup rest)).push (excO C h.objs.size), g, d, t, os⟩) :
    codeAny (model prog w) A (.call (.ref C) ⟨rest, kw⟩) R ⟨h, g, d, t, os⟩ := by
  have f1 := tc_lookup
  have f2 := tc_bind (.ref C)
  have ty : (⟨h, g, d, t, os⟩ : Shared).TypeIs (.ref C) "type" := ⟨_, hC, rfl⟩
  have old : ∀ b o, h.get? b = some o → ((h.push (PySem.W.kdv_tup rest)).push (excO C h.objs.size)).get? b = some o := fun b o e => Heap.get?_push_of_some _ (Heap.get?_push_of_some _ e)
  have new : ((h.push (PySem.W.kdv_tup rest)).push (excO C h.objs.size)).get? (h.objs.size + 1) = some (excO C h.objs.size) := by heap_get
  have mine : (Value.ref C :: bm).contains (.ref C) = true := by simp only [List.contains_cons, beq_self_eq_true, Bool.true_or]
  apply codeAny_of_tree
  show wpAny _ _ (callAny (.ref C) _) _ _ _
  repeat any_goals first
    | assumption
    | with_reducible refine wpAny_loadPart_at hC ?_
    | wp_step
  refine ⟨rfl, ?_⟩
  apply codeAny_call_builtin_at (Code.quiet_builtin _ (by decide +kernel)) entry_typeCall
  apply wpAny_check_type_call_sub hC
  repeat first
    | with_reducible refine wpAny_madeBy_exc hC ?_
    | with_reducible refine wpAny_loadPart_at hC ?_
    | wp_step
  apply codeAny_call_builtin_code (Code.quiet_builtin _ F.quiet)
  apply kw_check F same hC
  apply kw_new F same hC hl
  show wpAny _ _ _ _ _ _
  have hC1 := old _ _ hC
  unfold isInstance
  repeat first
    | with_reducible refine wpAny_loadPart_at new ?_
    | (with_reducible refine wpAny_isSubtype_exc hC1 ?_; rw [mine])
    | wp_step
  show wpAny _ _ (typeLookup (.ref C) _) _ _ _
  apply (hi.keeps old).at
  apply wpAny_holding
  apply wpAny_bind
  apply ((hb (.ref (h.objs.size + 1))).keeps old).at
  apply wpAny_bind
  apply wpAny_call
  apply codeAny_mono hq
  intro r s' z
  match r, z with
  | .error e, z => exact z
  | .ok (.ret v), z =>
    obtain ⟨ev, y⟩ := (show v = Value.none ∧ R (.ok (.ret (.ref (h.objs.size + 1)))) s' from z)
    subst ev
    wp_walk
    exact y
  | .ok .next, z => exact (z : False).elim
  | .ok .brk, z => exact (z : False).elim
  | .ok .cont, z => exact (z : False).elim
end
end Gd
namespace Gd
open PySem PySem.Spec PyProof.Rows L2
theorem pe_weak {X : Cx} {e : Expr} {t t' : TE} (h : PE X e t) (f : ∀ σ H Q, t' σ H Q → t σ H Q) : PE X e t' := ⟨fun pins s σ H Q I q => h.run pins s σ H Q I (f σ H Q q)⟩
/-- at a: an exception of the class at C with these fields -/
def ExAt (H : Hp) (a C : Addr) (fs : List (Str × V)) : Prop := ∃ d, H a = some (exo a C (some d)) ∧ H d = some (exd d fs)
theorem ExAt.same {H H' : Hp} {a C : Addr} {fs : List (Str × V)} (x : ExAt H a C fs) (s : Same H H') : ExAt H' a C fs := by
  obtain ⟨d, h1, h2⟩ := x
  exact ⟨d, s _ _ h1, s _ _ h2⟩
/-- C(.., k = ..) as a value; C's own __init__ keeps sp -/
def tMkX (C : Addr) (sp : Sp) (gV : List V → List V → List V) (t tk : TA) : TE := fun σ H Q => t σ H fun vs H1 => tk σ H1 fun zs H2 => vs.length ≤ 1000 ∧ ∀ a, H2 a = none →
  sp (gV (.ref a :: vs) zs) (upd H2 a (exo a C none)) (fun v H3 => v = .non ∧ Q (.ref a) H3) (fun _ _ _ => False)
section
variable {X : Cx} {CX : CXT} {k : Nat} {fI C : Addr} {fd : FuncData} {ps ks : List Str} {sp : Sp} {x : Str} {p pos : Pos} {e : Expr} {es : List Expr} {kws : List Keyword} {t tk : TA} {g : List Value → List Value → List Value} {gV : List V → List V → List V}
theorem run_mkX {pins : List (Addr × Obj)} {σ : L2.St} {H : Hp} {s : Shared} {Q : VK} {us ws : List Value} {vs zs : List V} (T : OexC X.K C) (iC : PySem.W.findIn X.K (.ref C) "__init__" = some (some (.ref fI)))
    (tI : PySem.W.typeIn X.K (.ref fI) = some (.type "function")) (F1 : FnOk X.prog X.w X.K X.mg X.base CX k fI fd ps sp) (hr : Room (k + 1) X.A) (hb : KBinds X.K fd ps ks g gV) (hx : Passes CX X (fun _ _ _ => False))
    (I : Inv X pins σ H s) (r : Vals vs us) (rz : Vals zs ws) (hl : vs.length ≤ 1000)
    (h : ∀ a, H a = none → sp (gV (.ref a :: vs) zs) (upd H a (exo a C none)) (fun v H3 => v = .non ∧ Q (.ref a) H3) (fun _ _ _ => False)) :
    wpAny (model X.prog X.w) X.A (call (.ref C) us (ks.zip ws)) (EP X pins σ Q) X.xe s := by
  obtain ⟨nm, q, N, bs, bm, sn, sub, ab, col, dd, k0, k1, k2, k3, k5, hC, hbm⟩ := T.cls
  obtain ⟨hp, gs, dr, n, os⟩ := s
  have more : hp.objs.size ≤ hp.objs.size + 1 := Nat.le_succ _
  have hq := h (hp.objs.size + 1) (I.hok.fresh more)
  have new : ((hp.push (PySem.W.kdv_tup us)).push (PySem.HandSPX.excO C hp.objs.size)).get? (hp.objs.size + 1) = some (PySem.HandSPX.excO C hp.objs.size) := by heap_get
  have J : Inv X pins σ (upd H (hp.objs.size + 1) (exo (hp.objs.size + 1) C none)) ⟨(hp.push (PySem.W.kdv_tup us)).push (PySem.HandSPX.excO C hp.objs.size), gs, dr, n, os⟩ :=
    I.laid (t' := n) (a := hp.objs.size + 1) (o := exo (hp.objs.size + 1) C none) (fun b o e => Heap.get?_push_of_some _ (Heap.get?_push_of_some _ e)) more (exo_ok new)
  have r1 : Vals (V.ref (hp.objs.size + 1) :: vs) (Value.ref (hp.objs.size + 1) :: us) := .cons rfl r
  have r2 := hb.rel r1 rz
  have len : (g (Value.ref (hp.objs.size + 1) :: us) ws).length = ps.length := by rw [← r2.length]; exact F1.len _ _ _ _ hq
  have lus : us.length ≤ sizeLine := by rw [← r.length, sizeLine_eq]; omega
  apply wpAny_call
  apply kw_make PySem.F.excBase_ValueError (fun Y => PySem.HandSPX.refsVE_contains Y bm hbm) (I.kIn _ _ hC) lus (PySem.W.looks_findIn I.kIn iC) (fun self => PySem.W.bind_fn I.kIn self tI)
  apply codeAny_mono (F1.run _ X.stack _ _ ⟨Value.ref (hp.objs.size + 1) :: us, ks.zip ws⟩ _ _ _ _ (hr.make C us (ks.zip ws)) (J.env0.make C us (ks.zip ws)) (hb.to _ (Value.ref (hp.objs.size + 1) :: us) ws J.kIn len) r2 hq)
  intro z s' hz
  match z, hz with
  | .error er, hz => exact hx pins σ _ _ er s' J hz
  | .ok (.ret u), hz =>
    obtain ⟨v, H', I3, rv, ev, q3⟩ := J.after hz
    subst ev
    exact ⟨rv, .ref (hp.objs.size + 1), H', I3, rfl, q3⟩
  | .ok .next, hz => exact (hz : False).elim
  | .ok .brk, hz => exact (hz : False).elim
  | .ok .cont, hz => exact (hz : False).elim
theorem pe_mkX (T : OexC X.K C) (iC : PySem.W.findIn X.K (.ref C) "__init__" = some (some (.ref fI))) (tI : PySem.W.typeIn X.K (.ref fI) = some (.type "function")) (F1 : FnOk X.prog X.w X.K X.mg X.base CX k fI fd ps sp) (hr : Room (k + 1) X.A)
    (hb : KBinds X.K fd ps [] g gV) (hx : Passes CX X (fun _ _ _ => False)) (hg : Gl X x) (hm : X.mg x = some (.ref C)) (ha : PA X (e :: es) t)
    (hdb : (x == ("__debug__" : Str)) = false := by decide) (he : starEach (e :: es) X.env = (false, eval e X.env) :: starEach es X.env := by rfl) (hpl : (backTo pos (starEach es X.env)).any (·.1) = false := by rfl) :
    PE X (.Call (.Name x p) (e :: es) [] pos) (tMkX C sp gV t tNil) := by
  constructor
  intro pins s σ H Q I h
  apply wpAny_Call_Name_kw
  apply ld_glob I hg hm ?_ hdb
  refine PySem.W.callWith_K (h₀ := X.base) I.ok.mod.kin T.kC (thn (ha.run pos pins s σ H _ I h) ?_) he hpl
  intro us s1 ⟨vs, H1, I1, r, l, q⟩
  exact ⟨I1.kIn, run_mkX (ws := []) T iC tI F1 hr hb hx I1 r .nil l q⟩
theorem pe_mkXK (T : OexC X.K C) (iC : PySem.W.findIn X.K (.ref C) "__init__" = some (some (.ref fI))) (tI : PySem.W.typeIn X.K (.ref fI) = some (.type "function")) (F1 : FnOk X.prog X.w X.K X.mg X.base CX k fI fd ps sp) (hr : Room (k + 1) X.A)
    (hb : KBinds X.K fd ps ks g gV) (hx : Passes CX X (fun _ _ _ => False)) (hg : Gl X x) (hm : X.mg x = some (.ref C)) (hkw : PK X kws tk)
    (hall : (backToKw pos (keywordEach kws X.env)).all (·.1.isSome) = true := by rfl) (hks : (backToKw pos (keywordEach kws X.env)).filterMap (·.1) = ks := by rfl) (hdb : (x == ("__debug__" : Str)) = false := by decide)
    (hpl : ((backTo pos (starEach [] X.env)).any (·.1) || (backToKw pos (keywordEach kws X.env)).any (·.1.isNone)) = false := by rfl) :
    PE X (.Call (.Name x p) [] kws pos) (tMkX C sp gV tNil tk) := by
  constructor
  intro pins s σ H Q I h
  apply wpAny_Call_Name_kw
  apply ld_glob I hg hm ?_ hdb
  refine PySem.W.callWith_KW0 (h₀ := X.base) I.ok.mod.kin T.kC hall ?_ hpl
  refine thn (hkw.run pos pins s σ H _ I h) ?_
  intro ws s2 ⟨zs, H2, I2, rz, l, q2⟩
  refine ⟨I2.kIn, ?_⟩
  rw [hks]
  exact run_mkX (us := []) T iC tI F1 hr hb hx I2 .nil rz l q2
end
end Gd
namespace Gd
open PySem PySem.Spec PySem.Calls PyProof.Rows PySem.W
/-! ### isinstance of an exception that may have attributes -/
section
variable {prog : Program} {w : World} {A : Around} {E : Value → Shared → Prop} {s : Shared} {K : Frag} {x D : Addr} {ox : Obj} {od : Option Obj}
theorem class_found (T : L2.ExcC K D) : findObj K D od "__class__" = some (.bind (.builtin "getset_descriptor.__get__") (.builtin "object.__class__")) := by
  obtain ⟨cd, hc, _⟩ := any_some T.hd
  unfold findObj
  simp [hc, T.ha, T.hn, T.ht]
theorem class_asked (T : L2.ExcC K D) {Q : Option Value → Shared → Prop} (X : K.In s.heap) (I : InstAt s.heap x ox D od) (h : Q (some (.ref D)) { s with toks := s.toks + 1 }) : wpAny (model prog w) A (getAttr? (.ref x) "__class__") Q E s := by
  obtain ⟨hp, g, d, t, os⟩ := s
  have ty := I.type (M := model prog w)
  have found := looks_find (M := model prog w) X I (class_found T)
  have get := looks_findIn (M := model prog w) X T.hg
  have none_else := looks_findIn (M := model prog w) X T.hk
  have below : Looks (model prog w) hp (isInstance (.ref x) (.type "BaseException")) true := ty.andThen (looks_subIn X T.hs)
  have ne : (Value.builtin "BaseException.__getattribute__" == Value.builtin "object.__getattribute__") = false := by decide +kernel
  have n1 : (onTheHeap (Value.ref D) && Value.builtin "BaseException.__getattribute__" == Value.builtin "object.__getattribute__") = false := by rw [ne]; rfl
  have n2 : (false && onTheHeap (Value.builtin "BaseException.__getattribute__")) = false := rfl
  unfold getAttr? getAttrBy? getAttrBy
  apply wpAny_bind
  apply wpAny_mkText
  apply wpAny_bind
  apply wpAny_attempt
  apply wpAny_holding
  apply wpAny_bind
  apply ty.at
  apply wpAny_bind
  apply get.at
  show wpAny _ _ (if (onTheHeap (Value.ref D) && Value.builtin "BaseException.__getattribute__" == Value.builtin "object.__getattribute__") = true then _ else _) _ _ _
  rw [n1, if_neg Bool.false_ne_true]
  unfold getAttrByItsOwn hookBefore
  apply wpAny_bind
  rw [if_pos (show onTheHeap (Value.ref D) = true from rfl)]
  apply none_else.at
  apply wpAny_bind
  apply wpAny_attempt
  apply wpAny_holding
  unfold callGetattribute
  rw [n2, if_neg Bool.false_ne_true]
  unfold boundAndCalled
  rw [PySem.F.excAttr_ValueError.ga.bind (.ref x)]
  apply wpAny_bind
  apply wpAny_pure
  show wpAny _ _ (call (.builtin "BaseException.__getattribute__") [.ref x, .str "__class__" t]) _ _ _
  apply wpAny_call
  apply codeAny_call_builtin PySem.F.excAttr_ValueError.ga.plain PySem.F.entry_bexc_ga
  apply @check_slot (model prog w) _ _ ⟨hp, g, d, t + 1, os⟩ "BaseException.__getattribute__" "BaseException" "__getattribute__" (.ref x) [.str "__class__" t] [] _ (by decide +kernel) (by decide +kernel) below (PySem.F.args_bexc_ga (.ref x) (.str "__class__" t))
  unfold Builtin.«object.__getattribute__»
  apply wpAny_bind
  apply wpAny_of_eq (a := ((Value.ref x : Value), [Value.str "__class__" t])) (by first | rfl | (simp only [slotArgs]; rfl))
  apply wpAny_bind
  apply wpAny_pure
  apply wpAny_bind
  apply ty.at
  apply wpAny_bind
  apply found.at
  show wpAny _ _ (holding [Value.builtin "object.__class__"] (call (.builtin "getset_descriptor.__get__") [.builtin "object.__class__", .ref x, .ref D]) >>= ret) _ _ _
  apply wpAny_bind
  apply wpAny_holding
  apply wpAny_call
  apply class_get (s := ⟨hp, g, d, t + 1, os⟩) (ox := ox) (od := od) X I T.hm
  apply wpAny_pure
  show wpAny _ _ (handedOut (.ref D)) _ _ _
  rw [handedOut_of (v := .ref D) rfl]
  first
    | exact wpAny_pure (wpAny_pure h)
    | exact wpAny_pure h
    | exact wpAny_pure (wpAny_bind (wpAny_pure (wpAny_pure h)))
theorem kitx_of (T : L2.ExcC K D) : KitX K (.ref x) (.ref D) (fun h => ∃ (ox : Obj) (od : Option Obj), InstAt h x ox D od) := by
  have part : ∃ (c : Value) (d' : Option Addr) (cd' : ClassData) (sl' : Array (Option Value)), K.lookup D = some ⟨c, d', .cls cd', sl'⟩ := by
    obtain ⟨cd, hc, _⟩ := any_some T.hd
    unfold clsIn at hc
    split at hc
    · rename_i c' d' cd' sl' ho
      exact ⟨c', d', cd', sl', ho⟩
    · cases hc
  obtain ⟨c', d', cd', sl', ho⟩ := part
  constructor
  · intro _ _ _ ⟨ox, od, I⟩
    exact I.type
  · intro M h X _ A' Q' E' s' k q
    unfold isType loadHead
    exact wpAny_bind (wpAny_loadPart (k _ _ (X _ _ ho)) (wpAny_pure q))
  · intro h tp dd its n sl X htp
    cases e : ((Value.ref D) == .ref tp) with
    | false => rfl
    | true =>
      have e' : D = tp := Value.ref.inj (beq_iff_eq.mp e)
      subst e'
      exact nomatch (X _ _ ho).symm.trans htp
  · intro _ _ _ _ _ _ X ⟨ox, od, I⟩ q
    exact class_asked T X I q
end
end Gd
namespace Gd
open PySem PySem.Spec PyProof.Rows L2
/-- at a: an exception of the class at D -/
def XAt (H : Hp) (a D : Addr) : Prop := (∃ fs, ExAt H a D fs) ∨ H a = some (exo a D none)
theorem XAt.same {H H' : Hp} {a D : Addr} (x : XAt H a D) (s : Same H H') : XAt H' a D := by
  rcases x with ⟨fs, x⟩ | x
  · exact .inl ⟨fs, x.same s⟩
  · exact .inr (s _ _ x)
section
variable {X : Cx} {pins : List (Addr × Obj)} {σ : L2.St} {H : Hp} {s : Shared}
theorem xat_inst (I : Inv X pins σ H s) {a D : Addr} (x : XAt H a D) : ∃ (ox : Obj) (od : Option Obj), PySem.W.InstAt s.heap a ox D od := by
  rcases x with ⟨fs, d, h1, h2⟩ | h1
  · obtain ⟨t1, ho⟩ := exo_at I.hok h1
    obtain ⟨mA, hn, _⟩ := exd_at I.hok h2
    obtain ⟨o, _, _, e, _⟩ := hn
    exact ⟨_, some o, ho, rfl, rfl, e⟩
  · obtain ⟨t1, ho⟩ := exo_at I.hok h1
    exact ⟨_, none, ho, rfl, rfl, trivial⟩
/-- isinstance(e, c), e an exception held as a value -/
def rIsX (K : PySem.W.Frag) : List V → Hp → VK → Prop := fun xs H Q => ∃ (a D : Addr) (c : V) (cv : Value) (b : Bool), xs = [.ref a, c] ∧ XAt H a D ∧ ClsV c cv ∧ ExcC K D ∧ PySem.W.kitOne K (.ref D) cv = some b ∧ Q (.bl b) H
theorem call_isX : CallR X (.builtin "isinstance") (rIsX X.K) := by
  intro pins s σ H xs us Q I r h
  obtain ⟨a, D, c, cv, b, rfl, hx, hc, T, e, q⟩ := h
  obtain ⟨u1, u2, rfl, r1, r2⟩ := vals2 r
  cases (show u1 = Value.ref a from r1)
  have e2 := hc.eq r2
  subst e2
  exact PySem.W.kia_one (kitx_of T) I.kIn (xat_inst I hx) e (fun z => nomatch z) fun tk => ⟨.bl b, H, I.tok tk, rfl, q⟩
/-- e.f, e an exception held as a value -/
def tXf (K : PySem.W.Frag) (f : Str) (te : TE) : TE := fun σ H Q => te σ H fun x H1 => ∃ (a C : Addr) (fs : List (Str × V)) (v : V), x = .ref a ∧ ExAt H1 a C fs ∧ ExcC K C ∧ PySem.W.findIn K (.ref C) f = some none ∧ fs.lookup f = some v ∧ Q v H1
theorem pe_xf {e : Expr} {te : TE} {f : Str} {pos : Pos} (he : PE X e te) (hb : attributeBase e f X.env (eval e X.env) = eval e X.env := by rfl) : PE X (.Attribute e f pos) (tXf X.K f te) := by
  constructor
  intro pins s σ H Q I h
  apply attr_of hb
  refine thn (he.run pins s σ H _ I h) ?_
  intro u s1 ⟨x, H1, I1, rx, a, C, fs, v, ex, ⟨d, h1, h2⟩, T, no, hv, q⟩
  subst ex
  cases (show u = Value.ref a from rx)
  obtain ⟨t1, ho⟩ := exo_at I1.hok h1
  obtain ⟨mA, hn, hr⟩ := exd_at I1.hok h2
  obtain ⟨od, hod, hl⟩ := lookIn_ns hn
  obtain ⟨w, hw, rw'⟩ := RelO.some_of (v := v) (o := mA f) (by rw [← hv]; exact hr f)
  have J : PySem.W.InstAt s1.heap a _ C (some od) := ⟨ho, rfl, rfl, hod⟩
  exact PySem.HandSPX.exc_get I1.kIn J T.hg T.hk T.hs (PySem.W.findObj_own T.hd no rfl (by rw [hl, hw])) (handed_of rw') ⟨v, H1, I1.tok _, rw', q⟩
end
end Gd
namespace Gd
open PySem PySem.Spec PyProof.Rows L2
/-- [..], where it is told that the place is not that of sys.modules -/
def tLstN (t : TA) : TE := fun σ H Q => t σ H fun xs H1 => xs.length ≤ sizeLine ∧ ∀ p, H1 p = none → p ≠ sysModules → Q (.ref p) (upd H1 p (.lst xs))
theorem pe_lstN {X : Cx} {es : List Expr} {pos : Pos} {t : TA} (h : PA X es t) : PE X (.List es pos) (tLstN t) := by
  constructor
  intro pins s σ H Q I hq
  apply wpAny_List_spliced
  apply thn (h.run pos pins s σ H _ I hq)
  intro us s1 ⟨xs, H1, I1, r, z, q⟩
  refine ⟨by rw [← r.length]; exact z, ?_⟩
  have low : 1 < s1.heap.objs.size := by
    obtain ⟨o, es, ep, e, _⟩ := I1.ok.mod.glob
    have : (3 : Nat) < s1.heap.objs.size := Heap.lt_size (I1.bk _ _ e)
    omega
  have ns : s1.heap.objs.size ≠ sysModules := fun z => by
    have : s1.heap.objs.size = 1 := z
    omega
  exact ⟨.ref s1.heap.objs.size, upd H1 s1.heap.objs.size (.lst xs), I1.laid (t' := s1.toks) (fun b u e => Heap.get?_push_of_some _ e) (Nat.le_refl _) (show ObjOk X.prog X.w _ _ _ (.lst xs) from ⟨z, us, 0, r, Heap.get?_push_size _ rfl⟩), rfl, q _ (I1.hok.fresh (Nat.le_refl _)) ns⟩
theorem Dq.same {H H' : Hp} (s : Same H H') : ∀ {n : Nat} {b : Bool} {v : V} {d : PyData}, Dq H n b v d → Dq H' n b v d
  | 0, _, _, _, h => h
  | n + 1, b, v, d, h => by
    have ih : ∀ {b v d}, Dq H n b v d → Dq H' n b v d := fun h => Dq.same s h
    rcases h with h | ⟨e0, a, xs, ds, e1, e2, h1, h2, h3⟩ | ⟨a, xs, ds, e1, e2, h1, h2, h3⟩ | ⟨e0, a, xs, ds, e1, e2, h1, h2, h3⟩
    · exact .inl h
    · exact .inr (.inl ⟨e0, a, xs, ds, e1, e2, s _ _ h1, L2.Paired.mapP h2 fun _ _ z => ih z, h3⟩)
    · exact .inr (.inr (.inl ⟨a, xs, ds, e1, e2, s _ _ h1, L2.Paired.mapP h2 fun _ _ z => ih z, h3⟩))
    · exact .inr (.inr (.inr ⟨e0, a, xs, ds, e1, e2, s _ _ h1, L2.Paired.mapP h2 fun _ _ z => ⟨z.1, ih z.2⟩, h3⟩))
/-- what holds of tuples alone holds -/
theorem Dq.weak {H : Hp} : ∀ {n : Nat} {b : Bool} {v : V} {d : PyData}, Dq H n true v d → Dq H n b v d
  | 0, _, _, _, h => h
  | n + 1, b, v, d, h => by
    have ih : ∀ {v d}, Dq H n true v d → Dq H n b v d := fun h => Dq.weak h
    rcases h with h | ⟨e0, _⟩ | ⟨a, xs, ds, e1, e2, h1, h2, h3⟩ | ⟨e0, _⟩
    · exact .inl h
    · cases e0
    · exact .inr (.inr (.inl ⟨a, xs, ds, e1, e2, h1, L2.Paired.mapP h2 fun _ _ z => ih z, h3⟩))
    · cases e0
/-- tuples stay where they are when something else is stored -/
theorem Dq.tups {H H' : Hp} (s : ∀ b xs, H b = some (.tup xs) → H' b = some (.tup xs)) : ∀ {n : Nat} {v : V} {d : PyData}, Dq H n true v d → Dq H' n true v d
  | 0, _, _, h => h
  | n + 1, v, d, h => by
    have ih : ∀ {v d}, Dq H n true v d → Dq H' n true v d := fun h => Dq.tups s h
    rcases h with h | ⟨e0, _⟩ | ⟨a, xs, ds, e1, e2, h1, h2, h3⟩ | ⟨e0, _⟩
    · exact .inl h
    · cases e0
    · exact .inr (.inr (.inl ⟨a, xs, ds, e1, e2, s _ _ h1, L2.Paired.mapP h2 fun _ _ z => ih z, h3⟩))
    · cases e0
theorem Dq.sc {H : Hp} {v : V} {d : PyData} {b : Bool} (h : Sc v d) : ∀ {n : Nat}, Dq H n b v d
  | 0 => h
  | n + 1 => .inl h
end Gd
namespace Gd
open PySem PySem.Spec PyProof.Rows L2
/-! ### an exception that an except clause keeps in a variable -/
def exv (a : Addr) (cls : Value) (d : Option Addr) : HO := .ext fun h => ∃ (o : Obj) (vs : Array Value), h.get? a = some o ∧ o.cls = cls ∧ o.dict = d ∧ o.data = .fields vs
theorem exv_ok {P : Program} {w : World} {H : Hp} {h : Heap} {a : Addr} {cls : Value} {d : Option Addr} {o : Obj} {vs : Array Value} (e : h.get? a = some o) (z : o.cls = cls) (k : o.dict = d) (f : o.data = .fields vs) : ObjOk P w H h a (exv a cls d) :=
  ⟨⟨o, vs, e, z, k, f⟩, ⟨o, e⟩, fun _ _ ⟨o', vs', q, r⟩ st => ⟨o', vs', st o' q, r⟩⟩
theorem exv_at {P : Program} {w : World} {H : Hp} {h : Heap} {a : Addr} {cls : Value} {d : Option Addr} (hok : HOk P w H h) (e : H a = some (exv a cls d)) : ∃ (o : Obj) (vs : Array Value), h.get? a = some o ∧ o.cls = cls ∧ o.dict = d ∧ o.data = .fields vs := by
  have y : ObjOk P w H h a (.ext fun h => ∃ (o : Obj) (vs : Array Value), h.get? a = some o ∧ o.cls = cls ∧ o.dict = d ∧ o.data = .fields vs) := hok a _ e
  exact y.1
section
variable {X : Cx} {pins : List (Addr × Obj)} {σ : L2.St} {H : Hp} {s : Shared} {a : Addr} {o : HO}
/-- what stands at a and is new since the entry may be tracked -/
theorem follow (I : Inv X pins σ H s) (na : H a = none) (new : ObjOk X.prog X.w (upd H a o) s.heap a o) (h0 : X.s_0.heap.get? a = none) (pn : ∀ p ∈ X.pn ++ pins, p.1 ≠ a) (nL : X.env.locals ≠ a) (nC : ∀ x c, X.env.cells.lookup x = some c → c ≠ a) : Inv X pins σ (upd H a o) s := by
  have off : ∀ {b : Addr} {u : HO}, H b = some u → b ≠ a := fun e => ne_of_none e na
  have U := I.base
  refine ⟨I.ok, I.os, I.bare, ⟨U.keep, U.slot, ?_, U.there, ?_, ?_, ?_⟩, I.loc, I.cell, ?_, ?_, ?_, HOk.laidN I.hok (fun _ _ q => q) na new, I.len⟩
  · intro b ob q n z
    have nb : b ≠ a := fun y => by
      rw [y, h0] at q
      cases q
    rw [upd_ne nb]
    exact U.free b ob q n z
  · intro b xs q
    have q1 := U.tups b xs q
    rw [upd_ne (off q1)]
    exact q1
  · intro b ob u q
    have q1 := U.frzs b ob u q
    rw [upd_ne (off q1)]
    exact q1
  · intro b ps q
    obtain ⟨more, q1⟩ := U.tbls b ps q
    exact ⟨more, by rw [upd_ne (off q1)]; exact q1⟩
  · rw [upd_ne nL]
    exact I.free
  · intro y c q
    rw [upd_ne (nC y c q)]
    exact I.freeC y c q
  · intro p hp
    obtain ⟨q1, q2, q3⟩ := I.pin p hp
    exact ⟨q1, by rw [upd_ne (pn p hp)]; exact q2, q3⟩
end
/-- the wish: behind the clause what was caught stands at a -/
def wKeep (K : PySem.W.Frag) (N : Nat) (c : Value) (i : Nat) (ts : Addr → Value → Option Addr → TS) (D : Ends) : WX := fun cls d σ H =>
  σ.length = N → PySem.W.exmOne K cls c = some true ∧
    (∀ a, H a = none → ts a cls d { nx := fun σ1 H1 => H1 a = none → D.nx (σ1.set i none) (upd H1 a (exv a cls d)), rt := fun _ _ => False, bk := fun _ _ => False, ct := fun _ _ => False } (σ.set i (some (.ref a))) H)
section
variable {X : Cx} {x n : Str} {c : Value} {i : Nat} {body suite : List Stmt} {b0 : Stmt} {np pos pos1 : Pos} {tb : WX → TS} {ts : Addr → Value → Option Addr → TS}
theorem ps_keep (hx : X.ex = []) (hs : X.stack = X.env :: X.outer) (hf : X.env.frame = some X.env.locals) (nd : X.N.Nodup) (hi : X.N[i]? = some n) (loc : X.env.kindOf n = some .local) (nx : Names X x c)
    (hb : ∀ (W : WX) (pn : List (Addr × Obj)) (xe : Value → Shared → Prop), Takes (X.tr pn xe) W → PassesOwn (model X.prog X.w) X.A X.env xe → PSs (X.tr pn xe) body (tb W))
    (hu : ∀ (a : Addr) (oe : Obj) (cls : Value) (d : Option Addr) (pn : List (Addr × Obj)), Zc cls d oe → (∃ vs, oe.data = .fields vs) → PSs (X.suite a ((a, oe) :: pn)) (b0 :: suite) (ts a cls d)) :
    PS X (.Try body [.ExceptHandler (some (.Name x np)) (some n) (b0 :: suite) pos1] [] [] pos) (fun D σ H => tb (wKeep X.K X.N.length c i ts D) D σ H) := by
  constructor
  intro pins s σ H D I want
  have good := I.ok
  have frames : X.A.frames = some (X.env :: X.outer) := good.frames.trans (by rw [hs])
  apply wpAny_Try_except
  let air : Value → Shared → Prop := fun e t1 => wpAny (model X.prog X.w) X.A (noteFrame e X.env) (fun _ t2 => wpAny (model X.prog X.w) X.A (setFlight e none) (fun _ t3 =>
    wpAny (model X.prog X.w) X.A (handleBy e X.env [.ExceptHandler (some (.Name x np)) (some n) (b0 :: suite) pos1]) (SP X pins D) X.xe t3) X.xe t2) X.xe t1
  have catches : Takes (X.tr (X.pn ++ pins) air) (wKeep X.K X.N.length c i ts D) := by
    rintro _ t ⟨a, B, tI, qs, σ1, H1, cls, d, rfl, J0, nb, up, sky, na, os, ag, both⟩
    obtain ⟨hb1, yes⟩ := both J0.len
    have J : Inv X pins σ1 H1 tI := J0.ofTry good
    rw [show (X.tr (X.pn ++ pins) air).stack = X.env :: X.outer from hs] at sky
    show wpAny (model X.prog X.w) X.A (noteFrame (.ref a) X.env) _ _ _
    apply Sky.land Zc.steady frames hf sky
    intro g1 f1 u1
    have J1 : Inv X pins σ1 H1 { t with heap := g1 } := J.landed nb f1.1 (up.trans u1) os ag
    obtain ⟨oe1, vs1, ea1, z1, d1⟩ := f1.there
    have outside : ∀ {g : Heap} {ob : Obj} {vs : Array Value}, g.FunFrames B (X.env :: X.outer) → g.get? a = some ob → ob.data = .fields vs → a ∉ frs (X.env :: X.outer) := by
      intro g ob vs ff ea dd hm
      obtain ⟨_, ob1, ea2, bad⟩ := ff.mem hm
      rw [ea] at ea2
      cases ea2
      exact bad _ dd
    have out := outside f1.2.2.1 ea1 d1
    have nL : a ≠ X.env.locals := fun y => out (List.mem_filterMap.mpr ⟨X.env, List.mem_cons_self, by rw [hf, y]⟩)
    have nF : a ∉ X.fs := by
      intro hm
      obtain ⟨ev, m1, m2⟩ := List.mem_filterMap.mp hm
      exact out (List.mem_filterMap.mpr ⟨ev, List.mem_cons_of_mem _ m1, m2⟩)
    have nB : B.get? a = none := f1.2.1
    have fresh : X.s_0.heap.get? a = none := by
      match q : X.s_0.heap.get? a with
      | none => rfl
      | some ob =>
        obtain ⟨ob1, q1⟩ := J.base.there a ob q (by rw [hx]; exact fun y => nomatch y)
        have q2 := nb a ob1 q1 (by rw [show (X.tr (X.pn ++ pins) air).stack = X.env :: X.outer from hs]; exact out)
        rw [nB] at q2
        cases q2
    have pinned : ∀ p ∈ X.pn ++ pins, p.1 ≠ a := by
      intro p hp y
      obtain ⟨q1, _⟩ := J.pin p hp
      rw [y] at q1
      have q2 := nb a _ q1 (by rw [show (X.tr (X.pn ++ pins) air).stack = X.env :: X.outer from hs]; exact out)
      rw [nB] at q2
      cases q2
    have S1 := J1.suite ea1 d1 na nL nF
    apply wpAny_handleBy_cons ?_ (by intro q; cases q)
    apply codeAny_handlers_test
    have tyof : PySem.W.Looks (model X.prog X.w) g1 (typeOf (.ref a)) cls := fun _ _ _ _ k q => wpAny_typeOf_ref (k _ _ ea1) (by rw [z1.1]; exact q)
    have meets := PySem.W.exm_one (M := model X.prog X.w) J1.kIn tyof hb1
    have named : ∀ {Q : Value → Shared → Prop} {E : Value → Shared → Prop}, Q c { t with heap := g1 } → wpAny (model X.prog X.w) (X.A.mark (some (.ref a))) (eval (.Name x np) X.env) Q E { t with heap := g1 } := by
      intro Q E q
      obtain ⟨hg, ndbg, hm | ⟨hm, hv, hnn⟩⟩ := nx
      · exact ld_glob (X := X.suite a ((a, oe1) :: (X.pn ++ pins))) S1 hg hm q ndbg
      · exact ld_blt (X := X.suite a ((a, oe1) :: (X.pn ++ pins))) S1 hg hm hv q hnn ndbg
    apply named
    apply meets.here
    apply codeAny_handlers_suite_as
    apply HandSPX.lands_againZ f1
    intro g2 f2 u2
    have J2 : Inv X pins σ1 H1 { t with heap := g2 } := J.landed nb f2.1 ((up.trans u1).trans u2) os ag
    obtain ⟨oe2, vs2, ea2, z2, d2⟩ := f2.there
    have S2 := J2.suite ea2 d2 na nL nF
    refine store_ok (X := X.suite a ((a, oe2) :: (X.pn ++ pins))) (v := .ref a) S2 nd hi (.inl loc) rfl ?_ (.inr loc)
    intro t5 S5
    refine wpAny_mono ((hu a oe2 cls d (X.pn ++ pins) z2 ⟨_, d2⟩).run [] t5 _ H1 _ S5 (yes a na)) ?_ (fun _ _ y => False.elim y)
    intro fl t6 got
    cases fl with
    | next =>
      obtain ⟨σ6, H6, S6, q6⟩ := got
      obtain ⟨ea6, na6, _⟩ := S6.pin (a, oe2) (List.mem_append_left _ List.mem_cons_self)
      have V6 : Inv X pins σ6 H6 t6 := S6.unsuite good
      have cells : ∀ y c1, X.env.cells.lookup y = some c1 → c1 ≠ a := by
        intro y c1 q z
        obtain ⟨v, oc, q1, q2⟩ := V6.cell y c1 q
        rw [z, ea6] at q1
        cases q1
        rw [d2] at q2
        cases q2
      have K6 := follow (o := exv a cls d) V6 na6 (exv_ok ea6 z2.1 z2.2 d2) fresh pinned nL.symm cells
      exact gone_ok K6 nd hi loc fun t7 J7 => ⟨_, _, J7, q6 na6⟩
    | brk =>
      obtain ⟨_, _, _, q6⟩ := got
      exact False.elim q6
    | cont =>
      obtain ⟨_, _, _, q6⟩ := got
      exact False.elim q6
    | ret u =>
      obtain ⟨_, _, _, _, _, q6⟩ := got
      exact False.elim q6
  refine wpAny_mono ((hb (wKeep X.K X.N.length c i ts D) (X.pn ++ pins) air catches PassesOwn.looking).run [] s σ H D (I.toTry _) want) ?_ (fun _ _ q => q)
  intro fl t got
  cases fl with
  | next =>
    obtain ⟨σ1, H1, J1, q⟩ := got
    exact wpAny_execs_nil ⟨σ1, H1, J1.ofTry good, q⟩
  | brk =>
    obtain ⟨σ1, H1, J1, q⟩ := got
    exact ⟨σ1, H1, J1.ofTry good, q⟩
  | cont =>
    obtain ⟨σ1, H1, J1, q⟩ := got
    exact ⟨σ1, H1, J1.ofTry good, q⟩
  | ret u =>
    obtain ⟨v, σ1, H1, J1, r, q⟩ := got
    exact ⟨v, σ1, H1, J1.ofTry good, r, q⟩
end
end Gd
namespace Gd
open PySem PySem.Spec PyProof.Rows L2
/-- at a: what was caught, of the class at D, with its fields -/
def CAt (H : Hp) (a D : Addr) (fs : List (Str × V)) : Prop := ∃ d, H a = some (exv a (.ref D) (some d)) ∧ H d = some (.xd fs)
theorem CAt.same {H H' : Hp} {a D : Addr} {fs : List (Str × V)} (x : CAt H a D fs) (s : Same H H') : CAt H' a D fs := by
  obtain ⟨d, h1, h2⟩ := x
  exact ⟨d, s _ _ h1, s _ _ h2⟩
section
variable {X : Cx} {pins : List (Addr × Obj)} {σ : L2.St} {H : Hp} {s : Shared}
theorem cat_inst (I : Inv X pins σ H s) {a D : Addr} {fs : List (Str × V)} (x : CAt H a D fs) : ∃ (ox : Obj) (od : Obj) (mA : Str → Option Value), PySem.W.InstAt s.heap a ox D (some od) ∧ (∀ f, PySem.W.lookIn f od = some (mA f)) ∧ ∀ f, RelO (fs.lookup f) (mA f) := by
  obtain ⟨d, h1, h2⟩ := x
  obtain ⟨ox, vs, e, z, k, f⟩ := exv_at I.hok h1
  obtain ⟨mA, hn, r⟩ := (show ∃ mA, s.heap.Ns1 d mA ∧ ∀ f, RelO (fs.lookup f) (mA f) from I.hok d _ h2)
  obtain ⟨od, hod, hl⟩ := lookIn_ns hn
  refine ⟨ox, od, mA, ⟨e, z, ?_, ?_⟩, hl, r⟩
  · unfold PySem.W.notCls
    rw [f]
  · rw [k]
    exact hod
def rIsV (K : PySem.W.Frag) : List V → Hp → VK → Prop := fun xs H Q => ∃ (a D : Addr) (fs : List (Str × V)) (c : V) (cv : Value) (b : Bool), xs = [.ref a, c] ∧ CAt H a D fs ∧ ClsV c cv ∧ ExcC K D ∧ PySem.W.kitOne K (.ref D) cv = some b ∧ Q (.bl b) H
theorem call_isV : CallR X (.builtin "isinstance") (rIsV X.K) := by
  intro pins s σ H xs us Q I r h
  obtain ⟨a, D, fs, c, cv, b, rfl, hx, hc, T, e, q⟩ := h
  obtain ⟨u1, u2, rfl, r1, r2⟩ := vals2 r
  cases (show u1 = Value.ref a from r1)
  have e2 := hc.eq r2
  subst e2
  obtain ⟨ox, od, _, J, _⟩ := cat_inst I hx
  exact PySem.W.kia_one (kitx_of T) I.kIn ⟨ox, some od, J⟩ e (fun z => nomatch z) fun tk => ⟨.bl b, H, I.tok tk, rfl, q⟩
/-- e.f, e caught -/
def tVf (K : PySem.W.Frag) (f : Str) (te : TE) : TE := fun σ H Q => te σ H fun x H1 => ∃ (a C : Addr) (fs : List (Str × V)) (v : V), x = .ref a ∧ CAt H1 a C fs ∧ ExcC K C ∧ PySem.W.findIn K (.ref C) f = some none ∧ fs.lookup f = some v ∧ Q v H1
theorem pe_vf {e : Expr} {te : TE} {f : Str} {pos : Pos} (he : PE X e te) (hb : attributeBase e f X.env (eval e X.env) = eval e X.env := by rfl) : PE X (.Attribute e f pos) (tVf X.K f te) := by
  constructor
  intro pins s σ H Q I h
  apply attr_of hb
  refine thn (he.run pins s σ H _ I h) ?_
  intro u s1 ⟨x, H1, I1, rx, a, C, fs, v, ex, hc, T, no, hv, q⟩
  subst ex
  cases (show u = Value.ref a from rx)
  obtain ⟨ox, od, mA, J, hl, hr⟩ := cat_inst I1 hc
  obtain ⟨w, hw, rw'⟩ := RelO.some_of (v := v) (o := mA f) (by rw [← hv]; exact hr f)
  exact PySem.HandSPX.exc_get I1.kIn J T.hg T.hk T.hs (PySem.W.findObj_own T.hd no rfl (by rw [hl, hw])) (handed_of rw') ⟨v, H1, I1.tok _, rw', q⟩
end
end Gd
namespace Kone
open PySem L2 Gd
def top (i : Nat) : Stmt := PySem.Challenge.pw_sumdigits_k04_whole_readings_of_words.main.body.getD i (.Pass ⟨0, 0, 0, 0⟩)
/-! ### a value with copies of its lists and dicts -/
abbrev sKept : Stmt := top 1
/-- all that was tracked but what stands at p stands as before -/
def Keep (p : Addr) (H H' : Hp) : Prop := ∀ b o, b ≠ p → H b = some o → H' b = some o
theorem Keep.refl {p : Addr} {H : Hp} : Keep p H H := fun _ _ _ e => e
theorem Keep.trans {p : Addr} {H H1 H2 : Hp} (a : Keep p H H1) (b : Keep p H1 H2) : Keep p H H2 := fun c o n e => b c o n (a c o n e)
theorem Keep.of {p : Addr} {H H1 : Hp} (a : Same H H1) : Keep p H H1 := fun c o _ e => a c o e
/-- at p the state of the draws -/
def Pen (H : Hp) (p c : Addr) (n : Nat) : Prop := ∃ (cs : List Int) (a g : Int), H p = some (.lst [.ref c, .int a, .int g]) ∧ H c = some (.lst (cs.map V.int)) ∧ c ≠ p ∧ 0 ≤ a ∧ a ≤ (n : Int)
theorem Pen.keep {H H' : Hp} {p c : Addr} {n : Nat} (x : Pen H p c n) (s : Same H H') : Pen H' p c n := by
  obtain ⟨cs, a, g, h1, h2, h3, h4, h5⟩ := x
  exact ⟨cs, a, g, s _ _ h1, s _ _ h2, h3, h4, h5⟩
def spPen (K : PySem.W.Frag) : Sp := fun vs H Q _ => ∃ (a : Addr) (ns : List Int), vs = [.ref a] ∧ SqL K H a (ns.map V.int) ∧ ∀ (H' : Hp) (p c : Addr), Same H H' → Pen H' p c 0 → Q (.ref p) H'
def spDraw : Sp := fun vs H Q _ => ∃ (p c : Addr) (m : Int) (n : Nat), vs = [.ref p, .int m] ∧ Pen H p c n ∧ n ≤ 100000 ∧ 0 < m ∧ m < 1000 ∧ ∀ (H' : Hp) (d : Int), Keep p H H' → Pen H' p c (n + 1) → 0 ≤ d → d < m → Q (.int d) H'
def spPick : Sp := fun vs H Q _ => ∃ (p c l : Addr) (n : Nat) (xs : List V), vs = [.ref p, .ref l] ∧ Pen H p c n ∧ n ≤ 100000 ∧ H l = some (.lst xs) ∧ l ≠ p ∧ 0 < xs.length ∧ xs.length < 1000 ∧
  ∀ (H' : Hp) (x : V), Keep p H H' → Pen H' p c (n + 1) → x ∈ xs → Q x H'
structure TxtD (mg : Str → Option Value) (fD : Addr) : Prop where
  int : mg "int" = none
  len : mg "len" = none
  abs : mg "abs" = none
  list : mg "list" = none

theorem map_cut (ns : List Int) (lo hi : Option Int) : ∃ ms : List Int, cutV (ns.map V.int) lo hi = ms.map V.int := by
  unfold cutV
  exact ⟨_, by rw [← List.map_drop, ← List.map_take]⟩

theorem fmod_range {a m : Int} (h : 0 < m) : 0 ≤ a.fmod m ∧ a.fmod m < m := ⟨Int.fmod_nonneg_of_pos a h, Int.fmod_lt_of_pos a h⟩
theorem Pen.set2 {H : Hp} {p c : Addr} {cs : List Int} {a g : Int} {n : Nat} (h2 : H c = some (.lst (cs.map V.int))) (h3 : c ≠ p) (h4 : 0 ≤ a) (h5 : a ≤ (n : Int)) : Pen (upd H p (.lst [.ref c, .int a, .int g])) p c n :=
  ⟨cs, a, g, upd_same, by rw [upd_ne h3]; exact h2, h3, h4, h5⟩
theorem Pen.mono {H : Hp} {p c : Addr} {n m : Nat} (x : Pen H p c n) (h : n ≤ m) : Pen H p c m := by
  obtain ⟨cs, a, g, h1, h2, h3, h4, h5⟩ := x
  exact ⟨cs, a, g, h1, h2, h3, h4, by omega⟩
theorem keep_upd {H : Hp} {p : Addr} {o : HO} : Keep p H (upd H p o) := fun b u n e => by rw [upd_ne n]; exact e
theorem same_new {H : Hp} {p : Addr} {o : HO} (h : H p = none) : Same H (upd H p o) := fun b u e => by rw [upd_ne (ne_of_none e h)]; exact e
theorem dp_ints {K : PySem.W.Frag} {H : Hp} (cs : List Int) : DpAll K H (cs.map V.int) (cs.map PyData.int) := by
  induction cs with
  | nil => exact .nil
  | cons c cs ih => exact .cons (.int c) ih
theorem at_nat {xs : List V} {i : Int} (h0 : 0 ≤ i) (h1 : i < (xs.length : Int)) : ∃ v, atI xs i = some v ∧ v ∈ xs := by
  have hl : i.toNat < xs.length := by omega
  refine ⟨xs[i.toNat], ?_, List.getElem_mem hl⟩
  unfold atI ixN
  rw [if_pos h0, if_pos h1]
  simp [hl]
theorem nzA : (2147483587 : Int) ≠ 0 := by decide
theorem nzB : (2147483563 : Int) ≠ 0 := by decide

/-- the class x at C, right below SumError at S -/
structure XC (K : PySem.W.Frag) (mg : Str → Option Value) (S : Addr) (x : Str) (C : Addr) : Prop where
  g : mg x = some (.ref C)
  o : OexC K C
  e : ExcC K C
  m : ∃ cd, PySem.W.clsIn K C = some cd ∧ cd.mro = .ref C :: .ref S :: PySem.HandSPX.veTail
theorem kit_own {K : PySem.W.Frag} {mg : Str → Option Value} {S : Addr} {x y : Str} {C D : Addr} (T : XC K mg S x D) (U : XC K mg S y C) (h : C ≠ S) : PySem.W.kitOne K (.ref D) (.ref C) = some (decide (D = C)) := by
  by_cases e : D = C
  · subst e
    unfold PySem.W.kitOne
    rw [if_pos (by simp)]
    simp
  · have ne : (Value.ref D == Value.ref C) = false := beq_eq_false_iff_ne.mpr fun z => e (Value.ref.inj z)
    obtain ⟨cd, h1, h2⟩ := T.m
    obtain ⟨ce, h3, _⟩ := U.m
    unfold PySem.W.kitOne PySem.W.kitCls PySem.W.subIn PySem.W.mroIn
    rw [ne, if_neg Bool.false_ne_true]
    dsimp only
    rw [h1, h3, U.o.tyC]
    have h4 : cd.mro.contains (.ref C) = false := by
      rw [h2]
      simp only [List.contains_cons, PySem.HandSPX.veTail]
      have n1 : (Value.ref C == Value.ref D) = false := beq_eq_false_iff_ne.mpr fun z => e (Value.ref.inj z).symm
      have n2 : (Value.ref C == Value.ref S) = false := beq_eq_false_iff_ne.mpr fun z => h (Value.ref.inj z)
      rw [n1, n2]
      rfl
    have h5 : cd.mro.isEmpty = false := by rw [h2]; rfl
    simp only [Option.isSome_some, beq_self_eq_true, Bool.and_self, if_true, Option.bind_some, h5, Bool.false_eq_true, if_false, h4, decide_eq_false e]
theorem kit_type {K : PySem.W.Frag} {mg : Str → Option Value} {S : Addr} {x : Str} {D : Addr} (T : XC K mg S x D) (n : String) (hm : PySem.W.kitMeta n = true) : PySem.W.kitOne K (.ref D) (.type n) = some (PySem.HandSPX.veTail.contains (.type n)) := by
  obtain ⟨cd, h1, h2⟩ := T.m
  unfold PySem.W.kitOne PySem.W.kitCls PySem.W.subIn PySem.W.mroIn
  rw [if_neg (by intro z; exact nomatch (beq_iff_eq.mp z))]
  dsimp only
  rw [if_pos hm, h1]
  have h5 : cd.mro.isEmpty = false := by rw [h2]; rfl
  simp only [Option.bind_some, h5, Bool.false_eq_true, if_false]
  rw [h2]
  simp only [List.contains_cons]
  rfl
theorem kit_sum {K : PySem.W.Frag} {mg : Str → Option Value} {S : Addr} {x : Str} {D : Addr} (T : XC K mg S x D) {cs : ClassData} (h : PySem.W.clsIn K S = some cs) (t : PySem.W.typeIn K (.ref S) = some (.type "type")) : PySem.W.kitOne K (.ref D) (.ref S) = some true := by
  obtain ⟨cd, h1, h2⟩ := T.m
  by_cases e : D = S
  · subst e
    unfold PySem.W.kitOne
    rw [if_pos (by simp)]
  · have ne : (Value.ref D == Value.ref S) = false := beq_eq_false_iff_ne.mpr fun z => e (Value.ref.inj z)
    unfold PySem.W.kitOne PySem.W.kitCls PySem.W.subIn PySem.W.mroIn
    rw [ne, if_neg Bool.false_ne_true]
    dsimp only
    rw [h1, h, t]
    have h5 : cd.mro.isEmpty = false := by rw [h2]; rfl
    have h4 : cd.mro.contains (.ref S) = true := by rw [h2]; simp
    simp only [Option.isSome_some, beq_self_eq_true, Bool.and_self, if_true, Option.bind_some, h5, Bool.false_eq_true, if_false, h4]

/-- where the helpers stand -/
structure Def (K : PySem.W.Frag) (mg : Str → Option Value) (x : Str) (st : Stmt) (ps : List Str) (f : Addr) (fd : FuncData) : Prop where
  g : mg x = some (.ref f)
  k : PySem.W.keepIn K (.ref f) = true
  b : Binds K fd ps []
  F : Fun K x x st f fd

def hide (p : Addr) (H : Hp) : Hp := fun b => if b = p then none else H b
theorem hide_same {p : Addr} {H : Hp} : Same (hide p H) H := fun b o e => by
  unfold hide at e
  split at e
  · cases e
  · exact e
theorem hide_at {p : Addr} {H : Hp} {b : Addr} {o : HO} (n : b ≠ p) (e : H b = some o) : hide p H b = some o := by
  unfold hide
  rw [if_neg n]
  exact e
theorem hide_keep {p : Addr} {H H' : Hp} (k : Keep p H H') : Same (hide p H) (hide p H') := fun b o e => by
  unfold hide at e
  split at e
  · cases e
  · rename_i n
    exact hide_at n (k b o n e)
theorem hide_mono {p : Addr} {H H' : Hp} (s : Same H H') : Same (hide p H) (hide p H') := hide_keep (Keep.of s)

/-- what stands in H' and not in H -/
def newIn (H H' : Hp) : Hp := fun b => match H b with
  | none => H' b
  | some _ => none
theorem newIn_at {H H' : Hp} {b : Addr} {o : HO} (n : H b = none) (e : H' b = some o) : newIn H H' b = some o := by
  unfold newIn
  rw [n]
  exact e
theorem newIn_of {H H' : Hp} {b : Addr} {o : HO} (e : newIn H H' b = some o) : H b = none ∧ H' b = some o := by
  unfold newIn at e
  cases q : H b with
  | none => rw [q] at e; exact ⟨rfl, e⟩
  | some u => rw [q] at e; cases e
theorem newIn_keep {p : Addr} {H H1 H2 : Hp} {o : HO} (hp : H p = some o) (k : Keep p H1 H2) : Same (newIn H H1) (newIn H H2) := fun b u e => by
  obtain ⟨n, e1⟩ := newIn_of e
  exact newIn_at n (k b u (ne_of_none hp n).symm e1)

/-- of H', what stood in G or was not yet in H -/
def old (G H H' : Hp) : Hp := fun a => if (G a).isSome = true ∨ H a = none then H' a else none
theorem old_at {G H H' : Hp} {a : Addr} {o : HO} (c : (∃ u, G a = some u) ∨ H a = none) (e : H' a = some o) : old G H H' a = some o := by
  unfold old
  rw [if_pos (by
    rcases c with ⟨u, c⟩ | c
    · exact .inl (by rw [c]; rfl)
    · exact .inr c)]
  exact e
theorem old_of {G H H' : Hp} {a : Addr} {o : HO} (e : old G H H' a = some o) : ((∃ u, G a = some u) ∨ H a = none) ∧ H' a = some o := by
  unfold old at e
  split at e
  · rename_i c
    refine ⟨?_, e⟩
    rcases c with c | c
    · exact .inl (Option.isSome_iff_exists.mp c)
    · exact .inr c
  · cases e
theorem old_mono {G H H' H'' : Hp} (s : Same H' H'') : Same (old G H H') (old G H H'') := fun a o e => by
  obtain ⟨c, e⟩ := old_of e
  exact old_at c (s _ _ e)
theorem old_self {G H : Hp} (s : Same G H) : Same G (old G H H) := fun a o e => old_at (.inl ⟨o, e⟩) (s _ _ e)
/-- what depth n of data asks, and what comes back -/
def spK : Nat → Sp
  | 0 => fun _ _ _ _ => False
  | n + 1 => fun vs H Q _ => ∃ (b : Bool) (v : V) (d : PyData) (G : Hp), vs = [v] ∧ Same G H ∧ Dq G n b v d ∧ ∀ (H' : Hp) (v' : V), Same H H' → Dq (old G H H') n b v' d → Q v' H'
structure TxtK (mg : Str → Option Value) : Prop where
  isi : mg "isinstance" = none
  tuple : mg "tuple" = none
  list : mg "list" = none
  dict : mg "dict" = none
  any : mg "any" = none
theorem scKept : FnScope ["value", "part", "key"] ["value"] (defScope sKept) := ⟨rfl, rfl, rfl, by decide +kernel, rfl, by decide +kernel, by decide +kernel⟩
theorem sc_ty {K : PySem.W.Frag} {H : Hp} : ∀ {v : V} {d : PyData}, Sc v d → ∃ t : String, TyX K H v (.type t) ∧ kitB t "tuple" = some false ∧ kitB t "list" = some false ∧ kitB t "dict" = some false
  | .non, .none, _ => ⟨_, .base .non, by decide +kernel, by decide +kernel, by decide +kernel⟩
  | .bl b, .bool _, _ => ⟨_, .base (.bl b), by decide +kernel, by decide +kernel, by decide +kernel⟩
  | .int i, .int _, _ => ⟨_, .base (.int i), by decide +kernel, by decide +kernel, by decide +kernel⟩
  | .str x, .str _, _ => ⟨_, .base (.str x), by decide +kernel, by decide +kernel, by decide +kernel⟩
theorem kit3 {K : PySem.W.Frag} {t : String} {b1 b2 b3 : Bool} (h1 : kitB t "tuple" = some b1) (h2 : kitB t "list" = some b2) (h3 : kitB t "dict" = some b3) : ∃ r, PySem.W.kitAny K (.type t) [.type "tuple", .type "list", .type "dict"] = some r := by
  cases b1 with
  | true => exact ⟨true, kitAny_cons (kit_ty h1) (fun z => nomatch z) (fun _ => rfl)⟩
  | false =>
    cases b2 with
    | true => exact ⟨true, kitAny_cons (kit_ty h1) (fun _ => kitAny_cons (kit_ty h2) (fun z => nomatch z) (fun _ => rfl)) (fun z => nomatch z)⟩
    | false => exact ⟨b3, kitAny_cons (kit_ty h1) (fun _ => kitAny_cons (kit_ty h2) (fun _ => kitAny_cons (kit_ty h3) (fun z => by rw [z]; exact kitAny_nil) (fun z => z)) (fun z => nomatch z)) (fun z => nomatch z)⟩
theorem dq_any {K : PySem.W.Frag} {G H : Hp} (s : Same G H) : ∀ {n : Nat} {b : Bool} {v : V} {d : PyData}, Dq G n b v d → ∃ t r, TyX K H v t ∧ PySem.W.kitAny K t [.type "tuple", .type "list", .type "dict"] = some r := by
  intro n b v d h
  have sc : ∀ {v : V} {d : PyData}, Sc v d → ∃ t r, TyX K H v t ∧ PySem.W.kitAny K t [.type "tuple", .type "list", .type "dict"] = some r := fun h => by
    obtain ⟨t, h0, h1, h2, h3⟩ := sc_ty (K := K) (H := H) h
    obtain ⟨r, e⟩ := kit3 (K := K) h1 h2 h3
    exact ⟨_, r, h0, e⟩
  match n, h with
  | 0, h => exact sc h
  | n + 1, h =>
    rcases h with h | ⟨_, a, xs, ds, rfl, _, ha, _⟩ | ⟨a, xs, ds, rfl, _, ha, _⟩ | ⟨_, a, kvs, kds, rfl, _, ha, _⟩
    · exact sc h
    · obtain ⟨r, e⟩ := kit3 (K := K) (t := "list") (b1 := false) (b2 := true) (b3 := false) (by decide +kernel) (by decide +kernel) (by decide +kernel)
      exact ⟨_, r, .base (.lst (s _ _ ha)), e⟩
    · obtain ⟨r, e⟩ := kit3 (K := K) (t := "tuple") (b1 := true) (b2 := false) (b3 := false) (by decide +kernel) (by decide +kernel) (by decide +kernel)
      exact ⟨_, r, .base (.tup (s _ _ ha)), e⟩
    · obtain ⟨r, e⟩ := kit3 (K := K) (t := "dict") (b1 := false) (b2 := false) (b3 := true) (by decide +kernel) (by decide +kernel) (by decide +kernel)
      exact ⟨_, r, .base (.dK (s _ _ ha)), e⟩
/-- a dict by a comprehension over the items of a locked dict -/
theorem dc_its {dd : Addr} {ob : Obj} {es : List (Key × V)} {g : TG} {tt : TT} {tk tv : TE} {ws : List Nat} {σ : L2.St} {H1 : Hp} {D : Addr} {Z : Hp → Prop} (Pv : Nat → Hp → Prop) (h0 : Pv 0 (upd H1 D (.dK [])))
    (hl : ∀ i G, Pv i G → G dd = some (.frz ob (.dK es)))
    (hs : ∀ i k v T G, es[i]? = some (k, v) → Pv i G → G T = none → g (.ref T) (wipe σ ws) (upd G T (.tup [kV k, v]))
      fun σ2 G2 => wipe σ2 ws = wipe σ ws ∧ tt σ2 G2
        fun b G3 => if b = true then tk σ2 G3 (fun y G4 => tv σ2 G4 (fun z G5 => ∃ ks kk, y = kV kk ∧ G5 D = some (.dK ks) ∧ ks.length < sizeLine ∧ Pv (i + 1) (upd G5 D (.dK (putK ks kk z))))) else Pv (i + 1) G3)
    (hd : ∀ G, Pv es.length G → Z G) :
    ∃ W : Nat → Nat → Hp → Prop, (∃ m, W 0 m (upd H1 D (.dK []))) ∧ ∀ i m G, W i m G →
      ((Iti dd ob es).stop i G ∧ Z G) ∨ ((Iti dd ob es).go i G ∧ ∃ Nx : Hp → Prop, (∀ G', Nx G' → ∃ m', m' < m ∧ W (i + 1) m' G') ∧ ∀ x G', (Iti dd ob es).yld i G x G' → g x (wipe σ ws) G'
        fun σ2 G2 => wipe σ2 ws = wipe σ ws ∧ tt σ2 G2
          fun b G3 => if b = true then tk σ2 G3 (fun y G4 => tv σ2 G4 (fun z G5 => ∃ ks kk, y = kV kk ∧ G5 D = some (.dK ks) ∧ ks.length < sizeLine ∧ Nx (upd G5 D (.dK (putK ks kk z))))) else Nx G3) := by
  refine ⟨fun i m G => m + i = es.length ∧ Pv i G, ⟨es.length, rfl, h0⟩, fun i m G hw => ?_⟩
  obtain ⟨hm, p⟩ := hw
  have q := hl i G p
  cases m with
  | zero =>
    have e : i = es.length := by omega
    subst e
    exact .inl ⟨⟨q, Nat.le_refl _⟩, hd G p⟩
  | succ m =>
    refine .inr ⟨⟨q, by omega⟩, Pv (i + 1), fun G' p' => ⟨m, by omega, by omega, p'⟩, fun x G' y => ?_⟩
    obtain ⟨T, k, v, hk, ex, hT, eG⟩ := y
    subst ex eG
    exact hs i k v T G hk p hT
theorem pr_take {α β : Type} {R : α → β → Prop} {ys : List α} {ds : List β} {i : Nat} {y : α} {d : β} (p : Paired R ys (ds.take i)) (hd : ds[i]? = some d) (r : R y d) : Paired R (ys ++ [y]) (ds.take (i + 1)) := by
  have e : ds.take (i + 1) = ds.take i ++ [d] := by
    rw [List.take_succ, hd]
    rfl
  rw [e]
  have app : ∀ {xs us : List α} {ys vs : List β}, Paired R xs ys → Paired R us vs → Paired R (xs ++ us) (ys ++ vs) := by
    intro xs us ys vs h1 h2
    induction h1 with
    | nil => exact h2
    | cons a _ ih => exact .cons a ih
  exact app p (.cons r .nil)
theorem pr_get {α β : Type} {R : α → β → Prop} : ∀ {xs : List α} {ys : List β} {i : Nat} {x : α}, Paired R xs ys → xs[i]? = some x → ∃ y, ys[i]? = some y ∧ R x y
  | _, _, _, _, .nil, e => by simp at e
  | _, _, 0, _, .cons r _, e => by simp at e; subst e; exact ⟨_, rfl, r⟩
  | _, _, i + 1, x, .cons _ t, e => by
    obtain ⟨y, h1, h2⟩ := pr_get (i := i) (x := x) t (by simpa using e)
    exact ⟨y, by simpa using h1, h2⟩
theorem pr_len {α β : Type} {R : α → β → Prop} : ∀ {xs : List α} {ys : List β}, Paired R xs ys → xs.length = ys.length
  | _, _, .nil => rfl
  | _, _, .cons _ t => congrArg Nat.succ (pr_len t)
theorem line100 {n : Nat} (h : n ≤ 101) : n ≤ sizeLine := Nat.le_trans h (by decide)
theorem line100' {n : Nat} (h : n ≤ 101) : n < sizeLine := Nat.lt_of_le_of_lt h (by decide)
/-- what stands in the list at D while parts are copied -/
def Cop (G H : Hp) (m : Nat) (b : Bool) (D : Addr) (ds : List PyData) (i : Nat) (H' : Hp) : Prop :=
  Same H H' ∧ ∃ ys : List V, H' D = some (.lst ys) ∧ Paired (Dq (hide D (old G H H')) m b) ys (ds.take i)
theorem Cop.nil {G H : Hp} {m : Nat} {b : Bool} {D : Addr} {ds : List PyData} (h : H D = none) : Cop G H m b D ds 0 (upd H D (.lst [])) := ⟨same_new h, [], upd_same, .nil⟩
theorem Cop.put {G H H' H2 : Hp} {m : Nat} {b : Bool} {D : Addr} {ds : List PyData} {i : Nat} {v' : V} {d : PyData} (hD : H D = none) (sG : Same G H) (c : Cop G H m b D ds i H') (hd : ds[i]? = some d) (s2 : Same H' H2) (q : Dq (old G H' H2) m b v' d) :
    ∃ ys : List V, H2 D = some (.lst ys) ∧ ys.length ≤ ds.length ∧ Cop G H m b D ds (i + 1) (upd H2 D (.lst (ys ++ [v']))) := by
  obtain ⟨s1, ys, h1, h2⟩ := c
  have hGD : G D = none := sG.free hD
  refine ⟨ys, s2 _ _ h1, ?_, fun a o e => ?_, ys ++ [v'], upd_same, ?_⟩
  · rw [pr_len h2]
    exact List.length_take_le' _ _
  · rw [upd_ne (ne_of_none e hD)]
    exact s2 _ _ (s1 _ _ e)
  · refine pr_take (L2.Paired.mapP h2 fun _ _ z => Dq.same (fun a o e => ?_) z) hd (Dq.same (fun a o e => ?_) q)
    · have n : a ≠ D := fun z => by rw [z] at e; unfold hide at e; rw [if_pos rfl] at e; cases e
      obtain ⟨c, e1⟩ := old_of (hide_same _ _ e)
      exact hide_at n (old_at c (by rw [upd_ne n]; exact s2 _ _ e1))
    · obtain ⟨c, e1⟩ := old_of e
      have n : a ≠ D := fun z => by
        subst z
        rcases c with ⟨u, c⟩ | c
        · rw [hGD] at c; cases c
        · rw [h1] at c; cases c
      refine hide_at n (old_at ?_ (by rw [upd_ne n]; exact e1))
      rcases c with c | c
      · exact .inl c
      · exact .inr (s1.free c)

section
variable {P : Program} {w : World} {K : PySem.W.Frag} {mg : Str → Option Value} {base : Heap}
theorem okY {σ : L2.St} {H : Hp} {X Y : Hp → Prop} (h : X H) : tYes σ H (fun b H3 => if b = true then X H3 else Y H3) := by
  show (if true = true then X H else Y H)
  rw [if_pos rfl]
  exact h
theorem take_succ1 {α : Type} {xs : List α} {i : Nat} {x : α} (h : xs[i]? = some x) : xs.take (i + 1) = xs.take i ++ [x] := by
  rw [List.take_succ, h]
  rfl
theorem dq_alt {G : Hp} {n : Nat} {b : Bool} {v : V} {d : PyData} (h : Dq G n b v d) : Sc v d ∨
    (∃ (m : Nat) (a : Addr) (xs : List V) (ds : List PyData), n = m + 1 ∧ b = false ∧ v = .ref a ∧ d = .list ds ∧ G a = some (.lst xs) ∧ Paired (Dq G m b) xs ds ∧ xs.length ≤ 100) ∨
    (∃ (m : Nat) (a : Addr) (xs : List V) (ds : List PyData), n = m + 1 ∧ v = .ref a ∧ d = .tuple ds ∧ G a = some (.tup xs) ∧ Paired (Dq G m b) xs ds ∧ xs.length ≤ 100) ∨
    (∃ (m : Nat) (a : Addr) (kvs : List (Key × V)) (kds : List (PyData × PyData)), n = m + 1 ∧ b = false ∧ v = .ref a ∧ d = .dict kds ∧ G a = some (.dK kvs) ∧ Paired (fun (p : Key × V) (q : PyData × PyData) => Sc (kV p.1) q.1 ∧ Dq G m true p.2 q.2) kvs kds ∧ kvs.length ≤ 100 ∧ (kvs.map (·.1)).Nodup) := by
  match n, h with
  | 0, h => exact .inl h
  | m + 1, h =>
    rcases h with h | ⟨e, a, xs, ds, r⟩ | ⟨a, xs, ds, r⟩ | ⟨e, a, kvs, kds, r⟩
    · exact .inl h
    · exact .inr (.inl ⟨m, a, xs, ds, rfl, e, r⟩)
    · exact .inr (.inr (.inl ⟨m, a, xs, ds, rfl, r⟩))
    · exact .inr (.inr (.inr ⟨m, a, kvs, kds, rfl, e, r⟩))
theorem ok_kept {f : Addr} {fd : FuncData} (T : TxtK mg) (U : Def K mg "kept" sKept ["value"] f fd) : ∀ n, FnOk P w K mg base CX0 n f fd ["value"] (spK n)
  | 0 => ⟨fun _ _ _ _ h => h.elim, fun _ _ _ _ _ _ _ _ _ _ _ _ _ h => h.elim⟩
  | n + 1 => by
    have GK : FnOk P w K mg base CX0 n f fd ["value"] (spK n) := ok_kept T U n
    refine U.F.ok scKept (fun vs H Q E h => ?_) (fun cdv A outer s H vs Q E hr h => ?_)
    · obtain ⟨b, v, d, G, rfl, _⟩ := h
      rfl
    · obtain ⟨b, v, d, G, rfl, sG, hq, k⟩ := h
      refine ⟨_, pss_cons (ps_if (pt_val (pe_callB call_isi (by rfl) T.isi (by decide +kernel) (pa_cons (pv 0) (pa_cons (pe_bltn (v := .ty "tuple") rfl T.tuple rfl rfl) pa_nil))))
          (pss_cons (ps_if (pt_not (pt_val (pe_callB (cr_any rfl) (by rfl) T.any (by decide +kernel) (pa_cons
              (pe_lc (own := [("part", 1)]) (g := gName 1) (tt := tYes) (te := tCB (rIsiT K) (tCons (tVar 1) (tCons (tTup (tCons (tC (.ty "tuple")) (tCons (tC (.ty "list")) (tCons (tC (.ty "dict")) tNil)))) tNil))) rfl scKept.nd (pi_tup (pv 0)) (blkOk_by (N := ["value", "part", "key"]) (sc := defScope sKept) (by decide +kernel))
                (fun _ _ _ _ _ => pg_name (i := 1) scKept.nd rfl (Or.inl rfl)) (fun _ _ _ _ _ => pts_nil)
                (fun _ _ _ _ _ => pe_callB call_isiT (by rfl) T.isi (by decide +kernel) (pa_cons (pv 1) (pa_cons (pe_tup (pa_cons (pe_bltn (v := .ty "tuple") rfl T.tuple rfl rfl) (pa_cons (pe_bltn (v := .ty "list") rfl T.list rfl rfl) (pa_cons (pe_bltn (v := .ty "dict") rfl T.dict rfl rfl) pa_nil)))) pa_nil)))) pa_nil))))
              (pss_one (ps_ret (pv 0))) pss_nil)
            (pss_one (ps_ret (pe_callTy call_tuple_of (by rfl) T.tuple (by decide +kernel) (pa_cons
              (pe_lc (own := [("part", 1)]) (g := gName 1) (tt := tYes) (te := tCall (spK n) [] E0 (tCons (tVar 1) tNil)) rfl scKept.nd (pi_tup (pv 0)) (blkOk_by (N := ["value", "part", "key"]) (sc := defScope sKept) (by decide +kernel))
                (fun _ _ _ _ _ => pg_name (i := 1) scKept.nd rfl (Or.inl rfl)) (fun _ _ _ _ _ => pts_nil)
                (fun _ _ _ _ _ => pe_call GK hr rfl U.g U.k U.b .nil pass0 (pa_cons (pv 1) pa_nil))) pa_nil)))))
          pss_nil)
        (pss_cons (ps_if (pt_val (pe_callB call_isi (by rfl) T.isi (by decide +kernel) (pa_cons (pv 0) (pa_cons (pe_bltn (v := .ty "list") rfl T.list rfl rfl) pa_nil))))
          (pss_one (ps_ret (pe_lc (own := [("part", 1)]) (g := gName 1) (tt := tYes) (te := tCall (spK n) [] E0 (tCons (tVar 1) tNil)) rfl scKept.nd (pi_list (pv 0)) (blkOk_by (N := ["value", "part", "key"]) (sc := defScope sKept) (by decide +kernel))
                (fun _ _ _ _ _ => pg_name (i := 1) scKept.nd rfl (Or.inl rfl)) (fun _ _ _ _ _ => pts_nil)
                (fun _ _ _ _ _ => pe_call GK hr rfl U.g U.k U.b .nil pass0 (pa_cons (pv 1) pa_nil)))))
          pss_nil)
        (pss_cons (ps_if (pt_val (pe_callB call_isi (by rfl) T.isi (by decide +kernel) (pa_cons (pv 0) (pa_cons (pe_bltn (v := .ty "dict") rfl T.dict rfl rfl) pa_nil))))
          (pss_one (ps_ret (pe_lock (pe_dc (own := [("key", 2), ("part", 1)]) (g := gTup K 2 (gCons (gName 2) (gCons (gName 1) gNil))) (tt := tYes) (tk := tVar 2) (tv := tCall (spK n) [] E0 (tCons (tVar 1) tNil)) rfl scKept.nd (pi_items (pv 0)) (blkOk_by (N := ["value", "part", "key"]) (sc := defScope sKept) (by decide +kernel))
                (fun _ _ _ _ _ => pg_tup rfl (pgs_cons (pg_name (i := 2) scKept.nd rfl (Or.inl rfl)) (pgs_cons (pg_name (i := 1) scKept.nd rfl (Or.inl rfl)) pgs_nil))) (fun _ _ _ _ _ => pts_nil)
                (fun _ _ _ _ _ => pv 2) (fun _ _ _ _ _ => pe_call GK hr rfl U.g U.k U.b .nil pass0 (pa_cons (pv 1) pa_nil)) (fun _ => rfl)))))
          pss_nil)
        (pss_one (ps_ret (pv 0))))), ?_⟩
      rcases dq_alt hq with hs | ⟨m, a, xs, ds, rfl, rfl, rfl, rfl, ha, hp, hl⟩ | ⟨m, a, xs, ds, rfl, rfl, rfl, ha, hp, hl⟩ | ⟨m, a, kvs, kds, rfl, rfl, rfl, rfl, ha, hp, hl, nd⟩
      · obtain ⟨t, ty, h1, h2, h3⟩ := sc_ty (K := K) (H := H) hs
        have fin : Q v H := k H v (Same.refl H) (Dq.sc hs)
        refine ⟨_, rfl, v, .ty "tuple", .type t, .type "tuple", false, rfl, .ty "tuple", ty, kit_ty h1, _, rfl, iteF ?_⟩
        refine ⟨_, rfl, v, .ty "list", .type t, .type "list", false, rfl, .ty "list", ty, kit_ty h2, _, rfl, iteF ?_⟩
        refine ⟨_, rfl, v, .ty "dict", .type t, .type "dict", false, rfl, .ty "dict", ty, kit_ty h3, _, rfl, iteF ?_⟩
        exact ⟨_, rfl, fin⟩
      · have hH := sG _ _ ha
        have lds : ds.length ≤ 100 := by rw [← pr_len hp]; exact hl
        refine ⟨_, rfl, .ref a, .ty "tuple", .type "list", .type "tuple", false, rfl, .ty "tuple", .base (.lst hH), kit_ty (by decide +kernel), _, rfl, iteF ?_⟩
        refine ⟨_, rfl, .ref a, .ty "list", .type "list", .type "list", true, rfl, .ty "list", .base (.lst hH), kit_ty (by decide +kernel), _, rfl, iteT ?_⟩
        refine ⟨_, rfl, a, rfl, ⟨_, SqL.of hH⟩, fun D hD => lc_list (K := K) (a := a) (xs := xs) (Cop G H m false D ds) (Cop.nil hD) (fun i H' _ c => SqL.of (c.1 _ _ hH)) ?_ ?_⟩
        · intro i x H' hx c
          obtain ⟨dx, hdx, qx⟩ := pr_get hp hx
          refine ⟨rfl, okY ⟨_, rfl, false, x, dx, G, rfl, fun a o e => c.1 _ _ (sG _ _ e), qx, fun H2 v' s2 q2 => ?_⟩⟩
          obtain ⟨ys, e1, e2, c2⟩ := c.put hD sG hdx s2 q2
          exact ⟨ys, e1, line100' (by omega), c2⟩
        · rintro H' ⟨s1, ys, h1, h2⟩
          rw [List.take_of_length_le (by rw [pr_len hp]; exact Nat.le_refl _)] at h2
          refine k H' (.ref D) s1 (.inr (.inl ⟨rfl, D, ys, ds, rfl, rfl, old_at (.inr hD) h1, L2.Paired.mapP h2 fun _ _ z => Dq.same hide_same z, by rw [pr_len h2]; exact lds⟩))
      · have hH := sG _ _ ha
        have lds : ds.length ≤ 100 := by rw [← pr_len hp]; exact hl
        refine ⟨_, rfl, .ref a, .ty "tuple", .type "tuple", .type "tuple", true, rfl, .ty "tuple", .base (.tup hH), kit_ty (by decide +kernel), _, rfl, iteT ?_⟩
        refine ⟨_, rfl, a, rfl, ⟨_, SqT.of hH⟩, fun D hD => lc_tup (K := K) (a := a) (xs := xs) (fun i H' => Same H H' ∧ ∃ bs : List Bool, bs.length = i ∧ H' D = some (.lst (bs.map V.bl))) ⟨same_new hD, [], rfl, upd_same⟩ (fun i H' _ c => SqT.of (c.1 _ _ hH)) ?_ ?_⟩
        · rintro i x H' hx ⟨s1, bs, hb, hD'⟩
          obtain ⟨dx, hdx, qx⟩ := pr_get hp hx
          have ix : i < xs.length := (List.getElem?_eq_some_iff.mp hx).1
          refine ⟨rfl, okY ⟨_, rfl, ⟨by show 3 ≤ sizeLine; decide, fun tp htp => ?_⟩⟩⟩
          have s2 := same_new (o := .tup [.ty "tuple", .ty "list", .ty "dict"]) htp
          obtain ⟨t, r, ty, er⟩ := dq_any (K := K) (G := G) (H := upd H' tp (.tup [.ty "tuple", .ty "list", .ty "dict"])) (fun a o e => s2 _ _ (s1 _ _ (sG _ _ e))) qx
          refine ⟨x, tp, [.ty "tuple", .ty "list", .ty "dict"], t, [.type "tuple", .type "list", .type "dict"], r, rfl, upd_same, .cons (.ty _) (.cons (.ty _) (.cons (.ty _) .nil)), ty, er, ?_⟩
          refine ⟨bs.map V.bl, s2 _ _ hD', line100' (by rw [List.length_map]; omega), fun b o e => ?_, bs ++ [r], by simp [hb], ?_⟩
          · rw [upd_ne (ne_of_none e hD)]
            exact s2 _ _ (s1 _ _ e)
          · rw [upd_same, List.map_append]
            rfl
        · rintro H1 ⟨s1, bs, _, hD'⟩
          refine ⟨D, bs, rfl, SqL.of hD', _, rfl, ?_⟩
          by_cases hany : bs.any id = true
          · rw [hany]
            refine iteF ?_
            have hH1 := s1 _ _ hH
            have sG1 : Same G H1 := fun a o e => s1 _ _ (sG _ _ e)
            refine ⟨_, rfl, a, rfl, ⟨_, SqT.of hH1⟩, fun D2 hD2 => lc_tup (K := K) (a := a) (xs := xs) (Cop G H1 m b D2 ds) (Cop.nil hD2) (fun i H' _ c => SqT.of (c.1 _ _ hH1)) ?_ ?_⟩
            · intro i x H' hx c
              obtain ⟨dx, hdx, qx⟩ := pr_get hp hx
              refine ⟨rfl, okY ⟨_, rfl, b, x, dx, G, rfl, fun a o e => c.1 _ _ (sG1 _ _ e), qx, fun H2 v' s2 q2 => ?_⟩⟩
              obtain ⟨ys, e1, e2, c2⟩ := c.put hD2 sG1 hdx s2 q2
              exact ⟨ys, e1, line100' (by omega), c2⟩
            · rintro H' ⟨s2, ys, h1, h2⟩
              rw [List.take_of_length_le (by rw [pr_len hp]; exact Nat.le_refl _)] at h2
              refine ⟨D2, ys, rfl, .inl ⟨SqL.of h1, fun l hl2 => ?_⟩⟩
              have s3 := same_new (o := .tup ys) hl2
              have s02 : Same H H' := fun a o e => s2 _ _ (s1 _ _ e)
              refine k _ (.ref l) (fun a o e => s3 _ _ (s02 _ _ e)) (.inr (.inr (.inl ⟨l, ys, ds, rfl, rfl, old_at (.inr (s02.free hl2)) upd_same, L2.Paired.mapP h2 fun _ _ z => Dq.same (fun a o e => ?_) z, by rw [pr_len h2]; exact lds⟩)))
              obtain ⟨c, e1⟩ := old_of (hide_same _ _ e)
              refine old_at ?_ (s3 _ _ e1)
              rcases c with c | c
              · exact .inl c
              · exact .inr (s1.free c)
          · have hf : bs.any id = false := by
              cases q : bs.any id
              · rfl
              · exact absurd q hany
            rw [hf]
            exact iteT ⟨_, rfl, k H1 (.ref a) s1 (Dq.same (fun a o e => old_at (.inl ⟨o, e⟩) (s1 _ _ (sG _ _ e))) hq)⟩
      · have hH := sG _ _ ha
        refine ⟨_, rfl, .ref a, .ty "tuple", .type "dict", .type "tuple", false, rfl, .ty "tuple", .base (.dK hH), kit_ty (by decide +kernel), _, rfl, iteF ?_⟩
        refine ⟨_, rfl, .ref a, .ty "list", .type "dict", .type "list", false, rfl, .ty "list", .base (.dK hH), kit_ty (by decide +kernel), _, rfl, iteF ?_⟩
        refine ⟨_, rfl, .ref a, .ty "dict", .type "dict", .type "dict", true, rfl, .ty "dict", .base (.dK hH), kit_ty (by decide +kernel), _, rfl, iteT ?_⟩
        refine ⟨a, .dK kvs, hH, True.intro, fun od => ?_⟩
        generalize hHl : upd H a (.frz od (.dK kvs)) = Hl
        have la : Hl a = some (.frz od (.dK kvs)) := by rw [← hHl]; exact upd_same
        have ln : ∀ {b : Addr}, b ≠ a → Hl b = H b := fun n => by rw [← hHl]; exact upd_ne n
        refine ⟨_, rfl, a, od, kvs, rfl, la, fun D hD => dc_its (fun i H' => Same Hl H' ∧ ∃ ks : List (Key × V), H' D = some (.dK ks) ∧ ks.map (·.1) = (kvs.take i).map (·.1) ∧
          Paired (fun (p : Key × V) (q : PyData × PyData) => Sc (kV p.1) q.1 ∧ Dq (old (hide a G) Hl H') m true p.2 q.2) ks (kds.take i)) ⟨same_new hD, [], upd_same, rfl, .nil⟩ (fun i H' c => c.1 _ _ la) ?_ ?_⟩
        · rintro i kk v T H' hk ⟨s1, ks, hD', hkeys, hp'⟩ hT
          obtain ⟨q, hq1, hsc, hqd⟩ := pr_get hp hk
          refine ⟨T, _, rfl, SqT.of upd_same, rfl, _, _, rfl, _, _, rfl, rfl, rfl, okY ⟨_, rfl, _, rfl, ?_⟩⟩
          have sT := same_new (o := .tup [kV kk, v]) hT
          generalize upd H' T (.tup [kV kk, v]) = H1 at sT
          have s0 : Same (hide a G) H1 := fun b o e => by
            have nb : b ≠ a := fun z => by subst z; unfold hide at e; rw [if_pos rfl] at e; cases e
            exact sT _ _ (s1 _ _ (by rw [ln nb]; exact sG _ _ (hide_same _ _ e)))
          have hqt : Dq (hide a G) m true v q.2 := Dq.tups (fun b xs e => hide_at (fun z => by rw [z, ha] at e; cases e) e) hqd
          refine ⟨true, v, q.2, hide a G, rfl, s0, hqt, fun H2 v' s2 q2 => ?_⟩
          have hD2 : H2 D = some (.dK ks) := s2 _ _ (sT _ _ hD')
          have fresh : valV ks kk = none := by
            unfold valV
            rw [List.find?_eq_none.mpr]
            · rfl
            · intro x hx z
              have z : x.1 = kk := by simpa using z
              have m1 : kk ∈ ks.map (·.1) := List.mem_map.mpr ⟨x, hx, z⟩
              rw [hkeys] at m1
              have e := take_succ1 hk
              have nd2 : ((kvs.take (i + 1)).map (·.1)).Nodup := (nd.sublist ((List.take_sublist _ _).map _))
              rw [e, List.map_append, List.nodup_append] at nd2
              exact nd2.2.2 _ m1 _ (by simp) rfl
          have il : i < kvs.length := (List.getElem?_eq_some_iff.mp hk).1
          have lk : ks.length = i := by
            have := congrArg List.length hkeys
            rw [List.length_map, List.length_map, List.length_take] at this
            omega
          refine ⟨ks, kk, rfl, hD2, line100' (by omega), fun b o e => ?_, ks ++ [(kk, v')], by rw [upd_same, putK_new _ fresh], ?_, ?_⟩
          · rw [upd_ne (ne_of_none e hD)]
            exact s2 _ _ (sT _ _ (s1 _ _ e))
          · rw [take_succ1 hk, List.map_append, List.map_append, hkeys]
            rfl
          · refine pr_take (L2.Paired.mapP hp' fun _ _ z => ⟨z.1, Dq.tups (fun b xs e => ?_) z.2⟩) hq1 ⟨hsc, Dq.tups (fun b xs e => ?_) q2⟩
            · obtain ⟨c, e1⟩ := old_of e
              have nb : b ≠ D := ne_of e1 hD' (fun z => by cases z)
              exact old_at c (by rw [upd_ne nb]; exact s2 _ _ (sT _ _ e1))
            · obtain ⟨c, e1⟩ := old_of e
              have nb : b ≠ D := ne_of e1 hD2 (fun z => by cases z)
              refine old_at ?_ (by rw [upd_ne nb]; exact e1)
              rcases c with c | c
              · exact .inl c
              · exact .inr (Same.free (H := Hl) (H' := H1) (fun b o e => sT _ _ (s1 _ _ e)) c)
        · rintro H' ⟨s1, ks, hD', hkeys, hp'⟩
          have fa : H' a = some (.frz od (.dK kvs)) := s1 _ _ la
          have nDa : D ≠ a := fun z => by rw [z, la] at hD; cases hD
          have hDn : H D = none := by rw [← ln nDa]; exact hD
          rw [List.take_of_length_le (Nat.le_refl _)] at hkeys
          rw [List.take_of_length_le (by rw [pr_len hp]; exact Nat.le_refl _)] at hp'
          have lk : ks.length = kvs.length := by
            have := congrArg List.length hkeys
            rwa [List.length_map, List.length_map] at this
          refine ⟨fa, k _ (.ref D) (fun b o e => ?_) (.inr (.inr (.inr ⟨rfl, D, ks, kds, rfl, rfl, old_at (.inr hDn) (by rw [upd_ne nDa]; exact hD'), L2.Paired.mapP hp' fun _ _ z => ⟨z.1, Dq.tups (fun b xs e => ?_) z.2⟩, by omega, by rw [hkeys]; exact nd⟩)))⟩
          · by_cases z : b = a
            · subst z
              rw [hH] at e
              cases e
              exact upd_same
            · rw [upd_ne z]
              exact s1 _ _ (by rw [ln z]; exact e)
          · obtain ⟨c, e1⟩ := old_of e
            have nb : b ≠ a := ne_of e1 fa (fun z => by cases z)
            refine old_at ?_ (by rw [upd_ne nb]; exact e1)
            rcases c with ⟨u, c⟩ | c
            · exact .inl ⟨u, hide_same _ _ c⟩
            · exact .inr (by rw [← ln nb]; exact c)
end

/-! ### the __init__s -/
def spI1 (K : PySem.W.Frag) (f : Str) : Sp := fun vs H Q _ => ∃ (a C : Addr) (v : V) (d : PyData) (G : Hp), vs = [.ref a, v] ∧ OexC K C ∧ PySem.W.findIn K (.ref C) f = some none ∧ H a = some (exo a C none) ∧ Same G H ∧ G a = none ∧ Dq G 2 false v d ∧
  ∀ (Hf : Hp) (v' : V) (dd : Addr), Same (hide a H) Hf → Hf a = some (exo a C (some dd)) → Hf dd = some (exd dd [(f, v')]) → H dd = none → Dq Hf 2 false v' d → Q .non Hf
def spI2 (K : PySem.W.Frag) (f1 f2 : Str) : Sp := fun vs H Q _ => ∃ (a C : Addr) (v1 v2 : V) (d1 d2 : PyData) (G : Hp), vs = [.ref a, v1, v2] ∧ OexC K C ∧ PySem.W.findIn K (.ref C) f1 = some none ∧ PySem.W.findIn K (.ref C) f2 = some none ∧ H a = some (exo a C none) ∧
  Same G H ∧ G a = none ∧ Dq G 2 false v1 d1 ∧ Dq G 2 false v2 d2 ∧
  ∀ (Hf : Hp) (v1' v2' : V) (dd : Addr), Same (hide a H) Hf → Hf a = some (exo a C (some dd)) → Hf dd = some (exd dd [(f2, v2'), (f1, v1')]) → H dd = none → Dq Hf 2 false v1' d1 → Dq Hf 2 false v2' d2 → Q .non Hf
/-- of what is old in this way, nothing stands at a -/
theorem old_ne {G H H' : Hp} {a b : Addr} {o u : HO} (ha : H a = some u) (hg : G a = none) (e : old G H H' b = some o) : b ≠ a := fun z => by
  subst z
  obtain ⟨c, _⟩ := old_of e
  rcases c with ⟨u, c⟩ | c
  · rw [hg] at c; cases c
  · rw [ha] at c; cases c
section
variable {P : Program} {w : World} {K : PySem.W.Frag} {mg : Str → Option Value} {base : Heap}
theorem ok_init1 {st : Stmt} {f qual : Str} {fI fK : Addr} {fd fdK : FuncData} {p1 p2 p3 p4 p5 p6 : Pos} (F : Fun K "__init__" qual st fI fd) (T : TxtK mg) (U : Def K mg "kept" sKept ["value"] fK fdK) (S : FnScope ["self", f] ["self", f] (defScope st))
    (hB : defBody st = [.Assign [.Attribute (.Name "self" p1) f p2] (.Call (.Name "kept" p5) [.Name f p3] [] p6) p4])
    (h0 : Vis (defScope st) "self") (h1 : Vis (defScope st) f) (hgk : (defScope st).names.lookup ("kept" : Str) = some .globalImplicit) (hd : (f == ("__debug__" : Str)) = false) (hc : (f == ("__classdict__" : Str)) = false) : FnOk P w K mg base CX0 4 fI fd ["self", f] (spI1 K f) := by
  have GK : FnOk P w K mg base CX0 3 fK fdK ["value"] (spK 3) := ok_kept T U 3
  refine F.ok S (fun vs H Q E h => ?_) (fun cdv A outer s H vs Q E hr h => ?_)
  · obtain ⟨a, C, v, d, G, rfl, _⟩ := h
    rfl
  · obtain ⟨a, C, v, d, G, rfl, O, no, ha, sG, ga, hq, k⟩ := h
    rw [hB]
    refine ⟨_, pss_one (ps_ost (pv 0 rfl h0) (pe_call GK hr hgk U.g U.k U.b .nil pass0 (pa_cons (pv 1 rfl h1 hd hc) pa_nil))), ?_⟩
    refine ⟨_, rfl, false, v, d, G, rfl, sG, hq, fun H' v' s q => ⟨_, rfl, a, C, rfl, O, no, .inl ⟨s _ _ ha, fun dd hn ne => ?_⟩⟩⟩
    refine k _ v' dd (fun b o e => ?_) upd_same (by rw [upd_ne ne, upd_same]) (s.free hn) (Dq.same (fun b o e => ?_) q)
    · have nb : b ≠ a := fun z => by subst z; unfold hide at e; rw [if_pos rfl] at e; cases e
      have e1 := s _ _ (hide_same _ _ e)
      rw [upd_ne nb, upd_ne (ne_of_none e1 hn)]
      exact e1
    · have nb := old_ne ha ga e
      obtain ⟨_, e1⟩ := old_of e
      rw [upd_ne nb, upd_ne (ne_of_none e1 hn)]
      exact e1
theorem ok_init2 {st : Stmt} {f1 f2 qual : Str} {fI fK : Addr} {fd fdK : FuncData} {p1 p2 p3 p4 p5 p6 q1 q2 q3 q4 q5 q6 : Pos} (F : Fun K "__init__" qual st fI fd) (T : TxtK mg) (U : Def K mg "kept" sKept ["value"] fK fdK) (S : FnScope ["self", f1, f2] ["self", f1, f2] (defScope st))
    (hB : defBody st = [.Assign [.Attribute (.Name "self" p1) f1 p2] (.Call (.Name "kept" p5) [.Name f1 p3] [] p6) p4, .Assign [.Attribute (.Name "self" q1) f2 q2] (.Call (.Name "kept" q5) [.Name f2 q3] [] q6) q4])
    (h0 : Vis (defScope st) "self") (h1 : Vis (defScope st) f1) (h2 : Vis (defScope st) f2) (hgk : (defScope st).names.lookup ("kept" : Str) = some .globalImplicit) (hd : (f1 == ("__debug__" : Str)) = false) (hc : (f1 == ("__classdict__" : Str)) = false) (hd2 : (f2 == ("__debug__" : Str)) = false) (hc2 : (f2 == ("__classdict__" : Str)) = false) :
    FnOk P w K mg base CX0 4 fI fd ["self", f1, f2] (spI2 K f1 f2) := by
  have GK : FnOk P w K mg base CX0 3 fK fdK ["value"] (spK 3) := ok_kept T U 3
  refine F.ok S (fun vs H Q E h => ?_) (fun cdv A outer s H vs Q E hr h => ?_)
  · obtain ⟨a, C, v1, v2, d1, d2, G, rfl, _⟩ := h
    rfl
  · obtain ⟨a, C, v1, v2, d1, d2, G, rfl, O, no1, no2, ha, sG, ga, hq1, hq2, k⟩ := h
    rw [hB]
    refine ⟨_, pss_cons (ps_ost (pv 0 rfl h0) (pe_call GK hr hgk U.g U.k U.b .nil pass0 (pa_cons (pv 1 rfl h1 hd hc) pa_nil))) (pss_one (ps_ost (pv 0 rfl h0) (pe_call GK hr hgk U.g U.k U.b .nil pass0 (pa_cons (pv 2 rfl h2 hd2 hc2) pa_nil)))), ?_⟩
    refine ⟨_, rfl, false, v1, d1, G, rfl, sG, hq1, fun H1 v1' s1 r1 => ⟨_, rfl, a, C, rfl, O, no1, .inl ⟨s1 _ _ ha, fun dd hn ne => ?_⟩⟩⟩
    have keep1 : ∀ b o, b ≠ a → H1 b = some o → upd (upd H1 dd (exd dd [(f1, v1')])) a (exo a C (some dd)) b = some o := fun b o nb e => by
      rw [upd_ne nb, upd_ne (ne_of_none e hn)]
      exact e
    have ea : upd (upd H1 dd (exd dd [(f1, v1')])) a (exo a C (some dd)) a = some (exo a C (some dd)) := upd_same
    have ed : upd (upd H1 dd (exd dd [(f1, v1')])) a (exo a C (some dd)) dd = some (exd dd [(f1, v1')]) := by rw [upd_ne ne, upd_same]
    generalize upd (upd H1 dd (exd dd [(f1, v1')])) a (exo a C (some dd)) = H2 at keep1 ea ed
    have sG2 : Same G H2 := fun b o e => keep1 b o (fun z => by subst z; rw [ga] at e; cases e) (s1 _ _ (sG _ _ e))
    refine ⟨_, rfl, false, v2, d2, G, rfl, sG2, hq2, fun H3 v2' s3 r3 => ?_⟩
    refine ⟨_, rfl, a, C, rfl, O, no2, .inr ⟨dd, _, s3 _ _ ea, s3 _ _ ed, by show 1 ≤ 900; decide, ?_⟩⟩
    have gd : H dd = none := s1.free hn
    have gG : G dd = none := sG.free gd
    refine k _ v1' v2' dd (fun b o e => ?_) (by rw [upd_ne ne.symm]; exact s3 _ _ ea) upd_same gd (Dq.same (fun b o e => ?_) r1) (Dq.same (fun b o e => ?_) r3)
    · have nb : b ≠ a := fun z => by subst z; unfold hide at e; rw [if_pos rfl] at e; cases e
      have e1 := s1 _ _ (hide_same _ _ e)
      rw [upd_ne (ne_of_none e1 hn)]
      exact s3 _ _ (keep1 _ _ nb e1)
    · have nb := old_ne ha ga e
      obtain ⟨_, e1⟩ := old_of e
      rw [upd_ne (ne_of_none e1 hn)]
      exact s3 _ _ (keep1 _ _ nb e1)
    · have nb := old_ne ed gG e
      obtain ⟨_, e1⟩ := old_of e
      rw [upd_ne nb]
      exact e1
end

def gPos {α : Type} (us ws : List α) : List α := us
def gKey {α : Type} (us ws : List α) : List α := match us, ws with
  | [u], [w] => [u, w]
  | _, _ => []
/-- the class at C has an __init__ of one field f -/
structure I1 (P : Program) (w : World) (K : PySem.W.Frag) (mg : Str → Option Value) (base : Heap) (C : Addr) (f : Str) : Prop where
  ex : ∃ (fI : Addr) (fd : FuncData), PySem.W.findIn K (.ref C) "__init__" = some (some (.ref fI)) ∧ PySem.W.typeIn K (.ref fI) = some (.type "function") ∧ FnOk P w K mg base CX0 4 fI fd ["self", f] (spI1 K f) ∧
    KBinds K fd ["self", f] [] gPos gPos ∧ KBinds K fd ["self", f] [f] gKey gKey
  no : PySem.W.findIn K (.ref C) f = some none

def gKey2 {α : Type} (us ws : List α) : List α := match us, ws with
  | [u], [w1, w2] => [u, w2, w1]
  | _, _ => []
structure I2 (P : Program) (w : World) (K : PySem.W.Frag) (mg : Str → Option Value) (base : Heap) (C : Addr) (f1 f2 : Str) : Prop where
  ex : ∃ (fI : Addr) (fd : FuncData), PySem.W.findIn K (.ref C) "__init__" = some (some (.ref fI)) ∧ PySem.W.typeIn K (.ref fI) = some (.type "function") ∧ FnOk P w K mg base CX0 4 fI fd ["self", f1, f2] (spI2 K f1 f2) ∧
    KBinds K fd ["self", f1, f2] [] gPos gPos ∧ KBinds K fd ["self", f1, f2] [f2, f1] gKey2 gKey2
  n1 : PySem.W.findIn K (.ref C) f1 = some none
  n2 : PySem.W.findIn K (.ref C) f2 = some none

def CK (K : PySem.W.Frag) (S : Addr) (x : Str) (C : Addr) : Prop := ∀ (mg : Str → Option Value) (h : Heap), K.In h → h.Ns mainGlobals mg → XC K mg S x C
theorem ck_mk {K : PySem.W.Frag} {S C : Addr} {x : Str} {nm q : Str} {N : Addr} {bs : List Value} {sn : List Str} {sub : List Value} {ab : Bool} {col : Option Bool} {dd : Option Addr} {k0 k1 k2 k3 k5 : Option Value}
    (a : PySem.W.nsIn K mainGlobals x = some (some (.ref C)))
    (l : K.lookup C = some (excClassObj nm q C N bs [.ref S, .type "ValueError", .type "Exception", .type "BaseException", .type "object"] true sn sub ab col dd k0 k1 k2 k3 k5 "ValueError.__new__"))
    (sa : PySem.W.findIn K (.ref C) "__setattr__" = some (some (.builtin "object.__setattr__"))) (exC : PySem.W.subIn K (.ref C) (.type "BaseException") = some true) (tyC : PySem.W.typeIn K (.ref C) = some (.type "type")) (kC : PySem.W.keepIn K (.ref C) = true)
    (hg : PySem.W.findIn K (.ref C) "__getattribute__" = some (some (.builtin "BaseException.__getattribute__"))) (hk : PySem.W.findIn K (.ref C) "__getattr__" = some none) (hd : PySem.W.hasDictIn K C = true) (ha : PySem.W.findIn K (.ref C) "__class__" = some (some (.builtin "object.__class__")))
    (hn : PySem.W.specialIn K (.builtin "object.__class__") "__get__" = some (some (.builtin "getset_descriptor.__get__"))) (ht : PySem.W.takesIn K (.builtin "object.__class__") = some true) (hm : PySem.W.mroIn K C (.type "object") = some true) : CK K S x C := by
  intro mg h X G
  refine ⟨PySem.W.mg_of X G a, ⟨⟨_, _, _, _, _, _, _, _, _, _, _, _, _, _, _, l, rfl⟩, sa, exC, tyC, kC⟩, ⟨hg, hk, exC, hd, ha, hn, ht, hm⟩, ?_⟩
  unfold PySem.W.clsIn
  rw [l]
  exact ⟨_, rfl, rfl⟩

theorem kb_pos {K : PySem.W.Frag} {fd : FuncData} {ps : List Str} (h : ∀ us : List Value, us.length = ps.length → bindArgs fd ⟨us, []⟩ = pure (ps.zip us)) : KBinds K fd ps [] gPos gPos := by
  refine ⟨fun s us ws X hl => ?_, fun r _ => r⟩
  exact .of_eq (h us hl)
theorem kb_key {K : PySem.W.Frag} {fd : FuncData} {a f : Str} (h : ∀ u w : Value, bindArgs fd ⟨[u], [(f, w)]⟩ = pure [(a, u), (f, w)]) : KBinds K fd [a, f] [f] gKey gKey := by
  constructor
  · intro s us ws X hl
    match us, ws, hl with
    | [u], [w], _ => exact .of_eq (h u w)
    | [], _, hl => exact nomatch hl
    | [_], [], hl => exact nomatch hl
    | [_], _ :: _ :: _, hl => exact nomatch hl
    | _ :: _ :: _, _, hl => exact nomatch hl
  · intro vs us zs ws r q
    match r, q with
    | .cons r1 .nil, .cons q1 .nil => exact .cons r1 (.cons q1 .nil)
    | .nil, _ => exact .nil
    | .cons _ .nil, .nil => exact .nil
    | .cons _ .nil, .cons _ (.cons _ _) => exact .nil
    | .cons _ (.cons _ _), _ => exact .nil
theorem kb_key2 {K : PySem.W.Frag} {fd : FuncData} {a f1 f2 : Str} (h : ∀ u w1 w2 : Value, bindArgs fd ⟨[u], [(f2, w2), (f1, w1)]⟩ = pure [(a, u), (f1, w1), (f2, w2)]) : KBinds K fd [a, f1, f2] [f2, f1] gKey2 gKey2 := by
  constructor
  · intro s us ws X hl
    match us, ws, hl with
    | [u], [w2, w1], _ => exact .of_eq (h u w1 w2)
    | [], _, hl => exact nomatch hl
    | [_], [], hl => exact nomatch hl
    | [_], [_], hl => exact nomatch hl
    | [_], _ :: _ :: _ :: _, hl => exact nomatch hl
    | _ :: _ :: _, _, hl => exact nomatch hl
  · intro vs us zs ws r q
    match r, q with
    | .cons r1 .nil, .cons q1 (.cons q2 .nil) => exact .cons r1 (.cons q2 (.cons q1 .nil))
    | .nil, _ => exact .nil
    | .cons _ .nil, .nil => exact .nil
    | .cons _ .nil, .cons _ .nil => exact .nil
    | .cons _ .nil, .cons _ (.cons _ (.cons _ _)) => exact .nil
    | .cons _ (.cons _ _), _ => exact .nil
/-- the __init__ of one field -/
theorem i1_mk {K : PySem.W.Frag} {C fI : Addr} {f qual : Str} {st : Stmt} {oc : Value} {od an : Option Addr} {sl : Array (Option Value)} {kV dc pm cd ct : Value} {p1 p2 p3 p4 p5 p6 : Pos}
    (S : FnScope ["self", f] ["self", f] (defScope st)) (hB : defBody st = [.Assign [.Attribute (.Name "self" p1) f p2] (.Call (.Name "kept" p5) [.Name f p3] [] p6) p4]) (h0 : Vis (defScope st) "self") (h1 : Vis (defScope st) f) (hgk : (defScope st).names.lookup ("kept" : Str) = some .globalImplicit) (hd : (f == ("__debug__" : Str)) = false) (hc : (f == ("__classdict__" : Str)) = false)
    (b1 : ∀ (kV dc pm : Value) (an : Option Addr) (cd ct : Value) (us : List Value), us.length = 2 → bindArgs (PySem.W.fnOf "__init__" qual (defArgs st) (defBody st) (defScope st) .none kV dc pm an cd ct) ⟨us, []⟩ = pure ((["self", f] : List Str).zip us))
    (b2 : ∀ (kV dc pm : Value) (an : Option Addr) (cd ct : Value) (u w : Value), bindArgs (PySem.W.fnOf "__init__" qual (defArgs st) (defBody st) (defScope st) .none kV dc pm an cd ct) ⟨[u], [(f, w)]⟩ = pure [(("self" : Str), u), (f, w)])
    (a : PySem.W.findIn K (.ref C) "__init__" = some (some (.ref fI))) (t : PySem.W.typeIn K (.ref fI) = some (.type "function"))
    (l : K.lookup fI = some ⟨oc, od, .func (PySem.W.fnOf "__init__" qual (defArgs st) (defBody st) (defScope st) .none kV dc pm an cd ct), sl⟩) (c : PySem.W.codeIn K cd qual = true) (k : PySem.W.keepIn K (.ref fI) = true) (no : PySem.W.findIn K (.ref C) f = some none) :
    ∀ (P : Program) (w : World) (mg : Str → Option Value) (base : Heap), TxtK mg → ∀ {fK : Addr} {fdK : FuncData}, Def K mg "kept" sKept ["value"] fK fdK → I1 P w K mg base C f := fun P w mg base T _ _ U =>
  ⟨⟨fI, _, a, t, ok_init1 (fun_mk (st := st) l c k) T U S hB h0 h1 hgk hd hc, kb_pos (b1 kV dc pm an cd ct), kb_key (b2 kV dc pm an cd ct)⟩, no⟩
theorem i2_mk {K : PySem.W.Frag} {C fI : Addr} {f1 f2 qual : Str} {st : Stmt} {oc : Value} {od an : Option Addr} {sl : Array (Option Value)} {kV dc pm cd ct : Value} {p1 p2 p3 p4 p5 p6 q1 q2 q3 q4 q5 q6 : Pos}
    (S : FnScope ["self", f1, f2] ["self", f1, f2] (defScope st)) (hB : defBody st = [.Assign [.Attribute (.Name "self" p1) f1 p2] (.Call (.Name "kept" p5) [.Name f1 p3] [] p6) p4, .Assign [.Attribute (.Name "self" q1) f2 q2] (.Call (.Name "kept" q5) [.Name f2 q3] [] q6) q4])
    (h0 : Vis (defScope st) "self") (h1 : Vis (defScope st) f1) (h2 : Vis (defScope st) f2) (hgk : (defScope st).names.lookup ("kept" : Str) = some .globalImplicit) (hd : (f1 == ("__debug__" : Str)) = false) (hc : (f1 == ("__classdict__" : Str)) = false) (hd2 : (f2 == ("__debug__" : Str)) = false) (hc2 : (f2 == ("__classdict__" : Str)) = false)
    (b1 : ∀ (kV dc pm : Value) (an : Option Addr) (cd ct : Value) (us : List Value), us.length = 3 → bindArgs (PySem.W.fnOf "__init__" qual (defArgs st) (defBody st) (defScope st) .none kV dc pm an cd ct) ⟨us, []⟩ = pure ((["self", f1, f2] : List Str).zip us))
    (b2 : ∀ (kV dc pm : Value) (an : Option Addr) (cd ct : Value) (u w1 w2 : Value), bindArgs (PySem.W.fnOf "__init__" qual (defArgs st) (defBody st) (defScope st) .none kV dc pm an cd ct) ⟨[u], [(f2, w2), (f1, w1)]⟩ = pure [(("self" : Str), u), (f1, w1), (f2, w2)])
    (a : PySem.W.findIn K (.ref C) "__init__" = some (some (.ref fI))) (t : PySem.W.typeIn K (.ref fI) = some (.type "function"))
    (l : K.lookup fI = some ⟨oc, od, .func (PySem.W.fnOf "__init__" qual (defArgs st) (defBody st) (defScope st) .none kV dc pm an cd ct), sl⟩) (c : PySem.W.codeIn K cd qual = true) (k : PySem.W.keepIn K (.ref fI) = true) (n1 : PySem.W.findIn K (.ref C) f1 = some none) (n2 : PySem.W.findIn K (.ref C) f2 = some none) :
    ∀ (P : Program) (w : World) (mg : Str → Option Value) (base : Heap), TxtK mg → ∀ {fK : Addr} {fdK : FuncData}, Def K mg "kept" sKept ["value"] fK fdK → I2 P w K mg base C f1 f2 := fun P w mg base T _ _ U =>
  ⟨⟨fI, _, a, t, ok_init2 (fun_mk (st := st) l c k) T U S hB h0 h1 h2 hgk hd hc hd2 hc2, kb_pos (b1 kV dc pm an cd ct), kb_key2 (b2 kV dc pm an cd ct)⟩, n1, n2⟩
/-- a def of the module -/
theorem d_mk {K : PySem.W.Frag} {x : Str} {st : Stmt} {ps : List Str} {f : Addr} {oc : Value} {od an : Option Addr} {sl : Array (Option Value)} {kV dc pm cd ct : Value}
    (b : ∀ (kV dc pm : Value) (an : Option Addr) (cd ct : Value) (us : List Value), us.length = ps.length → bindArgs (PySem.W.fnOf x x (defArgs st) (defBody st) (defScope st) .none kV dc pm an cd ct) ⟨us, []⟩ = pure (ps.zip us))
    (a : PySem.W.nsIn K mainGlobals x = some (some (.ref f))) (l : K.lookup f = some ⟨oc, od, .func (PySem.W.fnOf x x (defArgs st) (defBody st) (defScope st) .none kV dc pm an cd ct), sl⟩) (c : PySem.W.codeIn K cd x = true) (k : PySem.W.keepIn K (.ref f) = true) :
    ∀ (mg : Str → Option Value) (h : Heap), K.In h → h.Ns mainGlobals mg → ∃ fd, Def K mg x st ps f fd := fun mg h X G => by
  have F := fun_mk (st := st) l c k
  exact ⟨_, PySem.W.mg_of X G a, k, F.binds b, F⟩
/-- data speaks of lists, tuples and dicts alone -/
def datO : HO → Bool
  | .lst _ => true
  | .tup _ => true
  | .dK _ => true
  | _ => false
theorem Dq.dat {H H' : Hp} (s : ∀ b o, datO o = true → H b = some o → H' b = some o) : ∀ {n : Nat} {b : Bool} {v : V} {d : PyData}, Dq H n b v d → Dq H' n b v d
  | 0, _, _, _, h => h
  | n + 1, b, v, d, h => by
    have ih : ∀ {b v d}, Dq H n b v d → Dq H' n b v d := fun h => Dq.dat s h
    rcases h with h | ⟨e0, a, xs, ds, e1, e2, h1, h2, h3⟩ | ⟨a, xs, ds, e1, e2, h1, h2, h3⟩ | ⟨e0, a, xs, ds, e1, e2, h1, h2, h3⟩
    · exact .inl h
    · exact .inr (.inl ⟨e0, a, xs, ds, e1, e2, s _ _ rfl h1, L2.Paired.mapP h2 fun _ _ z => ih z, h3⟩)
    · exact .inr (.inr (.inl ⟨a, xs, ds, e1, e2, s _ _ rfl h1, L2.Paired.mapP h2 fun _ _ z => ih z, h3⟩))
    · exact .inr (.inr (.inr ⟨e0, a, xs, ds, e1, e2, s _ _ rfl h1, L2.Paired.mapP h2 fun _ _ z => ⟨z.1, ih z.2⟩, h3⟩))
end Kone
namespace Gd
open PySem L2
open PySem.W (kdx_alive)
/-- a zip's record -/
abbrev IsZ (h : Heap) (z TI TO : Addr) (f0 : Value) (f : Bool) : Prop :=
  h.get? z = some { cls := .type "zip", dict := none, data := .fields #[f0, .bool f, .bool false, .ref TI, .ref TO], slots := #[] }
/-- what stands where a zip keeps the tuple that is out -/
def Own (v : Value) : Prop := v = .none ∨ ∃ a : Addr, v = rawInt a
abbrev IsTp (h : Heap) (T : Addr) (vs : Array Value) : Prop := h.get? T = some { cls := .type "tuple", data := .seq vs }
abbrev SI (h : Heap) (a : Addr) (x : Str) (t : Tok) (i : Nat) : Prop := h.IsStrIter a (strIterType x) x t i
/-- the i-th sign of x -/
def SG (x : Str) (i : Nat) (v : Value) : Prop := ∃ c u, x.cps[i]? = some c ∧ v = .str ⟨#[c]⟩ u
section
variable {prog : Program} {w : World} {A : Around} {E : Value → Shared → Prop} {s : Shared}
theorem si_over {h h' : Heap} {a b : Addr} {x : Str} {t : Tok} {i : Nat} (st : SI h a x t i) (hs : Heap.SameBut b h h') (ne : a ≠ b) : SI h' a x t i := by
  obtain ⟨o, ho, r⟩ := st
  exact ⟨o, hs.extBut _ _ ne ho, r⟩
theorem si_push {h : Heap} {a : Addr} {x : Str} {t : Tok} {i : Nat} {o' : Obj} (st : SI h a x t i) : SI (h.push o') a x t i := by
  obtain ⟨o, ho, r⟩ := st
  exact ⟨o, Heap.get?_push_of_some _ ho, r⟩
theorem kdx_dead {a : Addr} {Q : Option Obj → Shared → Prop} (ho : s.heap.get? a = none) (h : Q none s) : wpAny (model prog w) A (loadIfAlive a) Q E s := by
  have h' : Q (s.heap.get? a) s := by rw [ho]; exact h
  exact fun _ _ _ => h'
theorem is_free {z TI TO : Addr} {f0 : Value} {f : Bool} {Q : Bool → Shared → Prop} (hz : IsZ s.heap z TI TO f0 f) (ow : Own f0) (h1 : Q true s) (h2 : ∀ h' f', IsZ h' z TI TO f0 f' → Heap.SameBut z s.heap h' → Q false { s with heap := h' }) :
    wpAny (model prog w) A (Builtin.SmallTypes.ownedTupleIsFree (.ref z)) Q E s := by
  unfold Builtin.SmallTypes.ownedTupleIsFree
  rcases ow with rfl | ⟨T, rfl⟩
  · exact wpAny_bind (wpAny_field hz rfl (x := .none) rfl (wpAny_pure h1))
  · refine wpAny_bind (wpAny_field hz rfl (x := rawInt T) rfl ?_)
    show wpAny _ _ (loadIfAlive ((T : Int).toNat) >>= _) _ _ _
    rw [Int.toNat_natCast]
    cases hT : s.heap.get? T with
    | none =>
      refine wpAny_bind (kdx_dead hT ?_)
      simp only [Option.isNone_none, if_true]
      exact wpAny_pure h1
    | some oT =>
      refine wpAny_bind (kdx_alive hT ?_)
      simp only [Option.isNone_some, Bool.false_eq_true, if_false]
      refine wpAny_bind (wpAny_field hz rfl (x := .bool f) rfl ?_)
      cases f with
      | true =>
        rw [if_neg (show ¬ ((Value.bool true != Value.bool true) = true) from Bool.false_ne_true)]
        exact wpAny_pure (h2 s.heap true hz (Heap.SameBut.refl _ _))
      | false =>
        rw [if_pos (show (Value.bool false != Value.bool true) = true from rfl)]
        exact wpAny_bind (wpAny_setField_rec hz (by simp) fun h₁ hz₁ hs₁ => wpAny_pure (h2 h₁ true hz₁ hs₁))
theorem up_tp {T : Addr} {vs : Array Value} {x : Value} {k : Nat} {Q : Unit → Shared → Prop} (hT : IsTp s.heap T vs) (l : vs.size ≤ 3)
    (h : ∀ h', IsTp h' T (vs.setIfInBounds k x) → Heap.SameBut T s.heap h' → Q () { s with heap := h' }) :
    wpAny (model prog w) A (updateSeq T (·.setIfInBounds k x)) Q E s := by
  refine wpAny_updateSeq hT rfl (h _ ?_ (Heap.SameBut.update ..)) (Nat.le_trans l (by decide)) (by rw [Array.size_setIfInBounds]; exact Nat.le_trans l (by decide))
  rw [IsTp, Heap.get?_update_self _ hT rfl]
  simp [Obj.mapSeq]
end

/-! ### 1 -/
structure ZS1 (N : Nat) (x1 : Str) (t1 : Tok) (i : Nat) (h : Heap) : Prop where
  z : ∃ f0 f, IsZ h (N + 3) (N + 1) (N + 2) f0 f ∧ Own f0
  TI : IsTp h (N + 1) #[.ref N]
  TO : ∃ a1, IsTp h (N + 2) #[a1]
  i1 : SI h N x1 t1 i
section
variable {prog : Program} {w : World} {A : Around} {E : Value → Shared → Prop} {s : Shared} {N i : Nat} {x1 : Str} {t1 : Tok}
theorem zs1_item {Q : Value → Shared → Prop} (hh : A.handled = none) (S : ZS1 N x1 t1 i s.heap) (l1 : i < x1.cps.size)
    (hQ : ∀ v1 h' tk, SG x1 i v1 → ZS1 N x1 t1 (i + 1) h' → IsTp h' s.heap.objs.size #[v1] → h'.objs.size = s.heap.objs.size + 1 → (∀ c o, c ≠ N → c ≠ (N + 2) → c ≠ (N + 3) → s.heap.get? c = some o → h'.get? c = some o) → Q (.ref s.heap.objs.size) { s with heap := h', toks := tk }) :
    wpAny (model prog w) A (Builtin.«zip.__next__» ⟨[.ref (N + 3)], []⟩) (fun fin s' => ∃ v, fin = .done (.ret v) ∧ Q v s') E s := by
  obtain ⟨hp, g, d, tk0, os⟩ := s
  obtain ⟨⟨f0, f, hz, ow⟩, hTI, ⟨a1, hTO⟩, st1⟩ := S
  show wpAny _ _ (field (.ref (N + 3)) 2 >>= _) _ _ _
  refine wpAny_bind (wpAny_field hz rfl (x := .bool false) rfl ?_)
  show wpAny _ _ (field (.ref (N + 3)) 3 >>= _) _ _ _
  refine wpAny_bind (wpAny_field hz rfl (x := .ref (N + 1)) rfl ?_)
  refine wpAny_bind (wpAny_seqItems hTI rfl ?_)
  show wpAny _ _ (Builtin.SmallTypes.ownedTupleIsFree (.ref (N + 3)) >>= _) _ _ _
  refine wpAny_bind (is_free hz ow ?_ fun g0 f1 hz0 hs0 => ?_)
  · simp only [if_true]
    refine wpAny_bind (wpAny_rule ?_)
    refine wpAny_bind (wpAny_field hz rfl (x := .ref (N + 2)) rfl ?_)
    refine wpAny_bind (wpAny_setField_rec hz (by simp) fun g0 hz0 hs0 => ?_)
    replace hz0 : IsZ g0 (N + 3) (N + 1) (N + 2) .ellipsis f := hz0
    replace hs0 : Heap.SameBut (N + 3) hp g0 := hs0
    refine wpAny_bind ?_
    simp only [List.zipIdx_cons, List.zipIdx_nil, List.forIn_cons, List.forIn_nil]
    have hT0 : IsTp g0 (N + 2) #[a1] := hs0.extBut _ _ (show ((N + 2) : Nat) ≠ (N + 3) by omega) hTO
    refine wpAny_bind (wpAny_bind (wpAny_onRaise ?_))
    show wpAny _ _ (Builtin.SmallTypes.nextOf (.ref N) >>= _) _ _ ⟨g0, g, d, tk0, os⟩
    refine wpAny_bind ((Draws.text hh N x1 t1).item i ⟨g0, g, d, tk0, os⟩ _ _ l1 (si_over st1 hs0 (show (N : Nat) ≠ (N + 3) by omega)) fun v1 p1 tk1 hx1 sn1 hp1 => wpAny_pure ?_)
    replace hp1 : Heap.SameBut N g0 p1 := hp1
    have hU1 : IsTp p1 (N + 2) #[a1] := hp1.extBut _ _ (show ((N + 2) : Nat) ≠ N by omega) hT0
    refine wpAny_bind (wpAny_seqItems (s := ⟨p1, g, d, tk1, os⟩) hU1 rfl ?_)
    refine wpAny_bind (up_tp (s := ⟨p1, g, d, tk1, os⟩) hU1 (by show 1 ≤ 3; decide) fun g1 hT1 hs1 => ?_)
    replace hT1 : IsTp g1 (N + 2) #[v1] := hT1
    replace hs1 : Heap.SameBut (N + 2) p1 g1 := hs1
    refine wpAny_bind (wpAny_letGo (wpAny_pure (wpAny_pure ?_)))
    refine wpAny_bind (wpAny_seqItems (s := ⟨g1, g, d, tk1, os⟩) hT1 rfl ?_)
    refine wpAny_bind (wpAny_newTuple ?_)
    have hsz : g1.objs.size = hp.objs.size := by rw [hs1.1, hp1.1, hs0.1]
    have hzz : IsZ g1 (N + 3) (N + 1) (N + 2) .ellipsis f := (hs1.extBut _ _ (show ((N + 3) : Nat) ≠ (N + 2) by omega) (hp1.extBut _ _ (show ((N + 3) : Nat) ≠ N by omega) hz0))
    have hti : IsTp g1 (N + 1) #[.ref N] := (hs1.extBut _ _ (show ((N + 1) : Nat) ≠ (N + 2) by omega) (hp1.extBut _ _ (show ((N + 1) : Nat) ≠ N by omega) (hs0.extBut _ _ (show ((N + 1) : Nat) ≠ (N + 3) by omega) hTI)))
    have hkk : ∀ c o, c ≠ N → c ≠ (N + 2) → c ≠ (N + 3) → hp.get? c = some o → g1.get? c = some o := fun c o c1 cT cz e => (hs1.extBut _ _ cT (hp1.extBut _ _ c1 (hs0.extBut _ _ cz e)))
    have hj1 : SI g1 N x1 t1 (i + 1) := (si_over sn1 hs1 (show (N : Nat) ≠ (N + 2) by omega))
    have hzlt : (N + 3) < g1.objs.size := Heap.lt_size hzz
    show wpAny _ _ (Builtin.SmallTypes.ownedTupleHandOut (.ref (N + 3)) (.ref g1.objs.size) >>= _) _ _ ⟨g1.push { cls := .type "tuple", data := .seq #[v1] }, g, d, tk1, os⟩
    refine wpAny_bind ?_
    unfold Builtin.SmallTypes.ownedTupleHandOut
    have hz₆ : IsZ (g1.push { cls := .type "tuple", data := .seq #[v1] }) (N + 3) (N + 1) (N + 2) .ellipsis f := Heap.get?_push_of_some _ hzz
    refine wpAny_bind (wpAny_setField_rec hz₆ (by simp) fun h₇ hz₇ hs₇ => ?_)
    replace hz₇ : IsZ h₇ (N + 3) (N + 1) (N + 2) (rawInt g1.objs.size) f := hz₇
    refine wpAny_setField_rec hz₇ (by simp) fun h₈ hz₈ hs₈ => ?_
    replace hz₈ : IsZ h₈ (N + 3) (N + 1) (N + 2) (rawInt g1.objs.size) false := hz₈
    replace hs₇ : Heap.SameBut (N + 3) (g1.push { cls := .type "tuple", data := .seq #[v1] }) h₇ := hs₇
    replace hs₈ : Heap.SameBut (N + 3) h₇ h₈ := hs₈
    have up : ∀ c o, c ≠ (N + 3) → g1.get? c = some o → h₈.get? c = some o := fun c o c1 e => hs₈.extBut _ _ c1 (hs₇.extBut _ _ c1 (Heap.get?_push_of_some _ e))
    have hT₈ : IsTp h₈ g1.objs.size #[v1] := hs₈.extBut _ _ (Nat.ne_of_gt hzlt) (hs₇.extBut _ _ (Nat.ne_of_gt hzlt) (Heap.get?_push_size _ rfl))
    have hz8 : h₈.objs.size = g1.objs.size + 1 := by rw [hs₈.1, hs₇.1, Heap.size_push]
    have fin : ZS1 N x1 t1 (i + 1) h₈ := ⟨⟨_, _, hz₈, .inr ⟨_, rfl⟩⟩, up _ _ (show ((N + 1) : Nat) ≠ (N + 3) by omega) hti, ⟨v1, up _ _ (show ((N + 2) : Nat) ≠ (N + 3) by omega) hT1⟩, si_over (si_over (si_push hj1) hs₇ (show (N : Nat) ≠ (N + 3) by omega)) hs₈ (show (N : Nat) ≠ (N + 3) by omega)⟩
    rw [hsz] at hT₈ hz8
    refine wpAny_pure ⟨_, rfl, ?_⟩
    show Q (.ref g1.objs.size) ⟨h₈, g, d, tk1, os⟩
    rw [hsz]
    exact hQ v1 h₈ tk1 hx1 fin hT₈ hz8 fun c o c1 cT cz e => up c o cz (hkk c o c1 cT cz e)
  · simp only [Bool.false_eq_true, if_false]
    refine wpAny_bind ?_
    rw [← Array.forIn_toList]
    simp only [List.forIn_cons, List.forIn_nil]
    replace hz0 : IsZ g0 (N + 3) (N + 1) (N + 2) f0 f1 := hz0
    replace hs0 : Heap.SameBut (N + 3) hp g0 := hs0
    refine wpAny_bind (wpAny_bind (wpAny_holding ?_))
    show wpAny _ _ (Builtin.SmallTypes.nextOf (.ref N) >>= _) _ _ ⟨g0, g, d, tk0, os⟩
    refine wpAny_bind ((Draws.text hh N x1 t1).item i ⟨g0, g, d, tk0, os⟩ _ _ l1 (si_over st1 hs0 (show (N : Nat) ≠ (N + 3) by omega)) fun v1 p1 tk1 hx1 sn1 hp1 => wpAny_pure ?_)
    replace hp1 : Heap.SameBut N g0 p1 := hp1
    refine wpAny_pure (wpAny_pure ?_)
    show wpAny _ _ (newTuple [v1] >>= _) _ _ ⟨p1, g, d, tk1, os⟩
    refine wpAny_bind (wpAny_newTuple ?_)
    have hsz : p1.objs.size = hp.objs.size := by rw [hp1.1, hs0.1]
    have hzz : IsZ p1 (N + 3) (N + 1) (N + 2) f0 f1 := (hp1.extBut _ _ (show ((N + 3) : Nat) ≠ N by omega) hz0)
    have hti : IsTp p1 (N + 1) #[.ref N] := (hp1.extBut _ _ (show ((N + 1) : Nat) ≠ N by omega) (hs0.extBut _ _ (show ((N + 1) : Nat) ≠ (N + 3) by omega) hTI))
    have hto : IsTp p1 (N + 2) #[a1] := (hp1.extBut _ _ (show ((N + 2) : Nat) ≠ N by omega) (hs0.extBut _ _ (show ((N + 2) : Nat) ≠ (N + 3) by omega) hTO))
    have hkk : ∀ c o, c ≠ N → c ≠ (N + 2) → c ≠ (N + 3) → hp.get? c = some o → p1.get? c = some o := fun c o c1 cT cz e => (hp1.extBut _ _ c1 (hs0.extBut _ _ cz e))
    have hj1 : SI p1 N x1 t1 (i + 1) := sn1
    refine wpAny_pure ⟨_, rfl, ?_⟩
    show Q (.ref p1.objs.size) ⟨p1.push { cls := .type "tuple", data := .seq #[v1] }, g, d, tk1, os⟩
    have hnt : IsTp (p1.push { cls := .type "tuple", data := .seq #[v1] }) p1.objs.size #[v1] := Heap.get?_push_size _ rfl
    have hz4 : (p1.push { cls := .type "tuple", data := .seq #[v1] }).objs.size = p1.objs.size + 1 := Heap.size_push ..
    rw [hsz] at hnt hz4 ⊢
    exact hQ v1 _ tk1 hx1 ⟨⟨f0, f1, Heap.get?_push_of_some _ hzz, ow⟩, Heap.get?_push_of_some _ hti, ⟨a1, Heap.get?_push_of_some _ hto⟩, si_push hj1⟩ hnt hz4 fun c o c1 cT cz e => Heap.get?_push_of_some _ (hkk c o c1 cT cz e)
theorem zs1_end {Q : Fin → Shared → Prop} (hh : A.handled = none) (S : ZS1 N x1 t1 i s.heap) (l1 : i = x1.cps.size)
    (hE : ∀ h' tk e, (∀ c o, c ≠ N → c ≠ (N + 2) → c ≠ (N + 3) → s.heap.get? c = some o → h'.get? c = some o) → (∃ o, h'.get? e = some o ∧ o.cls = .type "StopIteration") → E (.ref e) { s with heap := h', toks := tk }) :
    wpAny (model prog w) A (Builtin.«zip.__next__» ⟨[.ref (N + 3)], []⟩) Q E s := by
  obtain ⟨hp, g, d, tk0, os⟩ := s
  obtain ⟨⟨f0, f, hz, ow⟩, hTI, ⟨a1, hTO⟩, st1⟩ := S
  show wpAny _ _ (field (.ref (N + 3)) 2 >>= _) _ _ _
  refine wpAny_bind (wpAny_field hz rfl (x := .bool false) rfl ?_)
  show wpAny _ _ (field (.ref (N + 3)) 3 >>= _) _ _ _
  refine wpAny_bind (wpAny_field hz rfl (x := .ref (N + 1)) rfl ?_)
  refine wpAny_bind (wpAny_seqItems hTI rfl ?_)
  show wpAny _ _ (Builtin.SmallTypes.ownedTupleIsFree (.ref (N + 3)) >>= _) _ _ _
  refine wpAny_bind (is_free hz ow ?_ fun g0 f1 hz0 hs0 => ?_)
  · simp only [if_true]
    refine wpAny_bind (wpAny_rule ?_)
    refine wpAny_bind (wpAny_field hz rfl (x := .ref (N + 2)) rfl ?_)
    refine wpAny_bind (wpAny_setField_rec hz (by simp) fun g0 hz0 hs0 => ?_)
    replace hz0 : IsZ g0 (N + 3) (N + 1) (N + 2) .ellipsis f := hz0
    replace hs0 : Heap.SameBut (N + 3) hp g0 := hs0
    refine wpAny_bind ?_
    simp only [List.zipIdx_cons, List.zipIdx_nil, List.forIn_cons, List.forIn_nil]
    refine wpAny_bind (wpAny_bind (wpAny_onRaise ?_))
    show wpAny _ _ (Builtin.SmallTypes.nextOf (.ref N) >>= _) _ _ ⟨g0, g, d, tk0, os⟩
    refine wpAny_bind ((Draws.text hh N x1 t1).done ⟨g0, g, d, tk0, os⟩ _ _ (by rw [← l1]; exact (si_over st1 hs0 (show (N : Nat) ≠ (N + 3) by omega))) fun q e hq he => ?_)
    replace hq : Heap.ExtBut N g0 q := hq
    obtain ⟨oe, hoe, hce⟩ := he
    replace hoe : q.get? e = some oe := hoe
    have hzq : IsZ q (N + 3) (N + 1) (N + 2) .ellipsis f := hq _ _ (show ((N + 3) : Nat) ≠ N by omega) hz0
    have hez : e ≠ (N + 3) := fun x => by subst x; rw [hzq] at hoe; cases hoe; simp at hce
    refine wpAny_setField_rec (s := ⟨q, g, d, tk0, os⟩) hzq (by simp) fun q' _ hq' => ?_
    replace hq' : Heap.SameBut (N + 3) q q' := hq'
    exact hE q' tk0 e (fun c o c1 cT cz x => hq'.extBut _ _ cz (hq _ _ c1 (hs0.extBut _ _ cz x))) ⟨oe, hq'.extBut _ _ hez hoe, hce⟩
  · simp only [Bool.false_eq_true, if_false]
    refine wpAny_bind ?_
    rw [← Array.forIn_toList]
    simp only [List.forIn_cons, List.forIn_nil]
    replace hz0 : IsZ g0 (N + 3) (N + 1) (N + 2) f0 f1 := hz0
    replace hs0 : Heap.SameBut (N + 3) hp g0 := hs0
    refine wpAny_bind (wpAny_bind (wpAny_holding ?_))
    show wpAny _ _ (Builtin.SmallTypes.nextOf (.ref N) >>= _) _ _ ⟨g0, g, d, tk0, os⟩
    refine wpAny_bind ((Draws.text hh N x1 t1).done ⟨g0, g, d, tk0, os⟩ _ _ (by rw [← l1]; exact (si_over st1 hs0 (show (N : Nat) ≠ (N + 3) by omega))) fun q e hq he => ?_)
    replace hq : Heap.ExtBut N g0 q := hq
    exact hE q tk0 e (fun c o c1 cT cz x => hq _ _ c1 (hs0.extBut _ _ cz x)) he
end
/-! ### 2 -/
structure ZS2 (N : Nat) (x1 x2 : Str) (t1 t2 : Tok) (i : Nat) (h : Heap) : Prop where
  z : ∃ f0 f, IsZ h (N + 4) (N + 2) (N + 3) f0 f ∧ Own f0
  TI : IsTp h (N + 2) #[.ref N, .ref (N + 1)]
  TO : ∃ a1 a2, IsTp h (N + 3) #[a1, a2]
  i1 : SI h N x1 t1 i
  i2 : SI h (N + 1) x2 t2 i
section
variable {prog : Program} {w : World} {A : Around} {E : Value → Shared → Prop} {s : Shared} {N i : Nat} {x1 x2 : Str} {t1 t2 : Tok}
theorem zs2_item {Q : Value → Shared → Prop} (hh : A.handled = none) (S : ZS2 N x1 x2 t1 t2 i s.heap) (l1 : i < x1.cps.size) (l2 : i < x2.cps.size)
    (hQ : ∀ v1 v2 h' tk, SG x1 i v1 → SG x2 i v2 → ZS2 N x1 x2 t1 t2 (i + 1) h' → IsTp h' s.heap.objs.size #[v1, v2] → h'.objs.size = s.heap.objs.size + 1 → (∀ c o, c ≠ N → c ≠ (N + 1) → c ≠ (N + 3) → c ≠ (N + 4) → s.heap.get? c = some o → h'.get? c = some o) → Q (.ref s.heap.objs.size) { s with heap := h', toks := tk }) :
    wpAny (model prog w) A (Builtin.«zip.__next__» ⟨[.ref (N + 4)], []⟩) (fun fin s' => ∃ v, fin = .done (.ret v) ∧ Q v s') E s := by
  obtain ⟨hp, g, d, tk0, os⟩ := s
  obtain ⟨⟨f0, f, hz, ow⟩, hTI, ⟨a1, a2, hTO⟩, st1, st2⟩ := S
  show wpAny _ _ (field (.ref (N + 4)) 2 >>= _) _ _ _
  refine wpAny_bind (wpAny_field hz rfl (x := .bool false) rfl ?_)
  show wpAny _ _ (field (.ref (N + 4)) 3 >>= _) _ _ _
  refine wpAny_bind (wpAny_field hz rfl (x := .ref (N + 2)) rfl ?_)
  refine wpAny_bind (wpAny_seqItems hTI rfl ?_)
  show wpAny _ _ (Builtin.SmallTypes.ownedTupleIsFree (.ref (N + 4)) >>= _) _ _ _
  refine wpAny_bind (is_free hz ow ?_ fun g0 f1 hz0 hs0 => ?_)
  · simp only [if_true]
    refine wpAny_bind (wpAny_rule ?_)
    refine wpAny_bind (wpAny_field hz rfl (x := .ref (N + 3)) rfl ?_)
    refine wpAny_bind (wpAny_setField_rec hz (by simp) fun g0 hz0 hs0 => ?_)
    replace hz0 : IsZ g0 (N + 4) (N + 2) (N + 3) .ellipsis f := hz0
    replace hs0 : Heap.SameBut (N + 4) hp g0 := hs0
    refine wpAny_bind ?_
    simp only [List.zipIdx_cons, List.zipIdx_nil, List.forIn_cons, List.forIn_nil]
    have hT0 : IsTp g0 (N + 3) #[a1, a2] := hs0.extBut _ _ (show ((N + 3) : Nat) ≠ (N + 4) by omega) hTO
    refine wpAny_bind (wpAny_bind (wpAny_onRaise ?_))
    show wpAny _ _ (Builtin.SmallTypes.nextOf (.ref N) >>= _) _ _ ⟨g0, g, d, tk0, os⟩
    refine wpAny_bind ((Draws.text hh N x1 t1).item i ⟨g0, g, d, tk0, os⟩ _ _ l1 (si_over st1 hs0 (show (N : Nat) ≠ (N + 4) by omega)) fun v1 p1 tk1 hx1 sn1 hp1 => wpAny_pure ?_)
    replace hp1 : Heap.SameBut N g0 p1 := hp1
    have hU1 : IsTp p1 (N + 3) #[a1, a2] := hp1.extBut _ _ (show ((N + 3) : Nat) ≠ N by omega) hT0
    refine wpAny_bind (wpAny_seqItems (s := ⟨p1, g, d, tk1, os⟩) hU1 rfl ?_)
    refine wpAny_bind (up_tp (s := ⟨p1, g, d, tk1, os⟩) hU1 (by show 2 ≤ 3; decide) fun g1 hT1 hs1 => ?_)
    replace hT1 : IsTp g1 (N + 3) #[v1, a2] := hT1
    replace hs1 : Heap.SameBut (N + 3) p1 g1 := hs1
    refine wpAny_bind (wpAny_letGo (wpAny_pure ?_))
    refine wpAny_bind (wpAny_bind (wpAny_onRaise ?_))
    show wpAny _ _ (Builtin.SmallTypes.nextOf (.ref (N + 1)) >>= _) _ _ ⟨g1, g, d, tk1, os⟩
    refine wpAny_bind ((Draws.text hh (N + 1) x2 t2).item i ⟨g1, g, d, tk1, os⟩ _ _ l2 (si_over (si_over (si_over st2 hs0 (show ((N + 1) : Nat) ≠ (N + 4) by omega)) hp1 (show ((N + 1) : Nat) ≠ N by omega)) hs1 (show ((N + 1) : Nat) ≠ (N + 3) by omega)) fun v2 p2 tk2 hx2 sn2 hp2 => wpAny_pure ?_)
    replace hp2 : Heap.SameBut (N + 1) g1 p2 := hp2
    have hU2 : IsTp p2 (N + 3) #[v1, a2] := hp2.extBut _ _ (show ((N + 3) : Nat) ≠ (N + 1) by omega) hT1
    refine wpAny_bind (wpAny_seqItems (s := ⟨p2, g, d, tk2, os⟩) hU2 rfl ?_)
    refine wpAny_bind (up_tp (s := ⟨p2, g, d, tk2, os⟩) hU2 (by show 2 ≤ 3; decide) fun g2 hT2 hs2 => ?_)
    replace hT2 : IsTp g2 (N + 3) #[v1, v2] := hT2
    replace hs2 : Heap.SameBut (N + 3) p2 g2 := hs2
    refine wpAny_bind (wpAny_letGo (wpAny_pure (wpAny_pure ?_)))
    refine wpAny_bind (wpAny_seqItems (s := ⟨g2, g, d, tk2, os⟩) hT2 rfl ?_)
    refine wpAny_bind (wpAny_newTuple ?_)
    have hsz : g2.objs.size = hp.objs.size := by rw [hs2.1, hp2.1, hs1.1, hp1.1, hs0.1]
    have hzz : IsZ g2 (N + 4) (N + 2) (N + 3) .ellipsis f := (hs2.extBut _ _ (show ((N + 4) : Nat) ≠ (N + 3) by omega) (hp2.extBut _ _ (show ((N + 4) : Nat) ≠ (N + 1) by omega) (hs1.extBut _ _ (show ((N + 4) : Nat) ≠ (N + 3) by omega) (hp1.extBut _ _ (show ((N + 4) : Nat) ≠ N by omega) hz0))))
    have hti : IsTp g2 (N + 2) #[.ref N, .ref (N + 1)] := (hs2.extBut _ _ (show ((N + 2) : Nat) ≠ (N + 3) by omega) (hp2.extBut _ _ (show ((N + 2) : Nat) ≠ (N + 1) by omega) (hs1.extBut _ _ (show ((N + 2) : Nat) ≠ (N + 3) by omega) (hp1.extBut _ _ (show ((N + 2) : Nat) ≠ N by omega) (hs0.extBut _ _ (show ((N + 2) : Nat) ≠ (N + 4) by omega) hTI)))))
    have hkk : ∀ c o, c ≠ N → c ≠ (N + 1) → c ≠ (N + 3) → c ≠ (N + 4) → hp.get? c = some o → g2.get? c = some o := fun c o c1 c2 cT cz e => (hs2.extBut _ _ cT (hp2.extBut _ _ c2 (hs1.extBut _ _ cT (hp1.extBut _ _ c1 (hs0.extBut _ _ cz e)))))
    have hj1 : SI g2 N x1 t1 (i + 1) := (si_over (si_over (si_over sn1 hs1 (show (N : Nat) ≠ (N + 3) by omega)) hp2 (show (N : Nat) ≠ (N + 1) by omega)) hs2 (show (N : Nat) ≠ (N + 3) by omega))
    have hj2 : SI g2 (N + 1) x2 t2 (i + 1) := (si_over sn2 hs2 (show ((N + 1) : Nat) ≠ (N + 3) by omega))
    have hzlt : (N + 4) < g2.objs.size := Heap.lt_size hzz
    show wpAny _ _ (Builtin.SmallTypes.ownedTupleHandOut (.ref (N + 4)) (.ref g2.objs.size) >>= _) _ _ ⟨g2.push { cls := .type "tuple", data := .seq #[v1, v2] }, g, d, tk2, os⟩
    refine wpAny_bind ?_
    unfold Builtin.SmallTypes.ownedTupleHandOut
    have hz₆ : IsZ (g2.push { cls := .type "tuple", data := .seq #[v1, v2] }) (N + 4) (N + 2) (N + 3) .ellipsis f := Heap.get?_push_of_some _ hzz
    refine wpAny_bind (wpAny_setField_rec hz₆ (by simp) fun h₇ hz₇ hs₇ => ?_)
    replace hz₇ : IsZ h₇ (N + 4) (N + 2) (N + 3) (rawInt g2.objs.size) f := hz₇
    refine wpAny_setField_rec hz₇ (by simp) fun h₈ hz₈ hs₈ => ?_
    replace hz₈ : IsZ h₈ (N + 4) (N + 2) (N + 3) (rawInt g2.objs.size) false := hz₈
    replace hs₇ : Heap.SameBut (N + 4) (g2.push { cls := .type "tuple", data := .seq #[v1, v2] }) h₇ := hs₇
    replace hs₈ : Heap.SameBut (N + 4) h₇ h₈ := hs₈
    have up : ∀ c o, c ≠ (N + 4) → g2.get? c = some o → h₈.get? c = some o := fun c o c1 e => hs₈.extBut _ _ c1 (hs₇.extBut _ _ c1 (Heap.get?_push_of_some _ e))
    have hT₈ : IsTp h₈ g2.objs.size #[v1, v2] := hs₈.extBut _ _ (Nat.ne_of_gt hzlt) (hs₇.extBut _ _ (Nat.ne_of_gt hzlt) (Heap.get?_push_size _ rfl))
    have hz8 : h₈.objs.size = g2.objs.size + 1 := by rw [hs₈.1, hs₇.1, Heap.size_push]
    have fin : ZS2 N x1 x2 t1 t2 (i + 1) h₈ := ⟨⟨_, _, hz₈, .inr ⟨_, rfl⟩⟩, up _ _ (show ((N + 2) : Nat) ≠ (N + 4) by omega) hti, ⟨v1, v2, up _ _ (show ((N + 3) : Nat) ≠ (N + 4) by omega) hT2⟩, si_over (si_over (si_push hj1) hs₇ (show (N : Nat) ≠ (N + 4) by omega)) hs₈ (show (N : Nat) ≠ (N + 4) by omega), si_over (si_over (si_push hj2) hs₇ (show ((N + 1) : Nat) ≠ (N + 4) by omega)) hs₈ (show ((N + 1) : Nat) ≠ (N + 4) by omega)⟩
    rw [hsz] at hT₈ hz8
    refine wpAny_pure ⟨_, rfl, ?_⟩
    show Q (.ref g2.objs.size) ⟨h₈, g, d, tk2, os⟩
    rw [hsz]
    exact hQ v1 v2 h₈ tk2 hx1 hx2 fin hT₈ hz8 fun c o c1 c2 cT cz e => up c o cz (hkk c o c1 c2 cT cz e)
  · simp only [Bool.false_eq_true, if_false]
    refine wpAny_bind ?_
    rw [← Array.forIn_toList]
    simp only [List.forIn_cons, List.forIn_nil]
    replace hz0 : IsZ g0 (N + 4) (N + 2) (N + 3) f0 f1 := hz0
    replace hs0 : Heap.SameBut (N + 4) hp g0 := hs0
    refine wpAny_bind (wpAny_bind (wpAny_holding ?_))
    show wpAny _ _ (Builtin.SmallTypes.nextOf (.ref N) >>= _) _ _ ⟨g0, g, d, tk0, os⟩
    refine wpAny_bind ((Draws.text hh N x1 t1).item i ⟨g0, g, d, tk0, os⟩ _ _ l1 (si_over st1 hs0 (show (N : Nat) ≠ (N + 4) by omega)) fun v1 p1 tk1 hx1 sn1 hp1 => wpAny_pure ?_)
    replace hp1 : Heap.SameBut N g0 p1 := hp1
    refine wpAny_pure ?_
    refine wpAny_bind (wpAny_bind (wpAny_holding ?_))
    show wpAny _ _ (Builtin.SmallTypes.nextOf (.ref (N + 1)) >>= _) _ _ ⟨p1, g, d, tk1, os⟩
    refine wpAny_bind ((Draws.text hh (N + 1) x2 t2).item i ⟨p1, g, d, tk1, os⟩ _ _ l2 (si_over (si_over st2 hs0 (show ((N + 1) : Nat) ≠ (N + 4) by omega)) hp1 (show ((N + 1) : Nat) ≠ N by omega)) fun v2 p2 tk2 hx2 sn2 hp2 => wpAny_pure ?_)
    replace hp2 : Heap.SameBut (N + 1) p1 p2 := hp2
    refine wpAny_pure (wpAny_pure ?_)
    show wpAny _ _ (newTuple [v1, v2] >>= _) _ _ ⟨p2, g, d, tk2, os⟩
    refine wpAny_bind (wpAny_newTuple ?_)
    have hsz : p2.objs.size = hp.objs.size := by rw [hp2.1, hp1.1, hs0.1]
    have hzz : IsZ p2 (N + 4) (N + 2) (N + 3) f0 f1 := (hp2.extBut _ _ (show ((N + 4) : Nat) ≠ (N + 1) by omega) (hp1.extBut _ _ (show ((N + 4) : Nat) ≠ N by omega) hz0))
    have hti : IsTp p2 (N + 2) #[.ref N, .ref (N + 1)] := (hp2.extBut _ _ (show ((N + 2) : Nat) ≠ (N + 1) by omega) (hp1.extBut _ _ (show ((N + 2) : Nat) ≠ N by omega) (hs0.extBut _ _ (show ((N + 2) : Nat) ≠ (N + 4) by omega) hTI)))
    have hto : IsTp p2 (N + 3) #[a1, a2] := (hp2.extBut _ _ (show ((N + 3) : Nat) ≠ (N + 1) by omega) (hp1.extBut _ _ (show ((N + 3) : Nat) ≠ N by omega) (hs0.extBut _ _ (show ((N + 3) : Nat) ≠ (N + 4) by omega) hTO)))
    have hkk : ∀ c o, c ≠ N → c ≠ (N + 1) → c ≠ (N + 3) → c ≠ (N + 4) → hp.get? c = some o → p2.get? c = some o := fun c o c1 c2 cT cz e => (hp2.extBut _ _ c2 (hp1.extBut _ _ c1 (hs0.extBut _ _ cz e)))
    have hj1 : SI p2 N x1 t1 (i + 1) := (si_over sn1 hp2 (show (N : Nat) ≠ (N + 1) by omega))
    have hj2 : SI p2 (N + 1) x2 t2 (i + 1) := sn2
    refine wpAny_pure ⟨_, rfl, ?_⟩
    show Q (.ref p2.objs.size) ⟨p2.push { cls := .type "tuple", data := .seq #[v1, v2] }, g, d, tk2, os⟩
    have hnt : IsTp (p2.push { cls := .type "tuple", data := .seq #[v1, v2] }) p2.objs.size #[v1, v2] := Heap.get?_push_size _ rfl
    have hz4 : (p2.push { cls := .type "tuple", data := .seq #[v1, v2] }).objs.size = p2.objs.size + 1 := Heap.size_push ..
    rw [hsz] at hnt hz4 ⊢
    exact hQ v1 v2 _ tk2 hx1 hx2 ⟨⟨f0, f1, Heap.get?_push_of_some _ hzz, ow⟩, Heap.get?_push_of_some _ hti, ⟨a1, a2, Heap.get?_push_of_some _ hto⟩, si_push hj1, si_push hj2⟩ hnt hz4 fun c o c1 c2 cT cz e => Heap.get?_push_of_some _ (hkk c o c1 c2 cT cz e)
theorem zs2_end {Q : Fin → Shared → Prop} (hh : A.handled = none) (S : ZS2 N x1 x2 t1 t2 i s.heap) (l1 : i = x1.cps.size)
    (hE : ∀ h' tk e, (∀ c o, c ≠ N → c ≠ (N + 1) → c ≠ (N + 3) → c ≠ (N + 4) → s.heap.get? c = some o → h'.get? c = some o) → (∃ o, h'.get? e = some o ∧ o.cls = .type "StopIteration") → E (.ref e) { s with heap := h', toks := tk }) :
    wpAny (model prog w) A (Builtin.«zip.__next__» ⟨[.ref (N + 4)], []⟩) Q E s := by
  obtain ⟨hp, g, d, tk0, os⟩ := s
  obtain ⟨⟨f0, f, hz, ow⟩, hTI, ⟨a1, a2, hTO⟩, st1, st2⟩ := S
  show wpAny _ _ (field (.ref (N + 4)) 2 >>= _) _ _ _
  refine wpAny_bind (wpAny_field hz rfl (x := .bool false) rfl ?_)
  show wpAny _ _ (field (.ref (N + 4)) 3 >>= _) _ _ _
  refine wpAny_bind (wpAny_field hz rfl (x := .ref (N + 2)) rfl ?_)
  refine wpAny_bind (wpAny_seqItems hTI rfl ?_)
  show wpAny _ _ (Builtin.SmallTypes.ownedTupleIsFree (.ref (N + 4)) >>= _) _ _ _
  refine wpAny_bind (is_free hz ow ?_ fun g0 f1 hz0 hs0 => ?_)
  · simp only [if_true]
    refine wpAny_bind (wpAny_rule ?_)
    refine wpAny_bind (wpAny_field hz rfl (x := .ref (N + 3)) rfl ?_)
    refine wpAny_bind (wpAny_setField_rec hz (by simp) fun g0 hz0 hs0 => ?_)
    replace hz0 : IsZ g0 (N + 4) (N + 2) (N + 3) .ellipsis f := hz0
    replace hs0 : Heap.SameBut (N + 4) hp g0 := hs0
    refine wpAny_bind ?_
    simp only [List.zipIdx_cons, List.zipIdx_nil, List.forIn_cons, List.forIn_nil]
    refine wpAny_bind (wpAny_bind (wpAny_onRaise ?_))
    show wpAny _ _ (Builtin.SmallTypes.nextOf (.ref N) >>= _) _ _ ⟨g0, g, d, tk0, os⟩
    refine wpAny_bind ((Draws.text hh N x1 t1).done ⟨g0, g, d, tk0, os⟩ _ _ (by rw [← l1]; exact (si_over st1 hs0 (show (N : Nat) ≠ (N + 4) by omega))) fun q e hq he => ?_)
    replace hq : Heap.ExtBut N g0 q := hq
    obtain ⟨oe, hoe, hce⟩ := he
    replace hoe : q.get? e = some oe := hoe
    have hzq : IsZ q (N + 4) (N + 2) (N + 3) .ellipsis f := hq _ _ (show ((N + 4) : Nat) ≠ N by omega) hz0
    have hez : e ≠ (N + 4) := fun x => by subst x; rw [hzq] at hoe; cases hoe; simp at hce
    refine wpAny_setField_rec (s := ⟨q, g, d, tk0, os⟩) hzq (by simp) fun q' _ hq' => ?_
    replace hq' : Heap.SameBut (N + 4) q q' := hq'
    exact hE q' tk0 e (fun c o c1 c2 cT cz x => hq'.extBut _ _ cz (hq _ _ c1 (hs0.extBut _ _ cz x))) ⟨oe, hq'.extBut _ _ hez hoe, hce⟩
  · simp only [Bool.false_eq_true, if_false]
    refine wpAny_bind ?_
    rw [← Array.forIn_toList]
    simp only [List.forIn_cons, List.forIn_nil]
    replace hz0 : IsZ g0 (N + 4) (N + 2) (N + 3) f0 f1 := hz0
    replace hs0 : Heap.SameBut (N + 4) hp g0 := hs0
    refine wpAny_bind (wpAny_bind (wpAny_holding ?_))
    show wpAny _ _ (Builtin.SmallTypes.nextOf (.ref N) >>= _) _ _ ⟨g0, g, d, tk0, os⟩
    refine wpAny_bind ((Draws.text hh N x1 t1).done ⟨g0, g, d, tk0, os⟩ _ _ (by rw [← l1]; exact (si_over st1 hs0 (show (N : Nat) ≠ (N + 4) by omega))) fun q e hq he => ?_)
    replace hq : Heap.ExtBut N g0 q := hq
    exact hE q tk0 e (fun c o c1 c2 cT cz x => hq _ _ c1 (hs0.extBut _ _ cz x)) he
end
/-! ### 3 -/
structure ZS3 (N : Nat) (x1 x2 x3 : Str) (t1 t2 t3 : Tok) (i : Nat) (h : Heap) : Prop where
  z : ∃ f0 f, IsZ h (N + 5) (N + 3) (N + 4) f0 f ∧ Own f0
  TI : IsTp h (N + 3) #[.ref N, .ref (N + 1), .ref (N + 2)]
  TO : ∃ a1 a2 a3, IsTp h (N + 4) #[a1, a2, a3]
  i1 : SI h N x1 t1 i
  i2 : SI h (N + 1) x2 t2 i
  i3 : SI h (N + 2) x3 t3 i
section
variable {prog : Program} {w : World} {A : Around} {E : Value → Shared → Prop} {s : Shared} {N i : Nat} {x1 x2 x3 : Str} {t1 t2 t3 : Tok}
theorem zs3_item {Q : Value → Shared → Prop} (hh : A.handled = none) (S : ZS3 N x1 x2 x3 t1 t2 t3 i s.heap) (l1 : i < x1.cps.size) (l2 : i < x2.cps.size) (l3 : i < x3.cps.size)
    (hQ : ∀ v1 v2 v3 h' tk, SG x1 i v1 → SG x2 i v2 → SG x3 i v3 → ZS3 N x1 x2 x3 t1 t2 t3 (i + 1) h' → IsTp h' s.heap.objs.size #[v1, v2, v3] → h'.objs.size = s.heap.objs.size + 1 → (∀ c o, c ≠ N → c ≠ (N + 1) → c ≠ (N + 2) → c ≠ (N + 4) → c ≠ (N + 5) → s.heap.get? c = some o → h'.get? c = some o) → Q (.ref s.heap.objs.size) { s with heap := h', toks := tk }) :
    wpAny (model prog w) A (Builtin.«zip.__next__» ⟨[.ref (N + 5)], []⟩) (fun fin s' => ∃ v, fin = .done (.ret v) ∧ Q v s') E s := by
  obtain ⟨hp, g, d, tk0, os⟩ := s
  obtain ⟨⟨f0, f, hz, ow⟩, hTI, ⟨a1, a2, a3, hTO⟩, st1, st2, st3⟩ := S
  show wpAny _ _ (field (.ref (N + 5)) 2 >>= _) _ _ _
  refine wpAny_bind (wpAny_field hz rfl (x := .bool false) rfl ?_)
  show wpAny _ _ (field (.ref (N + 5)) 3 >>= _) _ _ _
  refine wpAny_bind (wpAny_field hz rfl (x := .ref (N + 3)) rfl ?_)
  refine wpAny_bind (wpAny_seqItems hTI rfl ?_)
  show wpAny _ _ (Builtin.SmallTypes.ownedTupleIsFree (.ref (N + 5)) >>= _) _ _ _
  refine wpAny_bind (is_free hz ow ?_ fun g0 f1 hz0 hs0 => ?_)
  · simp only [if_true]
    refine wpAny_bind (wpAny_rule ?_)
    refine wpAny_bind (wpAny_field hz rfl (x := .ref (N + 4)) rfl ?_)
    refine wpAny_bind (wpAny_setField_rec hz (by simp) fun g0 hz0 hs0 => ?_)
    replace hz0 : IsZ g0 (N + 5) (N + 3) (N + 4) .ellipsis f := hz0
    replace hs0 : Heap.SameBut (N + 5) hp g0 := hs0
    refine wpAny_bind ?_
    simp only [List.zipIdx_cons, List.zipIdx_nil, List.forIn_cons, List.forIn_nil]
    have hT0 : IsTp g0 (N + 4) #[a1, a2, a3] := hs0.extBut _ _ (show ((N + 4) : Nat) ≠ (N + 5) by omega) hTO
    refine wpAny_bind (wpAny_bind (wpAny_onRaise ?_))
    show wpAny _ _ (Builtin.SmallTypes.nextOf (.ref N) >>= _) _ _ ⟨g0, g, d, tk0, os⟩
    refine wpAny_bind ((Draws.text hh N x1 t1).item i ⟨g0, g, d, tk0, os⟩ _ _ l1 (si_over st1 hs0 (show (N : Nat) ≠ (N + 5) by omega)) fun v1 p1 tk1 hx1 sn1 hp1 => wpAny_pure ?_)
    replace hp1 : Heap.SameBut N g0 p1 := hp1
    have hU1 : IsTp p1 (N + 4) #[a1, a2, a3] := hp1.extBut _ _ (show ((N + 4) : Nat) ≠ N by omega) hT0
    refine wpAny_bind (wpAny_seqItems (s := ⟨p1, g, d, tk1, os⟩) hU1 rfl ?_)
    refine wpAny_bind (up_tp (s := ⟨p1, g, d, tk1, os⟩) hU1 (by show 3 ≤ 3; decide) fun g1 hT1 hs1 => ?_)
    replace hT1 : IsTp g1 (N + 4) #[v1, a2, a3] := hT1
    replace hs1 : Heap.SameBut (N + 4) p1 g1 := hs1
    refine wpAny_bind (wpAny_letGo (wpAny_pure ?_))
    refine wpAny_bind (wpAny_bind (wpAny_onRaise ?_))
    show wpAny _ _ (Builtin.SmallTypes.nextOf (.ref (N + 1)) >>= _) _ _ ⟨g1, g, d, tk1, os⟩
    refine wpAny_bind ((Draws.text hh (N + 1) x2 t2).item i ⟨g1, g, d, tk1, os⟩ _ _ l2 (si_over (si_over (si_over st2 hs0 (show ((N + 1) : Nat) ≠ (N + 5) by omega)) hp1 (show ((N + 1) : Nat) ≠ N by omega)) hs1 (show ((N + 1) : Nat) ≠ (N + 4) by omega)) fun v2 p2 tk2 hx2 sn2 hp2 => wpAny_pure ?_)
    replace hp2 : Heap.SameBut (N + 1) g1 p2 := hp2
    have hU2 : IsTp p2 (N + 4) #[v1, a2, a3] := hp2.extBut _ _ (show ((N + 4) : Nat) ≠ (N + 1) by omega) hT1
    refine wpAny_bind (wpAny_seqItems (s := ⟨p2, g, d, tk2, os⟩) hU2 rfl ?_)
    refine wpAny_bind (up_tp (s := ⟨p2, g, d, tk2, os⟩) hU2 (by show 3 ≤ 3; decide) fun g2 hT2 hs2 => ?_)
    replace hT2 : IsTp g2 (N + 4) #[v1, v2, a3] := hT2
    replace hs2 : Heap.SameBut (N + 4) p2 g2 := hs2
    refine wpAny_bind (wpAny_letGo (wpAny_pure ?_))
    refine wpAny_bind (wpAny_bind (wpAny_onRaise ?_))
    show wpAny _ _ (Builtin.SmallTypes.nextOf (.ref (N + 2)) >>= _) _ _ ⟨g2, g, d, tk2, os⟩
    refine wpAny_bind ((Draws.text hh (N + 2) x3 t3).item i ⟨g2, g, d, tk2, os⟩ _ _ l3 (si_over (si_over (si_over (si_over (si_over st3 hs0 (show ((N + 2) : Nat) ≠ (N + 5) by omega)) hp1 (show ((N + 2) : Nat) ≠ N by omega)) hs1 (show ((N + 2) : Nat) ≠ (N + 4) by omega)) hp2 (show ((N + 2) : Nat) ≠ (N + 1) by omega)) hs2 (show ((N + 2) : Nat) ≠ (N + 4) by omega)) fun v3 p3 tk3 hx3 sn3 hp3 => wpAny_pure ?_)
    replace hp3 : Heap.SameBut (N + 2) g2 p3 := hp3
    have hU3 : IsTp p3 (N + 4) #[v1, v2, a3] := hp3.extBut _ _ (show ((N + 4) : Nat) ≠ (N + 2) by omega) hT2
    refine wpAny_bind (wpAny_seqItems (s := ⟨p3, g, d, tk3, os⟩) hU3 rfl ?_)
    refine wpAny_bind (up_tp (s := ⟨p3, g, d, tk3, os⟩) hU3 (by show 3 ≤ 3; decide) fun g3 hT3 hs3 => ?_)
    replace hT3 : IsTp g3 (N + 4) #[v1, v2, v3] := hT3
    replace hs3 : Heap.SameBut (N + 4) p3 g3 := hs3
    refine wpAny_bind (wpAny_letGo (wpAny_pure (wpAny_pure ?_)))
    refine wpAny_bind (wpAny_seqItems (s := ⟨g3, g, d, tk3, os⟩) hT3 rfl ?_)
    refine wpAny_bind (wpAny_newTuple ?_)
    have hsz : g3.objs.size = hp.objs.size := by rw [hs3.1, hp3.1, hs2.1, hp2.1, hs1.1, hp1.1, hs0.1]
    have hzz : IsZ g3 (N + 5) (N + 3) (N + 4) .ellipsis f := (hs3.extBut _ _ (show ((N + 5) : Nat) ≠ (N + 4) by omega) (hp3.extBut _ _ (show ((N + 5) : Nat) ≠ (N + 2) by omega) (hs2.extBut _ _ (show ((N + 5) : Nat) ≠ (N + 4) by omega) (hp2.extBut _ _ (show ((N + 5) : Nat) ≠ (N + 1) by omega) (hs1.extBut _ _ (show ((N + 5) : Nat) ≠ (N + 4) by omega) (hp1.extBut _ _ (show ((N + 5) : Nat) ≠ N by omega) hz0))))))
    have hti : IsTp g3 (N + 3) #[.ref N, .ref (N + 1), .ref (N + 2)] := (hs3.extBut _ _ (show ((N + 3) : Nat) ≠ (N + 4) by omega) (hp3.extBut _ _ (show ((N + 3) : Nat) ≠ (N + 2) by omega) (hs2.extBut _ _ (show ((N + 3) : Nat) ≠ (N + 4) by omega) (hp2.extBut _ _ (show ((N + 3) : Nat) ≠ (N + 1) by omega) (hs1.extBut _ _ (show ((N + 3) : Nat) ≠ (N + 4) by omega) (hp1.extBut _ _ (show ((N + 3) : Nat) ≠ N by omega) (hs0.extBut _ _ (show ((N + 3) : Nat) ≠ (N + 5) by omega) hTI)))))))
    have hkk : ∀ c o, c ≠ N → c ≠ (N + 1) → c ≠ (N + 2) → c ≠ (N + 4) → c ≠ (N + 5) → hp.get? c = some o → g3.get? c = some o := fun c o c1 c2 c3 cT cz e => (hs3.extBut _ _ cT (hp3.extBut _ _ c3 (hs2.extBut _ _ cT (hp2.extBut _ _ c2 (hs1.extBut _ _ cT (hp1.extBut _ _ c1 (hs0.extBut _ _ cz e)))))))
    have hj1 : SI g3 N x1 t1 (i + 1) := (si_over (si_over (si_over (si_over (si_over sn1 hs1 (show (N : Nat) ≠ (N + 4) by omega)) hp2 (show (N : Nat) ≠ (N + 1) by omega)) hs2 (show (N : Nat) ≠ (N + 4) by omega)) hp3 (show (N : Nat) ≠ (N + 2) by omega)) hs3 (show (N : Nat) ≠ (N + 4) by omega))
    have hj2 : SI g3 (N + 1) x2 t2 (i + 1) := (si_over (si_over (si_over sn2 hs2 (show ((N + 1) : Nat) ≠ (N + 4) by omega)) hp3 (show ((N + 1) : Nat) ≠ (N + 2) by omega)) hs3 (show ((N + 1) : Nat) ≠ (N + 4) by omega))
    have hj3 : SI g3 (N + 2) x3 t3 (i + 1) := (si_over sn3 hs3 (show ((N + 2) : Nat) ≠ (N + 4) by omega))
    have hzlt : (N + 5) < g3.objs.size := Heap.lt_size hzz
    show wpAny _ _ (Builtin.SmallTypes.ownedTupleHandOut (.ref (N + 5)) (.ref g3.objs.size) >>= _) _ _ ⟨g3.push { cls := .type "tuple", data := .seq #[v1, v2, v3] }, g, d, tk3, os⟩
    refine wpAny_bind ?_
    unfold Builtin.SmallTypes.ownedTupleHandOut
    have hz₆ : IsZ (g3.push { cls := .type "tuple", data := .seq #[v1, v2, v3] }) (N + 5) (N + 3) (N + 4) .ellipsis f := Heap.get?_push_of_some _ hzz
    refine wpAny_bind (wpAny_setField_rec hz₆ (by simp) fun h₇ hz₇ hs₇ => ?_)
    replace hz₇ : IsZ h₇ (N + 5) (N + 3) (N + 4) (rawInt g3.objs.size) f := hz₇
    refine wpAny_setField_rec hz₇ (by simp) fun h₈ hz₈ hs₈ => ?_
    replace hz₈ : IsZ h₈ (N + 5) (N + 3) (N + 4) (rawInt g3.objs.size) false := hz₈
    replace hs₇ : Heap.SameBut (N + 5) (g3.push { cls := .type "tuple", data := .seq #[v1, v2, v3] }) h₇ := hs₇
    replace hs₈ : Heap.SameBut (N + 5) h₇ h₈ := hs₈
    have up : ∀ c o, c ≠ (N + 5) → g3.get? c = some o → h₈.get? c = some o := fun c o c1 e => hs₈.extBut _ _ c1 (hs₇.extBut _ _ c1 (Heap.get?_push_of_some _ e))
    have hT₈ : IsTp h₈ g3.objs.size #[v1, v2, v3] := hs₈.extBut _ _ (Nat.ne_of_gt hzlt) (hs₇.extBut _ _ (Nat.ne_of_gt hzlt) (Heap.get?_push_size _ rfl))
    have hz8 : h₈.objs.size = g3.objs.size + 1 := by rw [hs₈.1, hs₇.1, Heap.size_push]
    have fin : ZS3 N x1 x2 x3 t1 t2 t3 (i + 1) h₈ := ⟨⟨_, _, hz₈, .inr ⟨_, rfl⟩⟩, up _ _ (show ((N + 3) : Nat) ≠ (N + 5) by omega) hti, ⟨v1, v2, v3, up _ _ (show ((N + 4) : Nat) ≠ (N + 5) by omega) hT3⟩, si_over (si_over (si_push hj1) hs₇ (show (N : Nat) ≠ (N + 5) by omega)) hs₈ (show (N : Nat) ≠ (N + 5) by omega), si_over (si_over (si_push hj2) hs₇ (show ((N + 1) : Nat) ≠ (N + 5) by omega)) hs₈ (show ((N + 1) : Nat) ≠ (N + 5) by omega), si_over (si_over (si_push hj3) hs₇ (show ((N + 2) : Nat) ≠ (N + 5) by omega)) hs₈ (show ((N + 2) : Nat) ≠ (N + 5) by omega)⟩
    rw [hsz] at hT₈ hz8
    refine wpAny_pure ⟨_, rfl, ?_⟩
    show Q (.ref g3.objs.size) ⟨h₈, g, d, tk3, os⟩
    rw [hsz]
    exact hQ v1 v2 v3 h₈ tk3 hx1 hx2 hx3 fin hT₈ hz8 fun c o c1 c2 c3 cT cz e => up c o cz (hkk c o c1 c2 c3 cT cz e)
  · simp only [Bool.false_eq_true, if_false]
    refine wpAny_bind ?_
    rw [← Array.forIn_toList]
    simp only [List.forIn_cons, List.forIn_nil]
    replace hz0 : IsZ g0 (N + 5) (N + 3) (N + 4) f0 f1 := hz0
    replace hs0 : Heap.SameBut (N + 5) hp g0 := hs0
    refine wpAny_bind (wpAny_bind (wpAny_holding ?_))
    show wpAny _ _ (Builtin.SmallTypes.nextOf (.ref N) >>= _) _ _ ⟨g0, g, d, tk0, os⟩
    refine wpAny_bind ((Draws.text hh N x1 t1).item i ⟨g0, g, d, tk0, os⟩ _ _ l1 (si_over st1 hs0 (show (N : Nat) ≠ (N + 5) by omega)) fun v1 p1 tk1 hx1 sn1 hp1 => wpAny_pure ?_)
    replace hp1 : Heap.SameBut N g0 p1 := hp1
    refine wpAny_pure ?_
    refine wpAny_bind (wpAny_bind (wpAny_holding ?_))
    show wpAny _ _ (Builtin.SmallTypes.nextOf (.ref (N + 1)) >>= _) _ _ ⟨p1, g, d, tk1, os⟩
    refine wpAny_bind ((Draws.text hh (N + 1) x2 t2).item i ⟨p1, g, d, tk1, os⟩ _ _ l2 (si_over (si_over st2 hs0 (show ((N + 1) : Nat) ≠ (N + 5) by omega)) hp1 (show ((N + 1) : Nat) ≠ N by omega)) fun v2 p2 tk2 hx2 sn2 hp2 => wpAny_pure ?_)
    replace hp2 : Heap.SameBut (N + 1) p1 p2 := hp2
    refine wpAny_pure ?_
    refine wpAny_bind (wpAny_bind (wpAny_holding ?_))
    show wpAny _ _ (Builtin.SmallTypes.nextOf (.ref (N + 2)) >>= _) _ _ ⟨p2, g, d, tk2, os⟩
    refine wpAny_bind ((Draws.text hh (N + 2) x3 t3).item i ⟨p2, g, d, tk2, os⟩ _ _ l3 (si_over (si_over (si_over st3 hs0 (show ((N + 2) : Nat) ≠ (N + 5) by omega)) hp1 (show ((N + 2) : Nat) ≠ N by omega)) hp2 (show ((N + 2) : Nat) ≠ (N + 1) by omega)) fun v3 p3 tk3 hx3 sn3 hp3 => wpAny_pure ?_)
    replace hp3 : Heap.SameBut (N + 2) p2 p3 := hp3
    refine wpAny_pure (wpAny_pure ?_)
    show wpAny _ _ (newTuple [v1, v2, v3] >>= _) _ _ ⟨p3, g, d, tk3, os⟩
    refine wpAny_bind (wpAny_newTuple ?_)
    have hsz : p3.objs.size = hp.objs.size := by rw [hp3.1, hp2.1, hp1.1, hs0.1]
    have hzz : IsZ p3 (N + 5) (N + 3) (N + 4) f0 f1 := (hp3.extBut _ _ (show ((N + 5) : Nat) ≠ (N + 2) by omega) (hp2.extBut _ _ (show ((N + 5) : Nat) ≠ (N + 1) by omega) (hp1.extBut _ _ (show ((N + 5) : Nat) ≠ N by omega) hz0)))
    have hti : IsTp p3 (N + 3) #[.ref N, .ref (N + 1), .ref (N + 2)] := (hp3.extBut _ _ (show ((N + 3) : Nat) ≠ (N + 2) by omega) (hp2.extBut _ _ (show ((N + 3) : Nat) ≠ (N + 1) by omega) (hp1.extBut _ _ (show ((N + 3) : Nat) ≠ N by omega) (hs0.extBut _ _ (show ((N + 3) : Nat) ≠ (N + 5) by omega) hTI))))
    have hto : IsTp p3 (N + 4) #[a1, a2, a3] := (hp3.extBut _ _ (show ((N + 4) : Nat) ≠ (N + 2) by omega) (hp2.extBut _ _ (show ((N + 4) : Nat) ≠ (N + 1) by omega) (hp1.extBut _ _ (show ((N + 4) : Nat) ≠ N by omega) (hs0.extBut _ _ (show ((N + 4) : Nat) ≠ (N + 5) by omega) hTO))))
    have hkk : ∀ c o, c ≠ N → c ≠ (N + 1) → c ≠ (N + 2) → c ≠ (N + 4) → c ≠ (N + 5) → hp.get? c = some o → p3.get? c = some o := fun c o c1 c2 c3 cT cz e => (hp3.extBut _ _ c3 (hp2.extBut _ _ c2 (hp1.extBut _ _ c1 (hs0.extBut _ _ cz e))))
    have hj1 : SI p3 N x1 t1 (i + 1) := (si_over (si_over sn1 hp2 (show (N : Nat) ≠ (N + 1) by omega)) hp3 (show (N : Nat) ≠ (N + 2) by omega))
    have hj2 : SI p3 (N + 1) x2 t2 (i + 1) := (si_over sn2 hp3 (show ((N + 1) : Nat) ≠ (N + 2) by omega))
    have hj3 : SI p3 (N + 2) x3 t3 (i + 1) := sn3
    refine wpAny_pure ⟨_, rfl, ?_⟩
    show Q (.ref p3.objs.size) ⟨p3.push { cls := .type "tuple", data := .seq #[v1, v2, v3] }, g, d, tk3, os⟩
    have hnt : IsTp (p3.push { cls := .type "tuple", data := .seq #[v1, v2, v3] }) p3.objs.size #[v1, v2, v3] := Heap.get?_push_size _ rfl
    have hz4 : (p3.push { cls := .type "tuple", data := .seq #[v1, v2, v3] }).objs.size = p3.objs.size + 1 := Heap.size_push ..
    rw [hsz] at hnt hz4 ⊢
    exact hQ v1 v2 v3 _ tk3 hx1 hx2 hx3 ⟨⟨f0, f1, Heap.get?_push_of_some _ hzz, ow⟩, Heap.get?_push_of_some _ hti, ⟨a1, a2, a3, Heap.get?_push_of_some _ hto⟩, si_push hj1, si_push hj2, si_push hj3⟩ hnt hz4 fun c o c1 c2 c3 cT cz e => Heap.get?_push_of_some _ (hkk c o c1 c2 c3 cT cz e)
theorem zs3_end {Q : Fin → Shared → Prop} (hh : A.handled = none) (S : ZS3 N x1 x2 x3 t1 t2 t3 i s.heap) (l1 : i = x1.cps.size)
    (hE : ∀ h' tk e, (∀ c o, c ≠ N → c ≠ (N + 1) → c ≠ (N + 2) → c ≠ (N + 4) → c ≠ (N + 5) → s.heap.get? c = some o → h'.get? c = some o) → (∃ o, h'.get? e = some o ∧ o.cls = .type "StopIteration") → E (.ref e) { s with heap := h', toks := tk }) :
    wpAny (model prog w) A (Builtin.«zip.__next__» ⟨[.ref (N + 5)], []⟩) Q E s := by
  obtain ⟨hp, g, d, tk0, os⟩ := s
  obtain ⟨⟨f0, f, hz, ow⟩, hTI, ⟨a1, a2, a3, hTO⟩, st1, st2, st3⟩ := S
  show wpAny _ _ (field (.ref (N + 5)) 2 >>= _) _ _ _
  refine wpAny_bind (wpAny_field hz rfl (x := .bool false) rfl ?_)
  show wpAny _ _ (field (.ref (N + 5)) 3 >>= _) _ _ _
  refine wpAny_bind (wpAny_field hz rfl (x := .ref (N + 3)) rfl ?_)
  refine wpAny_bind (wpAny_seqItems hTI rfl ?_)
  show wpAny _ _ (Builtin.SmallTypes.ownedTupleIsFree (.ref (N + 5)) >>= _) _ _ _
  refine wpAny_bind (is_free hz ow ?_ fun g0 f1 hz0 hs0 => ?_)
  · simp only [if_true]
    refine wpAny_bind (wpAny_rule ?_)
    refine wpAny_bind (wpAny_field hz rfl (x := .ref (N + 4)) rfl ?_)
    refine wpAny_bind (wpAny_setField_rec hz (by simp) fun g0 hz0 hs0 => ?_)
    replace hz0 : IsZ g0 (N + 5) (N + 3) (N + 4) .ellipsis f := hz0
    replace hs0 : Heap.SameBut (N + 5) hp g0 := hs0
    refine wpAny_bind ?_
    simp only [List.zipIdx_cons, List.zipIdx_nil, List.forIn_cons, List.forIn_nil]
    refine wpAny_bind (wpAny_bind (wpAny_onRaise ?_))
    show wpAny _ _ (Builtin.SmallTypes.nextOf (.ref N) >>= _) _ _ ⟨g0, g, d, tk0, os⟩
    refine wpAny_bind ((Draws.text hh N x1 t1).done ⟨g0, g, d, tk0, os⟩ _ _ (by rw [← l1]; exact (si_over st1 hs0 (show (N : Nat) ≠ (N + 5) by omega))) fun q e hq he => ?_)
    replace hq : Heap.ExtBut N g0 q := hq
    obtain ⟨oe, hoe, hce⟩ := he
    replace hoe : q.get? e = some oe := hoe
    have hzq : IsZ q (N + 5) (N + 3) (N + 4) .ellipsis f := hq _ _ (show ((N + 5) : Nat) ≠ N by omega) hz0
    have hez : e ≠ (N + 5) := fun x => by subst x; rw [hzq] at hoe; cases hoe; simp at hce
    refine wpAny_setField_rec (s := ⟨q, g, d, tk0, os⟩) hzq (by simp) fun q' _ hq' => ?_
    replace hq' : Heap.SameBut (N + 5) q q' := hq'
    exact hE q' tk0 e (fun c o c1 c2 c3 cT cz x => hq'.extBut _ _ cz (hq _ _ c1 (hs0.extBut _ _ cz x))) ⟨oe, hq'.extBut _ _ hez hoe, hce⟩
  · simp only [Bool.false_eq_true, if_false]
    refine wpAny_bind ?_
    rw [← Array.forIn_toList]
    simp only [List.forIn_cons, List.forIn_nil]
    replace hz0 : IsZ g0 (N + 5) (N + 3) (N + 4) f0 f1 := hz0
    replace hs0 : Heap.SameBut (N + 5) hp g0 := hs0
    refine wpAny_bind (wpAny_bind (wpAny_holding ?_))
    show wpAny _ _ (Builtin.SmallTypes.nextOf (.ref N) >>= _) _ _ ⟨g0, g, d, tk0, os⟩
    refine wpAny_bind ((Draws.text hh N x1 t1).done ⟨g0, g, d, tk0, os⟩ _ _ (by rw [← l1]; exact (si_over st1 hs0 (show (N : Nat) ≠ (N + 5) by omega))) fun q e hq he => ?_)
    replace hq : Heap.ExtBut N g0 q := hq
    exact hE q tk0 e (fun c o c1 c2 c3 cT cz x => hq _ _ c1 (hs0.extBut _ _ cz x)) he
end
end Gd
namespace Gd
open PySem L2 PyProof.Rows
theorem wpAny_pyIter_zipS {prog : Program} {w : World} {A : Around} {E : Value → Shared → Prop} {s : Shared} {z TI TO : Addr} {f0 : Value} {f : Bool} {Q : Value → Shared → Prop} (hz : IsZ s.heap z TI TO f0 f) (h : Q (.ref z) s) : wpAny (model prog w) A (pyIter (.ref z)) Q E s := by
  have hT : s.TypeIs (.ref z) "zip" := ⟨_, hz, rfl⟩
  refine wpAny_pyIter_slot hT F.slot_zip_iter (wpAny_call_entry F.slot_zip_iter hT F.entry_zip_iter ?_ (F.args_zip_iter_1 _))
  show wpAny _ _ (ret (.ref z)) _ _ s
  exact wpAny_pure ⟨_, rfl, "zip", _, hT, F.slot_zip_next.lookup, h⟩
theorem zt0 : checkTypeCall "zip" ⟨[], []⟩ = pure () := by kernel_rfl
theorem zn0 : checkBuiltinCall "zip.__new__" ⟨[.type "zip"], []⟩ = pure () := by kernel_rfl
theorem zt1 (a : Value) : checkTypeCall "zip" ⟨[a], []⟩ = pure () := by kernel_rfl
theorem zn1 (a : Value) : checkBuiltinCall "zip.__new__" ⟨[.type "zip", a], []⟩ = pure () := by kernel_rfl
abbrev tpO (vs : Array Value) : Obj := { cls := .type "tuple", data := .seq vs }
abbrev zpO (TI TO : Addr) : Obj := { cls := .type "zip", data := .fields #[.none, .bool false, .bool false, .ref TI, .ref TO] }
abbrev gz0 (h : Heap) : Heap := ((h.push (tpO #[])).push (tpO #[])).push (zpO h.objs.size (h.push (tpO #[])).objs.size)
theorem meets_zip_newB0 : Meets (Builtin.«zip.__new__» ⟨[.type "zip"], []⟩) (fun _ R s => R (.ok (.ret (.ref ((s.heap.push (tpO #[])).push (tpO #[])).objs.size))) { s with heap := gz0 s.heap }) :=
  .of_wp fun prog w A R s h => by
    obtain ⟨hp, g, d, tk, os⟩ := s
    have hsub := sub_zip
    wp_walk
    exact ⟨_, rfl, h⟩
abbrev gzT1 (h : Heap) (o1 : Obj) : Heap := (h.push o1).push (tpO #[.ref h.objs.size])
abbrev gzO1 (h : Heap) (o1 : Obj) : Heap := (gzT1 h o1).push (tpO #[.none])
abbrev gzZ1 (h : Heap) (o1 : Obj) : Heap := (gzO1 h o1).push (zpO (h.push o1).objs.size (gzT1 h o1).objs.size)
theorem meets_zip_newB1 {v1 : Value} {o1 : Obj} {H1 : Heap → Prop} (B1 : Begins v1 o1 H1) : Meets (Builtin.«zip.__new__» ⟨[.type "zip", v1], []⟩) (fun _ R s => H1 s.heap ∧ R (.ok (.ret (.ref (gzO1 s.heap o1).objs.size))) { s with heap := gzZ1 s.heap o1 }) :=
  .of_wp fun prog w A R s h => by
    obtain ⟨hp, g, d, tk, os⟩ := s; obtain ⟨h1, h⟩ := h
    have hsub := sub_zip
    have q1 : ∀ {A' : Around} {E : Value → Shared → Prop} {Q : Value → Shared → Prop}, Q (.ref hp.objs.size) ⟨(hp.push o1), g, d, tk, os⟩ → wpAny (model prog w) A' (pyIter v1) Q E ⟨hp, g, d, tk, os⟩ :=
      fun q => B1.iter prog w _ _ ⟨hp, g, d, tk, os⟩ _ h1 q
    wp_walk using q1
    exact ⟨_, rfl, h⟩
section
variable {prog : Program} {w : World} {A : Around} {E : Value → Shared → Prop} {s : Shared}
structure ZS0 (N : Nat) (i : Nat) (h : Heap) : Prop where
  z : IsZ h (N + 2) N (N + 1) .none false
  TI : IsTp h N #[]
  TO : IsTp h (N + 1) #[]
theorem zip_beg0 {Q : Value → Shared → Prop} (h : ∀ h', ZS0 s.heap.objs.size 0 h' → (∀ c o, s.heap.get? c = some o → h'.get? c = some o) → Q (.ref (s.heap.objs.size + 2)) { s with heap := h' }) :
    wpAny (model prog w) A (call (.type "zip") []) Q E s := by
  refine callType_new F.called_zip (by decide) zt0 zn0 (fun obj => F.args_object_init_1 obj) F.entry_zip_new meets_zip_newB0 ?_
  have z1 : (s.heap.push (tpO #[])).objs.size = s.heap.objs.size + 1 := by rw [Heap.size_push]
  have z2 : ((s.heap.push (tpO #[])).push (tpO #[])).objs.size = s.heap.objs.size + 2 := by rw [Heap.size_push, z1]
  have gZ : (gz0 s.heap).get? ((s.heap.push (tpO #[])).push (tpO #[])).objs.size = some (zpO s.heap.objs.size (s.heap.push (tpO #[])).objs.size) := Heap.get?_push_size _ rfl
  have gO : (gz0 s.heap).get? (s.heap.push (tpO #[])).objs.size = some (tpO #[]) := Heap.get?_push_of_some _ (Heap.get?_push_size _ rfl)
  have gT : (gz0 s.heap).get? s.heap.objs.size = some (tpO #[]) := Heap.get?_push_of_some _ (Heap.get?_push_of_some _ (Heap.get?_push_size _ rfl))
  rw [z2, z1] at gZ
  rw [z1] at gO
  show _ ∧ _
  rw [z2]
  exact ⟨⟨_, gZ, rfl⟩, h _ ⟨gZ, gT, gO⟩ fun c o e => Heap.get?_push_of_some _ (Heap.get?_push_of_some _ (Heap.get?_push_of_some _ e))⟩
theorem zip_beg1 {x1 : Str} {t1 : Tok} {Q : Value → Shared → Prop} (h : ∀ h', ZS1 s.heap.objs.size x1 t1 0 h' → (∀ c o, s.heap.get? c = some o → h'.get? c = some o) → Q (.ref (s.heap.objs.size + 3)) { s with heap := h' }) :
    wpAny (model prog w) A (call (.type "zip") [.str x1 t1]) Q E s := by
  refine callType_new F.called_zip (by decide) (zt1 _) (zn1 _) (fun obj => F.args_object_init_2 obj _) F.entry_zip_new (meets_zip_newB1 (begins_text x1 t1)) ⟨trivial, ?_⟩
  generalize ho1 : ({ cls := .type (strIterType x1), data := .fields #[.str x1 t1, .int 0 0] } : Obj) = o1
  have hf : o1.isFreed = false := by rw [← ho1]; rfl
  have z1 : (s.heap.push o1).objs.size = s.heap.objs.size + 1 := by rw [Heap.size_push]
  have zT : (gzT1 s.heap o1).objs.size = s.heap.objs.size + 2 := by rw [Heap.size_push, z1]
  have zO : (gzO1 s.heap o1).objs.size = s.heap.objs.size + 3 := by rw [Heap.size_push, zT]
  have gZ : (gzZ1 s.heap o1).get? (gzO1 s.heap o1).objs.size = some (zpO (s.heap.push o1).objs.size (gzT1 s.heap o1).objs.size) := Heap.get?_push_size _ rfl
  have gO : (gzZ1 s.heap o1).get? (gzT1 s.heap o1).objs.size = some (tpO #[.none]) := Heap.get?_push_of_some _ (Heap.get?_push_size _ rfl)
  have gT : (gzZ1 s.heap o1).get? (s.heap.push o1).objs.size = some (tpO #[.ref s.heap.objs.size]) := Heap.get?_push_of_some _ (Heap.get?_push_of_some _ (Heap.get?_push_size _ rfl))
  have g1 : (gzZ1 s.heap o1).get? s.heap.objs.size = some o1 := Heap.get?_push_of_some _ (Heap.get?_push_of_some _ (Heap.get?_push_of_some _ (Heap.get?_push_size _ hf)))
  rw [zO, zT, z1] at gZ
  rw [zT] at gO
  rw [z1] at gT
  subst ho1
  show _ ∧ _
  rw [zO]
  exact ⟨⟨_, gZ, rfl⟩, h _ ⟨⟨_, _, gZ, .inl rfl⟩, gT, ⟨_, gO⟩, ⟨_, g1, rfl, rfl⟩⟩ fun c o e => Heap.get?_push_of_some _ (Heap.get?_push_of_some _ (Heap.get?_push_of_some _ (Heap.get?_push_of_some _ e)))⟩
theorem zip_beg2 {x1 x2 : Str} {t1 t2 : Tok} {Q : Value → Shared → Prop} (h : ∀ h', ZS2 s.heap.objs.size x1 x2 t1 t2 0 h' → (∀ c o, s.heap.get? c = some o → h'.get? c = some o) → Q (.ref (s.heap.objs.size + 4)) { s with heap := h' }) :
    wpAny (model prog w) A (call (.type "zip") [.str x1 t1, .str x2 t2]) Q E s :=
  zip_begins2 (begins_text x1 t1) (begins_text x2 t2) trivial trivial fun h' a1 a2 a3 a4 a5 a6 a7 => h h' ⟨⟨_, _, a1, .inl rfl⟩, a2, ⟨_, _, a3⟩, ⟨_, a4, rfl, rfl⟩, ⟨_, a5, rfl, rfl⟩⟩ a7
theorem zip_beg3 {x1 x2 x3 : Str} {t1 t2 t3 : Tok} {Q : Value → Shared → Prop} (h : ∀ h', ZS3 s.heap.objs.size x1 x2 x3 t1 t2 t3 0 h' → (∀ c o, s.heap.get? c = some o → h'.get? c = some o) → Q (.ref (s.heap.objs.size + 5)) { s with heap := h' }) :
    wpAny (model prog w) A (call (.type "zip") [.str x1 t1, .str x2 t2, .str x3 t3]) Q E s :=
  zip_begins3 (begins_text x1 t1) (begins_text x2 t2) (begins_text x3 t3) trivial trivial trivial fun h' a1 a2 a3 a4 a5 a6 a7 a8 => h h' ⟨⟨_, _, a1, .inl rfl⟩, a2, ⟨_, _, _, a3⟩, ⟨_, a4, rfl, rfl⟩, ⟨_, a5, rfl, rfl⟩, ⟨_, a6, rfl, rfl⟩⟩ a8
theorem zs0_end {N i : Nat} {Q : Fin → Shared → Prop} (hh : A.handled = none) (S : ZS0 N i s.heap)
    (hE : ∀ h' e, (∀ c o, s.heap.get? c = some o → h'.get? c = some o) → (∃ o, h'.get? e = some o ∧ o.cls = .type "StopIteration") → E (.ref e) { s with heap := h' }) :
    wpAny (model prog w) A (Builtin.«zip.__next__» ⟨[.ref (N + 2)], []⟩) Q E s := by
  obtain ⟨hz, hTI, hTO⟩ := S
  show wpAny _ _ (field (.ref (N + 2)) 2 >>= _) _ _ _
  refine wpAny_bind (wpAny_field hz rfl (x := .bool false) rfl ?_)
  show wpAny _ _ (field (.ref (N + 2)) 3 >>= _) _ _ _
  refine wpAny_bind (wpAny_field hz rfl (x := .ref N) rfl ?_)
  refine wpAny_bind (wpAny_seqItems hTI rfl ?_)
  refine wpAny_bind (wpAny_rule ?_)
  unfold Builtin.SmallTypes.stopIteration
  refine wpAny_bind ?_
  show wpAny _ _ (newExc (.type "StopIteration") [] >>= _) _ _ _
  refine wpAny_bind ?_
  simp only [newExc, newTuple]
  refine wpAny_bind (wpAny_newObj_type ?_ (by size_fits))
  refine wpAny_bind (m := firstArgMember _ _) (wpAny_of_eq (a := Value.none) (by first | rfl | (simp only [firstArgMember]; rfl)) ?_)
  refine wpAny_newObj_type ?_ (by size_fits)
  simp only [raiseNew]
  refine wpAny_bind (wpAny_handled ?_)
  rw [hh]
  refine wpAny_bind (wpAny_pure (wpAny_throw ?_))
  exact hE _ _ (fun c o e => Heap.get?_push_of_some _ (Heap.get?_push_of_some _ e)) ⟨_, Heap.get?_push_size _ rfl, rfl⟩
end
/-- the i-th sign -/
def sgn (i : Nat) (x : Str) : V := .str ⟨#[x.cps.getD i 0]⟩
theorem sg_rel {x : Str} {i : Nat} {v : Value} (h : SG x i v) : RelV (sgn i x) v := by
  obtain ⟨c, u, e, rfl⟩ := h
  refine ⟨u, ?_⟩
  show Value.str ⟨#[c]⟩ u = Value.str ⟨#[x.cps.getD i 0]⟩ u
  rw [Array.getD_eq_getD_getElem?, e]
  rfl
/-- zip of texts of one length -/
def ItzS (ws : List Str) : It :=
  ⟨fun i _ => ∃ x rest, ws = x :: rest ∧ i < x.cps.size, fun i H v H' => ∃ T, v = .ref T ∧ H T = none ∧ H' = upd H T (.tup (ws.map (sgn i))), fun i _ => ∀ x, x ∈ ws → i = x.cps.size⟩
theorem turn_zipS0 {P : Program} {w : World} {K : PySem.W.Frag} {nm : Str} {np : Pos} {N : Nat} : Turn P w K (.Name nm np) (ItzS []) [N, N + 1, N + 2] (N + 2) (ZS0 N) where
  mem := by simp
  obj := fun i h st c hc => by
    have e' : c = N ∨ c = N + 1 ∨ c = N + 2 := by simpa using hc
    rcases e' with q | q | q
    · rw [q]; exact ⟨_, st.TI, fun v q => nomatch q⟩
    · rw [q]; exact ⟨_, st.TO, fun v q => nomatch q⟩
    · rw [q]; exact ⟨_, st.z, fun v q => nomatch q⟩
  keep := fun i h h' st k => ⟨k _ (by simp) _ st.z, k _ (by simp) _ st.TI, k _ (by simp) _ st.TO⟩
  item := by
    intro X hP hw hK hc i pins s σ H E I hf st hg
    obtain ⟨x, rest, e, _⟩ := hg
    cases e
  done := by
    intro X hP hw hK hc i pins s σ H E I hf st hg
    subst hP hw hK
    have hT : s.TypeIs (.ref (N + 2)) "zip" := ⟨_, st.z, rfl⟩
    unfold pyNext
    refine wpAny_bind (wpAny_attempt (wpAny_callSpecial?_slot (name := Str.ofString "__next__") hT F.slot_zip_next
      (wpAny_call_entry F.slot_zip_next hT F.entry_zip_next (zs0_end (show X.A.in1.handled = none from I.ok.hd hc) st fun h' e hk he => ?_) (F.args_zip_next_1 _))))
    obtain ⟨o, ho, hc⟩ := he
    refine wpAny_bind (wpAny_isInstance (T := "StopIteration") (b := true) ⟨o, ho, hc⟩ isSubtype_stop ?_)
    exact wpAny_pure ⟨rfl, I.turnedL (t' := s.toks) (ch := [N, N + 1, N + 2]) (fun c o hb q => hk c o q) hf⟩
  self := fun A i s Q E st h => wpAny_pyIter_zipS st.z h

theorem turn_zipS1 {P : Program} {w : World} {K : PySem.W.Frag} {nm : Str} {np : Pos} {N : Nat} {x1 : Str} {t1 : Tok}  : Turn P w K (.Name nm np) (ItzS [x1]) [N, N + 1, N + 2, N + 3] (N + 3) (ZS1 N x1 t1) where
  mem := by simp
  obj := fun i h st c hc => by
    obtain ⟨⟨f0, f, hz, _⟩, hTI, ⟨a1, hTO⟩, ⟨o1, g1, _, d1⟩⟩ := st
    have e' : c = N ∨ c = N + 1 ∨ c = N + 2 ∨ c = N + 3 := by simpa using hc
    rcases e' with q | q | q | q
    · rw [q]; exact ⟨o1, g1, fun v q => by rw [d1] at q; cases q⟩
    · rw [q]; exact ⟨_, hTI, fun v q => nomatch q⟩
    · rw [q]; exact ⟨_, hTO, fun v q => nomatch q⟩
    · rw [q]; exact ⟨_, hz, fun v q => nomatch q⟩
  keep := fun i h h' st k => by
    obtain ⟨⟨f0, f, hz, ow⟩, hTI, ⟨a1, hTO⟩, ⟨o1, g1, r1⟩⟩ := st
    exact ⟨⟨f0, f, k _ (by simp) _ hz, ow⟩, k _ (by simp) _ hTI, ⟨a1, k _ (by simp) _ hTO⟩, ⟨o1, k _ (by simp) _ g1, r1⟩⟩
  item := by
    intro X hP hw hK hc i pins s σ H E I hf st hg
    subst hP hw hK
    obtain ⟨x, rest, e, hi⟩ := hg
    cases e
    have hT : s.TypeIs (.ref (N + 3)) "zip" := by obtain ⟨f0, f, hz, _⟩ := st.z; exact ⟨_, hz, rfl⟩
    have hzl : ∀ c, c ∈ ([N, N + 1, N + 2, N + 3] : List Addr) → c < s.heap.objs.size := fun c hc => by
      obtain ⟨⟨f0, f, hz, _⟩, hTI, ⟨a1, hTO⟩, ⟨o1, g1, _, d1⟩⟩ := st
      have := Heap.lt_size hz
      have e' : c = N ∨ c = N + 1 ∨ c = N + 2 ∨ c = N + 3 := by simpa using hc
      have t : (N + 3) < s.heap.objs.size := this
      rcases e' with q | q | q | q <;> (rw [q]; show (_ : Nat) < _; omega)
    unfold pyNext
    refine wpAny_bind (wpAny_attempt (wpAny_callSpecial?_slot (name := Str.ofString "__next__") hT F.slot_zip_next
      (wpAny_call_entry F.slot_zip_next hT F.entry_zip_next (zs1_item (show X.A.in1.handled = none from I.ok.hd hc) st hi fun v1 h' tk y1 st' hnew hsz hk => ?_) (F.args_zip_next_1 _))))
    refine wpAny_pure ⟨_, rfl, wpAny_pure ?_⟩
    have new : ObjOk X.prog X.w (upd H s.heap.objs.size (.tup ([x1].map (sgn i)))) h' s.heap.objs.size (.tup ([x1].map (sgn i))) :=
      ⟨by show 1 ≤ sizeLine; decide, [v1], .cons (sg_rel y1) .nil, ⟨_, hnew, rfl, _, rfl⟩⟩
    have I1 : Inv X pins σ (upd H s.heap.objs.size (.tup ([x1].map (sgn i)))) { s with heap := h', toks := tk } :=
      I.turnedNew (t' := tk) (ch := [N, N + 1, N + 2, N + 3]) (fun c o hb q => hk c o (fun q' => hb (by simp [q'])) (fun q' => hb (by simp [q'])) (fun q' => hb (by simp [q'])) q) hf (Nat.le_refl _) new
    refine ⟨.ref s.heap.objs.size, _, I1, rfl, ⟨_, rfl, I.hok.fresh (Nat.le_refl _), rfl⟩, st', fun c hcm => ?_⟩
    rw [upd_ne (Nat.ne_of_lt (hzl c hcm))]
    exact (hf c hcm).1
  done := by
    intro X hP hw hK hc i pins s σ H E I hf st hg
    subst hP hw hK
    have hT : s.TypeIs (.ref (N + 3)) "zip" := by obtain ⟨f0, f, hz, _⟩ := st.z; exact ⟨_, hz, rfl⟩
    unfold pyNext
    refine wpAny_bind (wpAny_attempt (wpAny_callSpecial?_slot (name := Str.ofString "__next__") hT F.slot_zip_next
      (wpAny_call_entry F.slot_zip_next hT F.entry_zip_next (zs1_end (show X.A.in1.handled = none from I.ok.hd hc) st (hg x1 (List.mem_cons_self ..)) fun h' tk e hk he => ?_) (F.args_zip_next_1 _))))
    obtain ⟨o, ho, hc⟩ := he
    refine wpAny_bind (wpAny_isInstance (T := "StopIteration") (b := true) ⟨o, ho, hc⟩ isSubtype_stop ?_)
    exact wpAny_pure ⟨rfl, I.turnedL (t' := tk) (ch := [N, N + 1, N + 2, N + 3]) (fun c o hb q => hk c o (fun q' => hb (by simp [q'])) (fun q' => hb (by simp [q'])) (fun q' => hb (by simp [q'])) q) hf⟩
  self := fun A i s Q E st h => by obtain ⟨f0, f, hz, _⟩ := st.z; exact wpAny_pyIter_zipS hz h
theorem turn_zipS2 {P : Program} {w : World} {K : PySem.W.Frag} {nm : Str} {np : Pos} {N : Nat} {x1 x2 : Str} {t1 t2 : Tok} (e2 : x2.cps.size = x1.cps.size) : Turn P w K (.Name nm np) (ItzS [x1, x2]) [N, N + 1, N + 2, N + 3, N + 4] (N + 4) (ZS2 N x1 x2 t1 t2) where
  mem := by simp
  obj := fun i h st c hc => by
    obtain ⟨⟨f0, f, hz, _⟩, hTI, ⟨a1, a2, hTO⟩, ⟨o1, g1, _, d1⟩, ⟨o2, g2, _, d2⟩⟩ := st
    have e' : c = N ∨ c = N + 1 ∨ c = N + 2 ∨ c = N + 3 ∨ c = N + 4 := by simpa using hc
    rcases e' with q | q | q | q | q
    · rw [q]; exact ⟨o1, g1, fun v q => by rw [d1] at q; cases q⟩
    · rw [q]; exact ⟨o2, g2, fun v q => by rw [d2] at q; cases q⟩
    · rw [q]; exact ⟨_, hTI, fun v q => nomatch q⟩
    · rw [q]; exact ⟨_, hTO, fun v q => nomatch q⟩
    · rw [q]; exact ⟨_, hz, fun v q => nomatch q⟩
  keep := fun i h h' st k => by
    obtain ⟨⟨f0, f, hz, ow⟩, hTI, ⟨a1, a2, hTO⟩, ⟨o1, g1, r1⟩, ⟨o2, g2, r2⟩⟩ := st
    exact ⟨⟨f0, f, k _ (by simp) _ hz, ow⟩, k _ (by simp) _ hTI, ⟨a1, a2, k _ (by simp) _ hTO⟩, ⟨o1, k _ (by simp) _ g1, r1⟩, ⟨o2, k _ (by simp) _ g2, r2⟩⟩
  item := by
    intro X hP hw hK hc i pins s σ H E I hf st hg
    subst hP hw hK
    obtain ⟨x, rest, e, hi⟩ := hg
    cases e
    have hT : s.TypeIs (.ref (N + 4)) "zip" := by obtain ⟨f0, f, hz, _⟩ := st.z; exact ⟨_, hz, rfl⟩
    have hzl : ∀ c, c ∈ ([N, N + 1, N + 2, N + 3, N + 4] : List Addr) → c < s.heap.objs.size := fun c hc => by
      obtain ⟨⟨f0, f, hz, _⟩, hTI, ⟨a1, a2, hTO⟩, ⟨o1, g1, _, d1⟩, ⟨o2, g2, _, d2⟩⟩ := st
      have := Heap.lt_size hz
      have e' : c = N ∨ c = N + 1 ∨ c = N + 2 ∨ c = N + 3 ∨ c = N + 4 := by simpa using hc
      have t : (N + 4) < s.heap.objs.size := this
      rcases e' with q | q | q | q | q <;> (rw [q]; show (_ : Nat) < _; omega)
    unfold pyNext
    refine wpAny_bind (wpAny_attempt (wpAny_callSpecial?_slot (name := Str.ofString "__next__") hT F.slot_zip_next
      (wpAny_call_entry F.slot_zip_next hT F.entry_zip_next (zs2_item (show X.A.in1.handled = none from I.ok.hd hc) st hi (by rw [e2]; exact hi) fun v1 v2 h' tk y1 y2 st' hnew hsz hk => ?_) (F.args_zip_next_1 _))))
    refine wpAny_pure ⟨_, rfl, wpAny_pure ?_⟩
    have new : ObjOk X.prog X.w (upd H s.heap.objs.size (.tup ([x1, x2].map (sgn i)))) h' s.heap.objs.size (.tup ([x1, x2].map (sgn i))) :=
      ⟨by show 2 ≤ sizeLine; decide, [v1, v2], .cons (sg_rel y1) (.cons (sg_rel y2) .nil), ⟨_, hnew, rfl, _, rfl⟩⟩
    have I1 : Inv X pins σ (upd H s.heap.objs.size (.tup ([x1, x2].map (sgn i)))) { s with heap := h', toks := tk } :=
      I.turnedNew (t' := tk) (ch := [N, N + 1, N + 2, N + 3, N + 4]) (fun c o hb q => hk c o (fun q' => hb (by simp [q'])) (fun q' => hb (by simp [q'])) (fun q' => hb (by simp [q'])) (fun q' => hb (by simp [q'])) q) hf (Nat.le_refl _) new
    refine ⟨.ref s.heap.objs.size, _, I1, rfl, ⟨_, rfl, I.hok.fresh (Nat.le_refl _), rfl⟩, st', fun c hcm => ?_⟩
    rw [upd_ne (Nat.ne_of_lt (hzl c hcm))]
    exact (hf c hcm).1
  done := by
    intro X hP hw hK hc i pins s σ H E I hf st hg
    subst hP hw hK
    have hT : s.TypeIs (.ref (N + 4)) "zip" := by obtain ⟨f0, f, hz, _⟩ := st.z; exact ⟨_, hz, rfl⟩
    unfold pyNext
    refine wpAny_bind (wpAny_attempt (wpAny_callSpecial?_slot (name := Str.ofString "__next__") hT F.slot_zip_next
      (wpAny_call_entry F.slot_zip_next hT F.entry_zip_next (zs2_end (show X.A.in1.handled = none from I.ok.hd hc) st (hg x1 (List.mem_cons_self ..)) fun h' tk e hk he => ?_) (F.args_zip_next_1 _))))
    obtain ⟨o, ho, hc⟩ := he
    refine wpAny_bind (wpAny_isInstance (T := "StopIteration") (b := true) ⟨o, ho, hc⟩ isSubtype_stop ?_)
    exact wpAny_pure ⟨rfl, I.turnedL (t' := tk) (ch := [N, N + 1, N + 2, N + 3, N + 4]) (fun c o hb q => hk c o (fun q' => hb (by simp [q'])) (fun q' => hb (by simp [q'])) (fun q' => hb (by simp [q'])) (fun q' => hb (by simp [q'])) q) hf⟩
  self := fun A i s Q E st h => by obtain ⟨f0, f, hz, _⟩ := st.z; exact wpAny_pyIter_zipS hz h
theorem turn_zipS3 {P : Program} {w : World} {K : PySem.W.Frag} {nm : Str} {np : Pos} {N : Nat} {x1 x2 x3 : Str} {t1 t2 t3 : Tok} (e2 : x2.cps.size = x1.cps.size) (e3 : x3.cps.size = x1.cps.size) : Turn P w K (.Name nm np) (ItzS [x1, x2, x3]) [N, N + 1, N + 2, N + 3, N + 4, N + 5] (N + 5) (ZS3 N x1 x2 x3 t1 t2 t3) where
  mem := by simp
  obj := fun i h st c hc => by
    obtain ⟨⟨f0, f, hz, _⟩, hTI, ⟨a1, a2, a3, hTO⟩, ⟨o1, g1, _, d1⟩, ⟨o2, g2, _, d2⟩, ⟨o3, g3, _, d3⟩⟩ := st
    have e' : c = N ∨ c = N + 1 ∨ c = N + 2 ∨ c = N + 3 ∨ c = N + 4 ∨ c = N + 5 := by simpa using hc
    rcases e' with q | q | q | q | q | q
    · rw [q]; exact ⟨o1, g1, fun v q => by rw [d1] at q; cases q⟩
    · rw [q]; exact ⟨o2, g2, fun v q => by rw [d2] at q; cases q⟩
    · rw [q]; exact ⟨o3, g3, fun v q => by rw [d3] at q; cases q⟩
    · rw [q]; exact ⟨_, hTI, fun v q => nomatch q⟩
    · rw [q]; exact ⟨_, hTO, fun v q => nomatch q⟩
    · rw [q]; exact ⟨_, hz, fun v q => nomatch q⟩
  keep := fun i h h' st k => by
    obtain ⟨⟨f0, f, hz, ow⟩, hTI, ⟨a1, a2, a3, hTO⟩, ⟨o1, g1, r1⟩, ⟨o2, g2, r2⟩, ⟨o3, g3, r3⟩⟩ := st
    exact ⟨⟨f0, f, k _ (by simp) _ hz, ow⟩, k _ (by simp) _ hTI, ⟨a1, a2, a3, k _ (by simp) _ hTO⟩, ⟨o1, k _ (by simp) _ g1, r1⟩, ⟨o2, k _ (by simp) _ g2, r2⟩, ⟨o3, k _ (by simp) _ g3, r3⟩⟩
  item := by
    intro X hP hw hK hc i pins s σ H E I hf st hg
    subst hP hw hK
    obtain ⟨x, rest, e, hi⟩ := hg
    cases e
    have hT : s.TypeIs (.ref (N + 5)) "zip" := by obtain ⟨f0, f, hz, _⟩ := st.z; exact ⟨_, hz, rfl⟩
    have hzl : ∀ c, c ∈ ([N, N + 1, N + 2, N + 3, N + 4, N + 5] : List Addr) → c < s.heap.objs.size := fun c hc => by
      obtain ⟨⟨f0, f, hz, _⟩, hTI, ⟨a1, a2, a3, hTO⟩, ⟨o1, g1, _, d1⟩, ⟨o2, g2, _, d2⟩, ⟨o3, g3, _, d3⟩⟩ := st
      have := Heap.lt_size hz
      have e' : c = N ∨ c = N + 1 ∨ c = N + 2 ∨ c = N + 3 ∨ c = N + 4 ∨ c = N + 5 := by simpa using hc
      have t : (N + 5) < s.heap.objs.size := this
      rcases e' with q | q | q | q | q | q <;> (rw [q]; show (_ : Nat) < _; omega)
    unfold pyNext
    refine wpAny_bind (wpAny_attempt (wpAny_callSpecial?_slot (name := Str.ofString "__next__") hT F.slot_zip_next
      (wpAny_call_entry F.slot_zip_next hT F.entry_zip_next (zs3_item (show X.A.in1.handled = none from I.ok.hd hc) st hi (by rw [e2]; exact hi) (by rw [e3]; exact hi) fun v1 v2 v3 h' tk y1 y2 y3 st' hnew hsz hk => ?_) (F.args_zip_next_1 _))))
    refine wpAny_pure ⟨_, rfl, wpAny_pure ?_⟩
    have new : ObjOk X.prog X.w (upd H s.heap.objs.size (.tup ([x1, x2, x3].map (sgn i)))) h' s.heap.objs.size (.tup ([x1, x2, x3].map (sgn i))) :=
      ⟨by show 3 ≤ sizeLine; decide, [v1, v2, v3], .cons (sg_rel y1) (.cons (sg_rel y2) (.cons (sg_rel y3) .nil)), ⟨_, hnew, rfl, _, rfl⟩⟩
    have I1 : Inv X pins σ (upd H s.heap.objs.size (.tup ([x1, x2, x3].map (sgn i)))) { s with heap := h', toks := tk } :=
      I.turnedNew (t' := tk) (ch := [N, N + 1, N + 2, N + 3, N + 4, N + 5]) (fun c o hb q => hk c o (fun q' => hb (by simp [q'])) (fun q' => hb (by simp [q'])) (fun q' => hb (by simp [q'])) (fun q' => hb (by simp [q'])) (fun q' => hb (by simp [q'])) q) hf (Nat.le_refl _) new
    refine ⟨.ref s.heap.objs.size, _, I1, rfl, ⟨_, rfl, I.hok.fresh (Nat.le_refl _), rfl⟩, st', fun c hcm => ?_⟩
    rw [upd_ne (Nat.ne_of_lt (hzl c hcm))]
    exact (hf c hcm).1
  done := by
    intro X hP hw hK hc i pins s σ H E I hf st hg
    subst hP hw hK
    have hT : s.TypeIs (.ref (N + 5)) "zip" := by obtain ⟨f0, f, hz, _⟩ := st.z; exact ⟨_, hz, rfl⟩
    unfold pyNext
    refine wpAny_bind (wpAny_attempt (wpAny_callSpecial?_slot (name := Str.ofString "__next__") hT F.slot_zip_next
      (wpAny_call_entry F.slot_zip_next hT F.entry_zip_next (zs3_end (show X.A.in1.handled = none from I.ok.hd hc) st (hg x1 (List.mem_cons_self ..)) fun h' tk e hk he => ?_) (F.args_zip_next_1 _))))
    obtain ⟨o, ho, hc⟩ := he
    refine wpAny_bind (wpAny_isInstance (T := "StopIteration") (b := true) ⟨o, ho, hc⟩ isSubtype_stop ?_)
    exact wpAny_pure ⟨rfl, I.turnedL (t' := tk) (ch := [N, N + 1, N + 2, N + 3, N + 4, N + 5]) (fun c o hb q => hk c o (fun q' => hb (by simp [q'])) (fun q' => hb (by simp [q'])) (fun q' => hb (by simp [q'])) (fun q' => hb (by simp [q'])) (fun q' => hb (by simp [q'])) q) hf⟩
  self := fun A i s Q E st h => by obtain ⟨f0, f, hz, _⟩ := st.z; exact wpAny_pyIter_zipS hz h
end Gd
namespace Gd
open PySem L2 PyProof.Rows
theorem callWith_St {M : Model} {A : Around} {E : Value → Shared → Prop} {s : Shared} {env : Env} {pos p : Pos} {T : String} {e : Expr} {Q : Value → Shared → Prop}
    (h : wpAny M A (eval e env) (fun v s₁ => PySem.W.StarOf M A E v (fun vs s₂ => wpAny M A (call (.type T) vs) Q E s₂) s₁) E s)
    (he : starEach [.Starred e p] env = [(true, eval e env)] := by rfl) : wpAny M A (callWith pos (.type T) [] (backTo pos (starEach [.Starred e p] env)) []) Q E s := by
  rw [he]
  refine PySem.W.ks_call (P := fun _ => True) rfl (fun h _ => ⟨.machine, .inr (.inl rfl), PySem.W.Looks.of_pure rfl⟩) (PySem.W.ks_lone (wpAny_mono h (fun v s1 h1 => ?_) fun _ _ x => x))
  unfold PySem.W.StarOf at h1 ⊢
  exact wpAny_mono h1 (fun b s2 ⟨e, h2⟩ => ⟨e, wpAny_mono h2 (fun vs s3 h3 => ⟨trivial, h3⟩) fun _ _ x => x⟩) fun _ _ x => x
def iZipS (K : PySem.W.Frag) (te : TE) : TI := fun σ H R => te σ H fun y H1 => ∃ (a : Addr) (ws : List Str), y = .ref a ∧ SqT K H1 a (ws.map V.str) ∧ ws.length ≤ 3 ∧ (∀ x y, x ∈ ws → y ∈ ws → x.cps.size = y.cps.size) ∧ R (ItzS ws) H1
theorem pi_zipS {X : Cx} {e : Expr} {te : TE} {p p2 pos np : Pos} {nm : Str} (hg : Gl X "zip") (hm : X.mg "zip" = none) (he : PE X e te) (hst : starEach [.Starred e p2] X.env = [(true, eval e X.env)] := by rfl) :
    PI X (.Name nm np) (.Call (.Name "zip" p) [.Starred e p2] [] pos) (iZipS X.K te) := by
  refine ⟨fun pins s σ H R I h => ?_⟩
  refine Call_ (ld_blt I hg hm PyProof.Rows.boot_zip (callWith_St (thn (he.run pins s σ H _ I h) fun v s1 ⟨y, H1, I1, ry, a, ws, ey, hq, hl, heq, q⟩ => ?_) hst))
  subst ey
  obtain rfl : v = Value.ref a := ry
  refine L2.star_tup I1 hq fun us s2 I2 rv => ?_
  have fresh : ∀ c, s2.heap.objs.size ≤ c → FpOk X pins H1 c := fun c hle => I2.fpOk hle (I2.hok.fresh hle)
  rcases ws with _ | ⟨x1, _ | ⟨x2, _ | ⟨x3, _ | ⟨x4, r⟩⟩⟩⟩
  · cases rv
    refine zip_beg0 fun h' st hk => wpAny_pyIter_zipS st.z ?_
    have I3 : Inv X pins σ H1 { s2 with heap := h' } := I2.kept (t' := s2.toks) hk
    refine ⟨_, _, _, _, H1, rfl, I3, turn_zipS0, st, fun c hc => fresh c ?_, q⟩
    have e' : c = s2.heap.objs.size ∨ c = s2.heap.objs.size + 1 ∨ c = s2.heap.objs.size + 2 := by simpa using hc
    rcases e' with q | q | q <;> (rw [q]; show (_ : Nat) ≤ _; omega)
  · cases rv with
    | cons r1 rr =>
      cases rr
      obtain ⟨t1, rfl⟩ := r1
      refine zip_beg1 fun h' st hk => ?_
      obtain ⟨f0, f, hz, ow⟩ := id st.z
      refine wpAny_pyIter_zipS hz ?_
      have I3 : Inv X pins σ H1 { s2 with heap := h' } := I2.kept (t' := s2.toks) hk
      refine ⟨_, _, _, _, H1, rfl, I3, turn_zipS1 , st, fun c hc => fresh c ?_, q⟩
      have e' : c = s2.heap.objs.size ∨ c = s2.heap.objs.size + 1 ∨ c = s2.heap.objs.size + 2 ∨ c = s2.heap.objs.size + 3 := by simpa using hc
      rcases e' with q | q | q | q <;> (rw [q]; show (_ : Nat) ≤ _; omega)
  · cases rv with
    | cons r1 rr =>
      cases rr with
      | cons r2 rr =>
      cases rr
      obtain ⟨t1, rfl⟩ := r1
      obtain ⟨t2, rfl⟩ := r2
      refine zip_beg2 fun h' st hk => ?_
      obtain ⟨f0, f, hz, ow⟩ := id st.z
      refine wpAny_pyIter_zipS hz ?_
      have I3 : Inv X pins σ H1 { s2 with heap := h' } := I2.kept (t' := s2.toks) hk
      refine ⟨_, _, _, _, H1, rfl, I3, turn_zipS2 (heq _ _ (by simp) (by simp)), st, fun c hc => fresh c ?_, q⟩
      have e' : c = s2.heap.objs.size ∨ c = s2.heap.objs.size + 1 ∨ c = s2.heap.objs.size + 2 ∨ c = s2.heap.objs.size + 3 ∨ c = s2.heap.objs.size + 4 := by simpa using hc
      rcases e' with q | q | q | q | q <;> (rw [q]; show (_ : Nat) ≤ _; omega)
  · cases rv with
    | cons r1 rr =>
      cases rr with
      | cons r2 rr =>
      cases rr with
      | cons r3 rr =>
      cases rr
      obtain ⟨t1, rfl⟩ := r1
      obtain ⟨t2, rfl⟩ := r2
      obtain ⟨t3, rfl⟩ := r3
      refine zip_beg3 fun h' st hk => ?_
      obtain ⟨f0, f, hz, ow⟩ := id st.z
      refine wpAny_pyIter_zipS hz ?_
      have I3 : Inv X pins σ H1 { s2 with heap := h' } := I2.kept (t' := s2.toks) hk
      refine ⟨_, _, _, _, H1, rfl, I3, turn_zipS3 (heq _ _ (by simp) (by simp)) (heq _ _ (by simp) (by simp)), st, fun c hc => fresh c ?_, q⟩
      have e' : c = s2.heap.objs.size ∨ c = s2.heap.objs.size + 1 ∨ c = s2.heap.objs.size + 2 ∨ c = s2.heap.objs.size + 3 ∨ c = s2.heap.objs.size + 4 ∨ c = s2.heap.objs.size + 5 := by simpa using hc
      rcases e' with q | q | q | q | q | q <;> (rw [q]; show (_ : Nat) ≤ _; omega)
  · exact absurd hl (by simp)
end Gd
namespace Kre
open PySem L2 Gd
def top (i : Nat) : Stmt := PySem.Challenge.pw_sumdigits_k04_whole_readings_of_words.main.body.getD i (.Pass ⟨0, 0, 0, 0⟩)
abbrev sSum : Stmt := top 3
abbrev sIsInt : Stmt := top 12
abbrev sBetw : Stmt := top 13
abbrev sHas : Stmt := top 14
abbrev sIsLet : Stmt := top 15
abbrev sCkBase : Stmt := top 16
abbrev sIsWord : Stmt := top 18
abbrev sCkWords : Stmt := top 19
abbrev sSide : Stmt := top 20
abbrev sReading : Stmt := top 21
abbrev sWordsOf : Stmt := top 22
abbrev sParted : Stmt := top 23
abbrev sPen : Stmt := top 25
abbrev sDraw : Stmt := top 26
abbrev sPick : Stmt := top 27
abbrev sHeard : Stmt := top 28
abbrev sDrawn : Stmt := top 29
abbrev sRead : Stmt := top 30
abbrev sTold : Stmt := top 31
abbrev sRight : Stmt := top 32
abbrev sRef : Stmt := top 33
abbrev sLaw : Stmt := top 34
theorem scIsInt : FnScope ["value"] ["value"] (defScope sIsInt) := ⟨rfl, rfl, rfl, by decide +kernel, rfl, by decide +kernel, by decide +kernel⟩
structure Txw (mg : Str → Option Value) : Prop where
  int : mg "int" = none
  bool : mg "bool" = none
  str : mg "str" = none
  len : mg "len" = none
  range : mg "range" = none
  isi : mg "isinstance" = none
  list : mg "list" = none
  all : mg "all" = none
  tuple : mg "tuple" = none
  zip : mg "zip" = none
  dict : mg "dict" = none
  any : mg "any" = none
theorem Txw.k {mg : Str → Option Value} (T : Txw mg) : Kone.TxtK mg := ⟨T.isi, T.tuple, T.list, T.dict, T.any⟩
theorem scBetw : FnScope ["value", "low", "high"] ["value", "low", "high"] (defScope sBetw) := ⟨rfl, rfl, rfl, by decide +kernel, rfl, by decide +kernel, by decide +kernel⟩
def isI : V → Bool | .int _ => true | _ => false
def isB : V → Bool | .bl _ => true | _ => false
def isS : V → Bool | .str _ => true | _ => false
/-- what isinstance tells of v -/
def Knd (K : PySem.W.Frag) (H : Hp) (v : V) : Prop := ∃ t : String, TyX K H v (.type t) ∧ kitB t "int" = some (isI v || isB v) ∧ kitB t "bool" = some (isB v) ∧ kitB t "str" = some (isS v)
/-- at x the helper, as it stands -/
structure Def (K : PySem.W.Frag) (mg : Str → Option Value) (x : Str) (st : Stmt) (ps : List Str) (f : Addr) (fd : FuncData) : Prop where
  g : mg x = some (.ref f)
  k : PySem.W.keepIn K (.ref f) = true
  b : Binds K fd ps []
  F : Fun K x x st f fd
section
variable {P : Program} {w : World} {K : PySem.W.Frag} {mg : Str → Option Value} {base : Heap}
theorem knd_mk {H : Hp} {v : V} {i b s : Bool} (t : String) (ty : TyX K H v (.type t)) (ei : isI v = i) (eb : isB v = b) (es : isS v = s) (h1 : kitB t "int" = some (i || b)) (h2 : kitB t "bool" = some b) (h3 : kitB t "str" = some s) : Knd K H v := ⟨t, ty, by rw [ei, eb]; exact h1, by rw [eb]; exact h2, by rw [es]; exact h3⟩
theorem knd_int {H : Hp} {i : Int} : Knd K H (.int i) := knd_mk (i := true) (b := false) (s := false) "int" (.base (.int _)) rfl rfl rfl (by decide +kernel) (by decide +kernel) (by decide +kernel)
theorem knd_bl {H : Hp} {b : Bool} : Knd K H (.bl b) := knd_mk (i := false) (b := true) (s := false) "bool" (.base (.bl _)) rfl rfl rfl (by decide +kernel) (by decide +kernel) (by decide +kernel)
theorem knd_str {H : Hp} {s : Str} : Knd K H (.str s) := knd_mk (i := false) (b := false) (s := true) "str" (.base (.str _)) rfl rfl rfl (by decide +kernel) (by decide +kernel) (by decide +kernel)
theorem knd_non {H : Hp} : Knd K H .non := knd_mk (i := false) (b := false) (s := false) "NoneType" (.base .non) rfl rfl rfl (by decide +kernel) (by decide +kernel) (by decide +kernel)
theorem knd_lst {H : Hp} {a : Addr} {xs : List V} (e : H a = some (.lst xs)) : Knd K H (.ref a) := knd_mk (i := false) (b := false) (s := false) "list" (.base (.lst e)) rfl rfl rfl (by decide +kernel) (by decide +kernel) (by decide +kernel)
theorem knd_tup {H : Hp} {a : Addr} {xs : List V} (e : H a = some (.tup xs)) : Knd K H (.ref a) := knd_mk (i := false) (b := false) (s := false) "tuple" (.base (.tup e)) rfl rfl rfl (by decide +kernel) (by decide +kernel) (by decide +kernel)
theorem knd_dK {H : Hp} {a : Addr} {xs : List (Key × V)} (e : H a = some (.dK xs)) : Knd K H (.ref a) := knd_mk (i := false) (b := false) (s := false) "dict" (.base (.dK e)) rfl rfl rfl (by decide +kernel) (by decide +kernel) (by decide +kernel)
def spIsInt (K : PySem.W.Frag) : Sp := fun vs H Q _ => ∃ v, vs = [v] ∧ Knd K H v ∧ Q (.bl (isI v)) H
theorem ok_isint {f : Addr} {fd : FuncData} (F : Fun K "is_integer" "is_integer" sIsInt f fd) (T : Txw mg) : FnOk P w K mg base CX0 1 f fd ["value"] (spIsInt K) := by
  refine F.ok scIsInt (fun vs H Q E h => ?_) (fun cdv A outer s H vs Q E hr h => ?_)
  · obtain ⟨v, rfl, _⟩ := h
    rfl
  · obtain ⟨v, rfl, ⟨t, ty, h1, h2, _⟩, k⟩ := h
    refine ⟨_, pss_one (ps_ret (pe_and (pe_callB call_isi (by rfl) T.isi (by decide +kernel) (pa_cons (pv 0) (pa_cons (pe_bltn (v := .ty "int") rfl T.int rfl rfl) pa_nil))) (pe_one (pe_not (pe_callB call_isi (by rfl) T.isi (by decide +kernel) (pa_cons (pv 0) (pa_cons (pe_bltn (v := .ty "bool") rfl T.bool rfl rfl) pa_nil))))))), ?_⟩
    refine ⟨_, rfl, _, .ty "int", _, _, _, rfl, .ty _, ty, kit_ty h1, _, rfl, ?_⟩
    cases q : (isI v || isB v) with
    | false =>
      have : isI v = false := by cases v <;> simp_all [isI, isB]
      rw [this] at k
      exact k
    | true =>
      refine ⟨_, rfl, _, .ty "bool", _, _, _, rfl, .ty _, ty, kit_ty h2, _, rfl, ?_⟩
      have : (!isB v) = isI v := by cases v <;> simp_all [isI, isB]
      rw [this]
      exact k
/-- an integer from lo to hi -/
def btw (v : V) (lo hi : Int) : Bool := match v with | .int i => decide (lo ≤ i) && decide (i ≤ hi) | _ => false
def spBetw (K : PySem.W.Frag) : Sp := fun vs H Q _ => ∃ (v : V) (lo hi : Int), vs = [v, .int lo, .int hi] ∧ Knd K H v ∧ Q (.bl (btw v lo hi)) H
theorem ok_betw {f fI : Addr} {fd fdI : FuncData} (F : Fun K "is_between" "is_between" sBetw f fd) (T : Txw mg) (U : Def K mg "is_integer" sIsInt ["value"] fI fdI) : FnOk P w K mg base CX0 2 f fd ["value", "low", "high"] (spBetw K) := by
  have GI : FnOk P w K mg base CX0 1 fI fdI ["value"] (spIsInt K) := ok_isint U.F T
  refine F.ok scBetw (fun vs H Q E h => ?_) (fun cdv A outer s H vs Q E hr h => ?_)
  · obtain ⟨v, lo, hi, rfl, _⟩ := h
    rfl
  · obtain ⟨v, lo, hi, rfl, kn, k⟩ := h
    refine ⟨_, pss_one (ps_ret (pe_and (pe_call GI hr rfl U.g U.k U.b .nil pass0 (pa_cons (pv 0) pa_nil)) (pe_one (pe_chain op_le op_le (pv 1) (pv 0) (pv 2))))), ?_⟩
    refine ⟨_, rfl, v, rfl, kn, _, rfl, ?_⟩
    cases v with
    | int i =>
      refine ⟨_, rfl, _, rfl, _, _, rfl, rfl, _, rfl, ?_⟩
      replace k : Q (.bl (decide (lo ≤ i) && decide (i ≤ hi))) H := k
      cases q : decide (lo ≤ i) with
      | false =>
        rw [q] at k
        exact k
      | true =>
        rw [q] at k
        exact ⟨_, rfl, _, _, rfl, rfl, k⟩
    | _ => exact k

/-! ### digits -/
theorem scHas : FnScope ["text", "base"] ["text", "base"] (defScope sHas) := ⟨rfl, rfl, rfl, by decide +kernel, rfl, by decide +kernel, by decide +kernel⟩
def dgs : Str := "0123"
def inDg (b : Nat) (c : Nat) : Bool := decide (48 ≤ c) && decide (c < 48 + b)
end
section
variable {P : Program} {w : World} {K : PySem.W.Frag} {mg : Str → Option Value} {base : Heap}
/-- whether the sign of code c is one of the first b digits -/
def chk (b : Int) (c : Nat) : Bool := decide (c ∈ (cutS dgs none (some b)).cps.toList)
def spHas : Sp := fun vs H Q _ => ∃ (x : Str) (b : Int), vs = [.str x, .int b] ∧ x.cps.size ≤ 100 ∧ ∀ H', Same H H' → Q (.bl (x.cps.toList.all (chk b))) H'
theorem takeWhile_len {p : Nat → Bool} : ∀ {l : List Nat}, (l.takeWhile p).length = l.length → l.all p = true
  | [], _ => rfl
  | c :: l, h => by
    rw [List.takeWhile_cons] at h
    cases q : p c with
    | true =>
      rw [q, if_pos rfl, List.length_cons, List.length_cons] at h
      rw [List.all_cons, q, takeWhile_len (Nat.succ.inj h)]
      rfl
    | false =>
      rw [q, if_neg Bool.false_ne_true] at h
      cases h
theorem takeWhile_goes {p : Nat → Bool} : ∀ {l : List Nat}, (l.takeWhile p).all p = true
  | [] => rfl
  | c :: l => by
    rw [List.takeWhile_cons]
    cases q : p c with
    | true => rw [if_pos rfl, List.all_cons, q, takeWhile_goes]; rfl
    | false => rfl
theorem takeWhile_all {p : Nat → Bool} : ∀ {l : List Nat}, l.all p = true → l.takeWhile p = l
  | [], _ => rfl
  | c :: l, h => by
    rw [List.all_cons, Bool.and_eq_true] at h
    rw [List.takeWhile_cons, if_pos h.1, takeWhile_all h.2]
/-- nothing is left of a text exactly if all its signs go -/
theorem strip_empty (goes : Nat → Bool) (x : Str) : (Txt.stripBy goes true true x = Str.empty) ↔ x.cps.toList.all goes = true := by
  have lx : x.length = x.cps.toList.length := by
    show x.cps.size = _
    simp
  have em : ∀ y : Str, y = Str.empty ↔ y.cps.toList.length = 0 := fun y => by
    constructor
    · intro e
      subst e
      rfl
    · intro h
      obtain ⟨⟨l⟩⟩ := y
      have : l = [] := by simpa using h
      subst this
      rfl
  constructor
  · intro h
    cases q : x.cps.toList.all goes with
    | true => rfl
    | false =>
      exfalso
      have lo : (x.cps.toList.takeWhile goes).length < x.cps.toList.length := by
        have z : (x.cps.toList.takeWhile goes).length ≤ x.cps.toList.length := (List.takeWhile_sublist _).length_le
        rcases Nat.lt_or_eq_of_le z with z | z
        · exact z
        · rw [takeWhile_len z] at q
          cases q
      have hi : ((x.cps.toList.drop (x.cps.toList.takeWhile goes).length).reverse.takeWhile goes).length < x.cps.toList.length - (x.cps.toList.takeWhile goes).length := by
        have z : ((x.cps.toList.drop (x.cps.toList.takeWhile goes).length).reverse.takeWhile goes).length ≤ (x.cps.toList.drop (x.cps.toList.takeWhile goes).length).reverse.length := (List.takeWhile_sublist _).length_le
        rw [List.length_reverse, List.length_drop] at z
        rcases Nat.lt_or_eq_of_le z with z | z
        · exact z
        · exfalso
          have a1 := takeWhile_len (p := goes) (l := (x.cps.toList.drop (x.cps.toList.takeWhile goes).length).reverse) (by rw [z, List.length_reverse, List.length_drop])
          rw [List.all_reverse] at a1
          have a2 : (x.cps.toList.takeWhile goes).all goes = true := takeWhile_goes
          have a3 : x.cps.toList = x.cps.toList.takeWhile goes ++ x.cps.toList.drop (x.cps.toList.takeWhile goes).length := by
            have e1 := List.takeWhile_append_dropWhile (p := goes) (l := x.cps.toList)
            have e2 : x.cps.toList.drop (x.cps.toList.takeWhile goes).length = x.cps.toList.dropWhile goes := by
              conv => lhs; rw [← e1]
              rw [List.takeWhile_append_dropWhile]
              conv => lhs; arg 2; rw [← e1]
              rw [List.drop_left]
            rw [e2, e1]
          rw [a3, List.all_append, a2, a1] at q
          cases q
      unfold Txt.stripBy at h
      cases q2 : stripSame goes true true x with
      | true =>
        rw [q2, if_pos rfl] at h
        rw [em x] at h
        omega
      | false =>
        rw [q2, if_neg Bool.false_ne_true] at h
        unfold stripped stripHi stripLo at h
        rw [if_pos rfl, if_pos rfl, em, PySem.StrLaws.strSub_toList] at h
        rw [List.length_take, List.length_drop, lx] at h
        omega
  · intro h
    have t1 := takeWhile_all h
    unfold Txt.stripBy
    cases q2 : stripSame goes true true x with
    | true =>
      rw [if_pos rfl]
      unfold stripSame stripLo at q2
      rw [if_pos rfl, t1, Bool.and_eq_true, beq_iff_eq] at q2
      rw [em]
      exact q2.1
    | false =>
      rw [if_neg Bool.false_ne_true, em]
      unfold stripped stripLo
      rw [if_pos rfl, t1, PySem.StrLaws.strSub_toList, List.drop_length]
      simp
theorem ok_has {f : Addr} {fd : FuncData} {td : Tok} (F : Fun K "has_digits" "has_digits" sHas f fd) (T : Txw mg) (hD : mg "DIGITS" = some (.str dgs td)) : FnOk P w K mg base CX0 1 f fd ["text", "base"] spHas := by
  refine F.ok scHas (fun vs H Q E h => ?_) (fun cdv A outer s H vs Q E hr h => ?_)
  · obtain ⟨x, b, rfl, _⟩ := h
    rfl
  · obtain ⟨x, b, rfl, hx, k⟩ := h
    refine ⟨_, pss_one (ps_ret (pe_cmpR op_eq (pe_m1 PySem.F.slot_str_strip PySem.F.type_str_strip mt_stripChars (pv 0) (pe_slice sl_str (pe_glob (v := .str dgs) rfl hD ⟨_, rfl⟩) po_none (po_some (pv 1)))) pe_str (nomark _))), ?_⟩
    refine ⟨_, rfl, ⟨_, rfl⟩, _, rfl, b, rfl, dgs, rfl, by decide, x, _, rfl, rfl, Nat.le_trans (show x.length ≤ 100 from hx) (by decide), rfl, ?_⟩
    have e : decide (V.str (Txt.stripChars x (cutS dgs none (some b))) = V.str "") = x.cps.toList.all (chk b) := by
      have s := strip_empty (cutS dgs none (some b)).cps.contains x
      have c : x.cps.toList.all (chk b) = x.cps.toList.all (cutS dgs none (some b)).cps.contains := by
        congr 1
        funext c
        unfold chk
        simp
      rw [c]
      cases q : x.cps.toList.all (cutS dgs none (some b)).cps.contains with
      | true =>
        rw [q] at s
        exact decide_eq_true (congrArg V.str (s.mpr rfl))
      | false =>
        rw [q] at s
        exact decide_eq_false fun z => absurd (s.mp (V.str.inj z)) Bool.false_ne_true
    rw [e]
    exact k H (Same.refl H)
end
theorem scCkB : FnScope ["base"] ["base"] (defScope sCkBase) := ⟨rfl, rfl, rfl, by decide +kernel, rfl, by decide +kernel, by decide +kernel⟩
section
variable {P : Program} {w : World} {K : PySem.W.Frag} {mg : Str → Option Value} {base : Heap}
/-- C is raised with a copy of v in its field -/
def Rz (C : Addr) (v : V) (H : Hp) (E : XK) : Prop := ∃ D : PyData, Dq H 2 false v D ∧ ∀ (d : Addr) (H' : Hp) (v' : V), Same H H' → H d = none → H' d = some (.xd [("value", v')]) → Dq H' 2 false v' D → E (.ref C) (some d) H'
def spCk (K : PySem.W.Frag) (lo hi : Int) (C : Addr) : Sp := fun vs H Q E => ∃ v, vs = [v] ∧ Knd K H v ∧ if btw v lo hi = true then Q .non H else Rz C v H E
theorem rz_of {C : Addr} (O : OexC K C) (no : PySem.W.findIn K (.ref C) "value" = some none) {v : V} {H1 : Hp} {E : XK} (h : Rz C v H1 E) :
    [v].length ≤ 1000 ∧ ∀ a, H1 a = none → Kone.spI1 K "value" (.ref a :: ([v] ++ [])) (upd H1 a (exo a C none)) (fun u H2 => u = .non ∧ ∃ (d : Addr) (fs : List (Str × V)), H2 a = some (exo a C (some d)) ∧ H2 d = some (exd d fs) ∧ H1 d = none ∧ E (.ref C) (some d) (upd (L2.del H2 a) d (.xd fs))) (fun _ _ _ => False) := by
  obtain ⟨D, hD, k⟩ := h
  refine ⟨by show 1 ≤ 1000; decide, fun a ha => ⟨a, C, v, D, H1, rfl, O, no, upd_same, Kone.same_new ha, ha, hD, fun Hf v' dd s e1 e2 hn q => ⟨rfl, dd, [("value", v')], e1, e2, ?_, ?_⟩⟩⟩
  · by_cases z : dd = a
    · subst z; rw [upd_same] at hn; cases hn
    · rwa [upd_ne z] at hn
  · have nda : dd ≠ a := fun z => by subst z; rw [upd_same] at hn; cases hn
    have hd1 : H1 dd = none := by rwa [upd_ne nda] at hn
    refine k dd _ v' (fun b o e => ?_) hd1 upd_same (Kone.Dq.dat (fun b o c e => ?_) q)
    · have nb := ne_of_none e hd1
      have na := ne_of_none e ha
      rw [upd_ne nb, L2.del_ne na]
      exact s _ _ (Kone.hide_at na (by rw [upd_ne na]; exact e))
    · have nb : b ≠ dd := fun z => by subst z; rw [e2] at e; cases e; cases c
      have na : b ≠ a := fun z => by subst z; rw [e1] at e; cases e; cases c
      rw [upd_ne nb, L2.del_ne na]
      exact e
/-- the class of an error that is raised: x at C -/
structure Er (P : Program) (w : World) (K : PySem.W.Frag) (mg : Str → Option Value) (base : Heap) (S : Addr) (x : Str) (C : Addr) : Prop where
  c : Kone.XC K mg S x C
  ex : ∃ (fI : Addr) (fd : FuncData), PySem.W.findIn K (.ref C) "__init__" = some (some (.ref fI)) ∧ PySem.W.typeIn K (.ref fI) = some (.type "function") ∧ FnOk P w K mg base CX0 4 fI fd ["self", "value"] (Kone.spI1 K "value") ∧ Binds K fd ["self", "value"] []
  no : PySem.W.findIn K (.ref C) "value" = some none
theorem ok_ckB {f fB fI S C : Addr} {fd fdB fdI : FuncData} (F : Fun K "check_base" "check_base" sCkBase f fd) (T : Txw mg) (U : Def K mg "is_integer" sIsInt ["value"] fI fdI) (UB : Def K mg "is_between" sBetw ["value", "low", "high"] fB fdB)
    (R : Er P w K mg base S "BadBase" C) : FnOk P w K mg base (L2.CX P w) 6 f fd ["base"] (spCk K 2 4 C) := by
  have GB : FnOk P w K mg base CX0 2 fB fdB ["value", "low", "high"] (spBetw K) := ok_betw UB.F T U
  obtain ⟨fN, fdN, iC, tI, F1, kb⟩ := R.ex
  refine F.okX scCkB (fun vs H Q E h => ?_) (fun cdv A outer s H vs Q E hr h => ?_)
  · obtain ⟨v, rfl, _⟩ := h
    rfl
  · obtain ⟨v, rfl, kn, k⟩ := h
    refine ⟨_, pss_one (ps_if (pt_not (pt_val (pe_call GB (hr.mono (by decide)) rfl UB.g UB.k UB.b .nil pass0 (pa_cons (pv 0) (pa_cons pe_int (pa_cons pe_int pa_nil)))))) (pss_one (ps_raise rfl (takes_of rfl rfl rfl rfl) (pmk_oex R.c.o iC tI F1 hr kb .nil pass0 rfl R.c.g (pa_cons (pv 0) pa_nil)))) pss_nil), ?_⟩
    refine ⟨_, rfl, v, 2, 4, rfl, kn, _, rfl, ?_⟩
    cases q : btw v 2 4 with
    | true =>
      rw [q, if_pos rfl] at k
      exact k
    | false =>
      rw [q, if_neg Bool.false_ne_true] at k
      exact ⟨_, rfl, rz_of R.c.o R.no k⟩
end
theorem scIsW : FnScope ["value", "base"] ["value", "base"] (defScope sIsWord) := ⟨rfl, rfl, rfl, by decide +kernel, rfl, by decide +kernel, by decide +kernel⟩
/-- whether v is a word of base b -/
def isWd (b : Int) : V → Bool
  | .str x => decide (x.length ≤ 100) && x.cps.toList.all (chk b)
  | _ => false
/-- as v: what isinstance tells, and no text is too long -/
structure Vl (K : PySem.W.Frag) (H : Hp) (v : V) : Prop where
  k : Knd K H v
  l : ∀ x, v = .str x → x.length ≤ 1000
section
variable {P : Program} {w : World} {K : PySem.W.Frag} {mg : Str → Option Value} {base : Heap}
def spIsW (K : PySem.W.Frag) (C : Addr) : Sp := fun vs H Q E => ∃ v u, vs = [v, u] ∧ Vl K H v ∧ Knd K H u ∧ if btw u 2 4 = true then (∀ b H', u = .int b → Same H H' → Q (.bl (isWd b v)) H') else Rz C u H E
/-- the module's defs -/
structure Wds (P : Program) (w : World) (K : PySem.W.Frag) (mg : Str → Option Value) (base : Heap) (S CB CD CW CL CU CM fI fB fH fKB fIW fIL fCW fSS fWO : Addr) (dI dB dH dKB dIW dIL dCW dSS dWO : FuncData) : Prop where
  t : Txw mg
  dg : ∃ td, mg "DIGITS" = some (.str dgs td)
  eb : Er P w K mg base S "BadBase" CB
  i : Def K mg "is_integer" sIsInt ["value"] fI dI
  b : Def K mg "is_between" sBetw ["value", "low", "high"] fB dB
  h : Def K mg "has_digits" sHas ["text", "base"] fH dH
  kb : Def K mg "check_base" sCkBase ["base"] fKB dKB
  iw : Def K mg "is_word" sIsWord ["value", "base"] fIW dIW
variable {S CB CD CW CL CU CM fI fB fH fKB fIW fIL fCW fSS fWO : Addr} {dI dB dH dKB dIW dIL dCW dSS dWO : FuncData}
theorem btw_int {u : V} {lo hi : Int} (h : btw u lo hi = true) : ∃ b, u = .int b ∧ lo ≤ b ∧ b ≤ hi := by
  cases u with
  | int i =>
    have h' : (decide (lo ≤ i) && decide (i ≤ hi)) = true := h
    simp only [Bool.and_eq_true, decide_eq_true_eq] at h'
    exact ⟨i, rfl, h'.1, h'.2⟩
  | _ => cases h
theorem ok_isW (D : Wds P w K mg base S CB CD CW CL CU CM fI fB fH fKB fIW fIL fCW fSS fWO dI dB dH dKB dIW dIL dCW dSS dWO) : FnOk P w K mg base (L2.CX P w) 7 fIW dIW ["value", "base"] (spIsW K CB) := by
  have GK : FnOk P w K mg base (L2.CX P w) 6 fKB dKB ["base"] (spCk K 2 4 CB) := ok_ckB D.kb.F D.t D.i D.b D.eb
  obtain ⟨td, hdg⟩ := D.dg
  have GH : FnOk P w K mg base CX0 1 fH dH ["text", "base"] spHas := ok_has D.h.F D.t hdg
  refine D.iw.F.okX scIsW (fun vs H Q E h => ?_) (fun cdv A outer s H vs Q E hr h => ?_)
  · obtain ⟨v, u, rfl, _⟩ := h
    rfl
  · obtain ⟨v, u, rfl, kn, ku, k⟩ := h
    obtain ⟨⟨t, ty, h1, h2, h3⟩, hl⟩ := kn
    refine ⟨_, pss_cons (ps_expr (pe_callS GK hr rfl D.kb.g D.kb.k D.kb.b (fun σ => passAt (takes_of rfl rfl rfl rfl) σ) (pa_cons (pv 1) pa_nil)))
      (pss_one (ps_ret (pe_and (pe_callB call_isi (by rfl) D.t.isi (by decide +kernel) (pa_cons (pv 0) (pa_cons (pe_bltn (v := .ty "str") rfl D.t.str rfl rfl) pa_nil)))
        (pe_and (pe_cmpR op_le (pe_callB call_len_str (by rfl) D.t.len PySem.boot_len (pa_cons (pv 0) pa_nil)) pe_int (nomark _))
          (pe_one (pe_call GH (hr.mono (by decide)) rfl D.h.g D.h.k D.h.b .nil pass0 (pa_cons (pv 0) (pa_cons (pv 1) pa_nil)))))))), ?_⟩
    refine ⟨_, rfl, u, rfl, ku, ?_⟩
    cases q : btw u 2 4 with
    | false =>
      rw [q, if_neg Bool.false_ne_true] at k
      exact k
    | true =>
      rw [q, if_pos rfl] at k
      obtain ⟨b, rfl, b2, b4⟩ := btw_int q
      rw [if_pos rfl]
      refine ⟨_, rfl, _, .ty "str", _, _, _, rfl, .ty _, ty, kit_ty h3, _, rfl, ?_⟩
      cases v with
      | str x =>
        have hz : x.length ≤ 1000 := hl x rfl
        refine ⟨_, rfl, x, rfl, Nat.le_trans hz (by decide), _, _, rfl, rfl, _, rfl, ?_⟩
        cases q2 : decide ((x.length : Int) ≤ 100) with
        | false =>
          have e : isWd b (.str x) = false := by
            have : ¬ x.length ≤ 100 := fun z => by
              rw [decide_eq_true (show (x.length : Int) ≤ 100 by omega)] at q2
              cases q2
            show (decide (x.length ≤ 100) && _) = false
            rw [decide_eq_false this, Bool.false_and]
          have k2 := k b H rfl (fun _ _ e => e)
          rw [e] at k2
          exact k2
        | true =>
          have hx : x.length ≤ 100 := by
            have := of_decide_eq_true q2
            omega
          refine ⟨_, rfl, _, rfl, x, b, rfl, hx, fun H' sm => ?_⟩
          have k2 := k b H' rfl sm
          have e : isWd b (.str x) = x.cps.toList.all (chk b) := by
            show (decide (x.length ≤ 100) && _) = _
            rw [decide_eq_true hx, Bool.true_and]
          rw [e] at k2
          exact k2
      | _ => exact k b H rfl (fun _ _ e => e)
end
end Kre
namespace Kre
open PySem L2 Gd
theorem scIsL : FnScope ["value", "base", "width"] ["value", "base", "width"] (defScope sIsLet) := ⟨rfl, rfl, rfl, by decide +kernel, rfl, by decide +kernel, by decide +kernel⟩
/-- whether v is a letter of width wd in base b -/
def isLet (b wd : Int) : V → Bool
  | .str x => decide ((x.length : Int) = wd) && x.cps.toList.all (chk b)
  | _ => false
section
variable {P : Program} {w : World} {K : PySem.W.Frag} {mg : Str → Option Value} {base : Heap}
def spIsL (K : PySem.W.Frag) : Sp := fun vs H Q _ => ∃ (v : V) (b wd : Int), vs = [v, .int b, .int wd] ∧ Vl K H v ∧ wd ≤ 100 ∧ ∀ H', Same H H' → Q (.bl (isLet b wd v)) H'
theorem ok_isL {f fH : Addr} {fd dH : FuncData} {td : Tok} (F : Fun K "is_letter" "is_letter" sIsLet f fd) (T : Txw mg) (UH : Def K mg "has_digits" sHas ["text", "base"] fH dH) (hD : mg "DIGITS" = some (.str dgs td)) : FnOk P w K mg base CX0 2 f fd ["value", "base", "width"] (spIsL K) := by
  have GH : FnOk P w K mg base CX0 1 fH dH ["text", "base"] spHas := ok_has UH.F T hD
  refine F.ok scIsL (fun vs H Q E h => ?_) (fun cdv A outer s H vs Q E hr h => ?_)
  · obtain ⟨v, b, wd, rfl, _⟩ := h
    rfl
  · obtain ⟨v, b, wd, rfl, kn, hw, k⟩ := h
    obtain ⟨⟨t, ty, h1, h2, h3⟩, hl⟩ := kn
    refine ⟨_, pss_one (ps_ret (pe_and (pe_callB call_isi (by rfl) T.isi (by decide +kernel) (pa_cons (pv 0) (pa_cons (pe_bltn (v := .ty "str") rfl T.str rfl rfl) pa_nil)))
        (pe_and (pe_cmpR op_eq (pe_callB call_len_str (by rfl) T.len PySem.boot_len (pa_cons (pv 0) pa_nil)) (pv 2) (nomark _))
          (pe_one (pe_call GH hr rfl UH.g UH.k UH.b .nil pass0 (pa_cons (pv 0) (pa_cons (pv 1) pa_nil))))))), ?_⟩
    refine ⟨_, rfl, _, .ty "str", _, _, _, rfl, .ty _, ty, kit_ty h3, _, rfl, ?_⟩
    cases v with
    | str x =>
      have hz : x.length ≤ 1000 := hl x rfl
      refine ⟨_, rfl, x, rfl, Nat.le_trans hz (by decide), _, rfl, rfl, _, rfl, ?_⟩
      have e : isLet b wd (.str x) = (decide ((x.length : Int) = wd) && x.cps.toList.all (chk b)) := rfl
      by_cases q : (x.length : Int) = wd
      · rw [decide_eq_true q, Bool.true_and] at e
        have q3 : decide (V.int (x.length : Int) = V.int wd) = true := by rw [q]; exact decide_eq_true rfl
        rw [q3, if_pos rfl]
        refine ⟨_, rfl, _, rfl, x, b, rfl, by have : x.cps.size = x.length := rfl; omega, fun H' sm => ?_⟩
        have k2 := k H' sm
        rw [e] at k2
        exact k2
      · rw [decide_eq_false q, Bool.false_and] at e
        have k2 := k H (fun _ _ e => e)
        rw [e] at k2
        have q3 : decide (V.int (x.length : Int) = V.int wd) = false := by
          rw [decide_eq_false]
          intro z
          cases z
          exact q rfl
        rw [q3, if_neg Bool.false_ne_true]
        exact k2
    | _ => exact k H (fun _ _ e => e)
/-! ### errors with other fields -/
/-- fs', by what stands in H', reads as Ds under the names of fs -/
def Cpd (H' : Hp) (fs : List (Str × V)) (Ds : List PyData) (fs' : List (Str × V)) : Prop := fs'.map (·.1) = fs.map (·.1) ∧ Paired (fun (p : Str × V) D => Dq H' 2 false p.2 D) fs' Ds
/-- C is raised with copies of the fields fs -/
def Rf (C : Addr) (fs : List (Str × V)) (H : Hp) (E : XK) : Prop := ∃ Ds : List PyData, Paired (fun (p : Str × V) D => Dq H 2 false p.2 D) fs Ds ∧
  ∀ (d : Addr) (H' : Hp) (fs' : List (Str × V)), Same H H' → H d = none → H' d = some (.xd fs') → Cpd H' fs Ds fs' → E (.ref C) (some d) H'
theorem Rf.mono {C : Addr} {fs : List (Str × V)} {H H1 : Hp} {E : XK} (h : Rf C fs H E) (s : Same H H1) : Rf C fs H1 E := by
  obtain ⟨Ds, p, k⟩ := h
  exact ⟨Ds, L2.Paired.mapP p fun _ _ z => Dq.same s z, fun d H' fs' s' hd e c => k d H' fs' (s.trans s') (s.free hd) e c⟩
theorem rf1_of {C : Addr} {f : Str} (O : OexC K C) (no : PySem.W.findIn K (.ref C) f = some none) {v : V} {H1 : Hp} {E : XK} (h : Rf C [(f, v)] H1 E) :
    [v].length ≤ 1000 ∧ ∀ a, H1 a = none → Kone.spI1 K f (.ref a :: ([v] ++ [])) (upd H1 a (exo a C none)) (fun u H2 => u = .non ∧ ∃ (d : Addr) (fs : List (Str × V)), H2 a = some (exo a C (some d)) ∧ H2 d = some (exd d fs) ∧ H1 d = none ∧ E (.ref C) (some d) (upd (L2.del H2 a) d (.xd fs))) (fun _ _ _ => False) := by
  obtain ⟨Ds, pD, k⟩ := h
  cases pD with
  | cons hD t =>
    cases t
    rename_i D
    refine ⟨by show 1 ≤ 1000; decide, fun a ha => ⟨a, C, v, D, H1, rfl, O, no, upd_same, Kone.same_new ha, ha, hD, fun Hf v' dd s e1 e2 hn q => ⟨rfl, dd, [(f, v')], e1, e2, ?_, ?_⟩⟩⟩
    · by_cases z : dd = a
      · subst z; rw [upd_same] at hn; cases hn
      · rwa [upd_ne z] at hn
    · have nda : dd ≠ a := fun z => by subst z; rw [upd_same] at hn; cases hn
      have hd1 : H1 dd = none := by rwa [upd_ne nda] at hn
      refine k dd _ [(f, v')] (fun b o e => ?_) hd1 upd_same ⟨rfl, .cons (Kone.Dq.dat (fun b o c e => ?_) q) .nil⟩
      · have nb := ne_of_none e hd1
        have na := ne_of_none e ha
        rw [upd_ne nb, L2.del_ne na]
        exact s _ _ (Kone.hide_at na (by rw [upd_ne na]; exact e))
      · have nb : b ≠ dd := fun z => by subst z; rw [e2] at e; cases e; cases c
        have na : b ≠ a := fun z => by subst z; rw [e1] at e; cases e; cases c
        rw [upd_ne nb, L2.del_ne na]
        exact e
theorem rf2_of {C : Addr} {f1 f2 : Str} (O : OexC K C) (n1 : PySem.W.findIn K (.ref C) f1 = some none) (n2 : PySem.W.findIn K (.ref C) f2 = some none) {v1 v2 : V} {H1 : Hp} {E : XK} (h : Rf C [(f2, v2), (f1, v1)] H1 E) :
    [v1, v2].length ≤ 1000 ∧ ∀ a, H1 a = none → Kone.spI2 K f1 f2 (.ref a :: ([v1, v2] ++ [])) (upd H1 a (exo a C none)) (fun u H2 => u = .non ∧ ∃ (d : Addr) (fs : List (Str × V)), H2 a = some (exo a C (some d)) ∧ H2 d = some (exd d fs) ∧ H1 d = none ∧ E (.ref C) (some d) (upd (L2.del H2 a) d (.xd fs))) (fun _ _ _ => False) := by
  obtain ⟨Ds, pD, k⟩ := h
  cases pD with
  | cons hD2 t =>
    cases t with
    | cons hD1 t =>
      cases t
      rename_i D2 D1
      refine ⟨by show 2 ≤ 1000; decide, fun a ha => ⟨a, C, v1, v2, D1, D2, H1, rfl, O, n1, n2, upd_same, Kone.same_new ha, ha, hD1, hD2, fun Hf v1' v2' dd s e1 e2 hn q1 q2 => ⟨rfl, dd, [(f2, v2'), (f1, v1')], e1, e2, ?_, ?_⟩⟩⟩
      · by_cases z : dd = a
        · subst z; rw [upd_same] at hn; cases hn
        · rwa [upd_ne z] at hn
      · have nda : dd ≠ a := fun z => by subst z; rw [upd_same] at hn; cases hn
        have hd1 : H1 dd = none := by rwa [upd_ne nda] at hn
        have st : ∀ b o, Kone.datO o = true → Hf b = some o → upd (L2.del Hf a) dd (.xd [(f2, v2'), (f1, v1')]) b = some o := fun b o c e => by
          have nb : b ≠ dd := fun z => by subst z; rw [e2] at e; cases e; cases c
          have na : b ≠ a := fun z => by subst z; rw [e1] at e; cases e; cases c
          rw [upd_ne nb, L2.del_ne na]
          exact e
        refine k dd _ [(f2, v2'), (f1, v1')] (fun b o e => ?_) hd1 upd_same ⟨rfl, .cons (Kone.Dq.dat st q2) (.cons (Kone.Dq.dat st q1) .nil)⟩
        have nb := ne_of_none e hd1
        have na := ne_of_none e ha
        rw [upd_ne nb, L2.del_ne na]
        exact s _ _ (Kone.hide_at na (by rw [upd_ne na]; exact e))
/-- the class of an error with one field f -/
structure ErF (P : Program) (w : World) (K : PySem.W.Frag) (mg : Str → Option Value) (base : Heap) (S : Addr) (x f : Str) (C : Addr) : Prop where
  c : Kone.XC K mg S x C
  ex : ∃ (fI : Addr) (fd : FuncData), PySem.W.findIn K (.ref C) "__init__" = some (some (.ref fI)) ∧ PySem.W.typeIn K (.ref fI) = some (.type "function") ∧ FnOk P w K mg base CX0 4 fI fd ["self", f] (Kone.spI1 K f) ∧ Binds K fd ["self", f] []
  no : PySem.W.findIn K (.ref C) f = some none
structure Er2 (P : Program) (w : World) (K : PySem.W.Frag) (mg : Str → Option Value) (base : Heap) (S : Addr) (x f1 f2 : Str) (C : Addr) : Prop where
  c : Kone.XC K mg S x C
  ex : ∃ (fI : Addr) (fd : FuncData), PySem.W.findIn K (.ref C) "__init__" = some (some (.ref fI)) ∧ PySem.W.typeIn K (.ref fI) = some (.type "function") ∧ FnOk P w K mg base CX0 4 fI fd ["self", f1, f2] (Kone.spI2 K f1 f2) ∧ Binds K fd ["self", f1, f2] []
  n1 : PySem.W.findIn K (.ref C) f1 = some none
  n2 : PySem.W.findIn K (.ref C) f2 = some none
/-- all that reading and words_of lean on -/
structure Wr (P : Program) (w : World) (K : PySem.W.Frag) (mg : Str → Option Value) (base : Heap) (S CB CD CW CL CU CM fI fB fH fKB fIW fIL fCW fSS fWO : Addr) (dI dB dH dKB dIW dIL dCW dSS dWO : FuncData) : Prop where
  d : Wds P w K mg base S CB CD CW CL CU CM fI fB fH fKB fIW fIL fCW fSS fWO dI dB dH dKB dIW dIL dCW dSS dWO
  ed : ErF P w K mg base S "BadWidth" "value" CD
  ew : ErF P w K mg base S "BadWord" "value" CW
  el : ErF P w K mg base S "BadLetter" "value" CL
  eu : ErF P w K mg base S "Unlike" "part" CU
  em : Er2 P w K mg base S "TooMany" "what" "most" CM
  il : Def K mg "is_letter" sIsLet ["value", "base", "width"] fIL dIL
  cw : Def K mg "check_words" sCkWords ["words", "base"] fCW dCW
  ss : Def K mg "side_by_side" sSide ["words"] fSS dSS
  wo : Def K mg "words_of" sWordsOf ["letters", "width"] fWO dWO
  pl : ∃ (fPL : Addr) (dPL : FuncData), Def K mg "parted_letters" sParted ["letters", "width"] fPL dPL
end
end Kre
namespace Kre
open PySem L2 Gd
theorem scCW : FnScope ["words", "base", "word"] ["words", "base"] (defScope sCkWords) := ⟨rfl, rfl, rfl, by decide +kernel, rfl, by decide +kernel, by decide +kernel⟩
theorem scSS : FnScope ["words", "digits"] ["words"] (defScope sSide) := ⟨rfl, rfl, rfl, by decide +kernel, rfl, by decide +kernel, by decide +kernel⟩
/-- texts of one length -/
def even (ws : List Str) : Bool := ws.all fun x => decide (x.length = (ws.headD Str.empty).length)
def bad4 (v : V) : Bool := !isWd 4 v
theorem all_str : ∀ {vs : List V}, vs.find? bad4 = none → ∃ ws : List Str, vs = ws.map V.str
  | [], _ => ⟨[], rfl⟩
  | v :: vs, h => by
    rw [List.find?_cons] at h
    cases q : bad4 v with
    | true => rw [q] at h; cases h
    | false =>
      rw [q] at h
      obtain ⟨ws, e⟩ := all_str (vs := vs) h
      cases v with
      | str x => exact ⟨x :: ws, by rw [e]; rfl⟩
      | _ => cases q
theorem find_at {vs : List V} {i : Nat} {v : V} (h : (vs.take i).all (isWd 4) = true) (e : vs[i]? = some v) (b : isWd 4 v = false) : vs.find? bad4 = some v := by
  rw [List.find?_eq_some_iff_append]
  refine ⟨by unfold bad4; rw [b]; rfl, vs.take i, vs.drop (i + 1), ?_, fun a ha => ?_⟩
  · have hlt := (List.getElem?_eq_some_iff.mp e).1
    have e2 := (List.getElem?_eq_some_iff.mp e).2
    rw [← e2, List.getElem_cons_drop, List.take_append_drop]
  · have := List.all_eq_true.mp h a ha
    unfold bad4
    rw [this]
    rfl
theorem take_succ_all {vs : List V} {i : Nat} {v : V} {p : V → Bool} (h : (vs.take i).all p = true) (e : vs[i]? = some v) (b : p v = true) : (vs.take (i + 1)).all p = true := by
  rw [List.take_add_one, e, List.all_append, h]
  simp [b]
theorem noB {b : Bool} {F G : Prop} (hb : b = false) (h : G) : if b = true then F else G := by
  subst hb
  rw [if_neg Bool.false_ne_true]
  exact h
theorem yesB {b : Bool} {F G : Prop} (hb : b = true) (h : F) : if b = true then F else G := by
  subst hb
  rw [if_pos rfl]
  exact h
theorem at_zero {v : V} {r : List V} : atI (v :: r) 0 = some v := by
  unfold atI ixN
  rw [if_pos (by decide), if_pos (by simp)]
  rfl
section
variable {P : Program} {w : World} {K : PySem.W.Frag} {mg : Str → Option Value} {base : Heap} {S CB CD CW CL CU CM fI fB fH fKB fIW fIL fCW fSS fWO : Addr} {dI dB dH dKB dIW dIL dCW dSS dWO : FuncData}
theorem Vl.same {H H' : Hp} {v : V} (h : Vl K H v) (k : Knd K H' v) : Vl K H' v := ⟨k, h.l⟩
/-- what check_words(.., 4) does -/
def CkW (CW CU : Addr) (vs : List V) (H : Hp) (ok : Hp → Prop) (E : XK) : Prop := match vs.find? bad4 with
  | some v => Rf CW [("value", v)] H E
  | none => ∀ ws : List Str, vs = ws.map V.str → if even ws = true then ∀ H', Same H H' → ok H' else Rf CU [("part", .str "length")] H E
def spCW (K : PySem.W.Frag) (CW CU : Addr) : Sp := fun vs H Q E => ∃ (a : Addr) (xs : List V), vs = [.ref a, .int 4] ∧ H a = some (.tup xs) ∧ (∀ v, v ∈ xs → ∀ H', Same H H' → Vl K H' v) ∧ CkW CW CU xs H (fun H' => Q .non H') E
theorem ok_CW (D : Wr P w K mg base S CB CD CW CL CU CM fI fB fH fKB fIW fIL fCW fSS fWO dI dB dH dKB dIW dIL dCW dSS dWO) : FnOk P w K mg base (L2.CX P w) 8 fCW dCW ["words", "base"] (spCW K CW CU) := by
  have GW : FnOk P w K mg base (L2.CX P w) 7 fIW dIW ["value", "base"] (spIsW K CB) := ok_isW D.d
  obtain ⟨fN, fdN, iC, tI, F1, kb⟩ := D.ew.ex
  obtain ⟨fN2, fdN2, iC2, tI2, F12, kb2⟩ := D.eu.ex
  refine D.cw.F.okX scCW (fun vs H Q E h => ?_) (fun cdv A outer s H vs Q E hr h => ?_)
  · obtain ⟨a, xs, rfl, _⟩ := h
    rfl
  · obtain ⟨a, xs, rfl, ha, hv, k⟩ := h
    refine ⟨_, pss_cons (ps_for (passes_of rfl) rfl (pi_tup (pv 0)) (pg_name (i := 2) scCW.nd rfl (Or.inl rfl)) (pss_one (ps_if (pt_not (pt_val (pe_callS GW hr rfl D.d.iw.g D.d.iw.k D.d.iw.b (fun σ => passAt (takes_of rfl rfl rfl rfl) σ) (pa_cons (pv 2) (pa_cons (pv 1) pa_nil)))))
        (pss_one (ps_raise rfl (takes_of rfl rfl rfl rfl) (pmk_oex D.ew.c.o iC tI F1 (hr.mono (by decide)) kb .nil pass0 rfl D.ew.c.g (pa_cons (pv 2) pa_nil)))) pss_nil)))
      (pss_one (ps_for (passes_of rfl) rfl (pi_tup (pv 0)) (pg_name (i := 2) scCW.nd rfl (Or.inl rfl)) (pss_one (ps_if (pt_cmpR op_ne (pe_callB call_len_str (by rfl) D.d.t.len PySem.boot_len (pa_cons (pv 2) pa_nil)) (pe_callB call_len_str (by rfl) D.d.t.len PySem.boot_len (pa_cons (pe_ix ix_tup (pv 0) pe_int (fun _ _ => rfl)) pa_nil)) (nomark _))
        (pss_one (ps_raise rfl (takes_of rfl rfl rfl rfl) (pmk_oex D.eu.c.o iC2 tI2 F12 (hr.mono (by decide)) kb2 .nil pass0 rfl D.eu.c.g (pa_cons pe_str pa_nil)))) pss_nil)))), ?_⟩
    refine ⟨_, rfl, a, rfl, ⟨_, SqT.of ha⟩, for_tup (xs := xs) (fun i σ G => Same H G ∧ (∃ v, σ = [some (.ref a), some (.int 4), v]) ∧ (xs.take i).all (isWd 4) = true) ?_ ?_ ?_ ?_⟩
    · exact ⟨fun _ _ e => e, ⟨none, rfl⟩, by rw [List.take_zero]; rfl⟩
    · rintro i σ G hi ⟨sm, _⟩
      exact SqT.of (sm _ _ ha)
    · rintro i x σ G hx ⟨sm, ⟨v0, rfl⟩, hall⟩
      have hm := List.mem_of_getElem? hx
      refine ⟨_, rfl, _, rfl, x, .int 4, rfl, hv x hm G sm, knd_int, ?_⟩
      rw [if_pos (show btw (.int 4) 2 4 = true by rfl)]
      intro b H1 eb sm1
      cases eb
      refine ⟨_, rfl, ?_⟩
      cases q : isWd 4 x with
      | false =>
        have k2 := k
        unfold CkW at k2
        rw [find_at hall hx q] at k2
        exact ⟨_, rfl, rf1_of D.ew.c.o D.ew.no (k2.mono (sm.trans sm1))⟩
      | true => exact ⟨sm.trans sm1, ⟨_, rfl⟩, take_succ_all hall hx q⟩
    · rintro σ G ⟨sm, ⟨v0, rfl⟩, hall⟩
      rw [List.take_of_length_le (Nat.le_refl _)] at hall
      have nf : xs.find? bad4 = none := by
        rw [List.find?_eq_none]
        intro v hvm
        have := List.all_eq_true.mp hall v hvm
        unfold bad4
        rw [this]
        decide
      unfold CkW at k
      rw [nf] at k
      obtain ⟨ws, rfl⟩ := all_str nf
      have k := k ws rfl
      have hz : ∀ x, x ∈ ws → x.length ≤ 100 := fun x hx => by
        have := List.all_eq_true.mp hall (.str x) (List.mem_map.mpr ⟨x, hx, rfl⟩)
        have h2 : (decide (x.length ≤ 100) && x.cps.toList.all (chk 4)) = true := this
        rw [Bool.and_eq_true, decide_eq_true_eq] at h2
        exact h2.1
      refine ⟨_, rfl, a, rfl, ⟨_, SqT.of (sm _ _ ha)⟩, for_tup (xs := ws.map V.str) (fun i σ G => Same H G ∧ (∃ v, σ = [some (.ref a), some (.int 4), v]) ∧ (ws.take i).all (fun x => decide (x.length = (ws.headD Str.empty).length)) = true) ?_ ?_ ?_ ?_⟩
      · exact ⟨sm, ⟨_, rfl⟩, by rw [List.take_zero]; rfl⟩
      · rintro i σ G hi ⟨sm, _⟩
        exact SqT.of (sm _ _ ha)
      · rintro i y σ G hx ⟨sm, ⟨v0, rfl⟩, hall2⟩
        rw [List.getElem?_map] at hx
        obtain ⟨x, hx1, rfl⟩ : ∃ x, ws[i]? = some x ∧ V.str x = y := by
          cases e : ws[i]? with
          | none => rw [e] at hx; cases hx
          | some x => rw [e] at hx; exact ⟨x, rfl, Option.some.inj hx⟩
        obtain ⟨h0, r, rfl⟩ : ∃ h0 r, ws = h0 :: r := by
          cases ws with
          | nil => cases hx1
          | cons h0 r => exact ⟨h0, r, rfl⟩
        refine ⟨_, rfl, x, rfl, Nat.le_trans (hz x (List.mem_of_getElem? hx1)) (by decide), _, rfl, a, _, 0, .str h0, rfl, rfl, SqT.of (sm _ _ ha), at_zero, h0, rfl, Nat.le_trans (hz h0 (List.mem_cons_self ..)) (by decide), ?_⟩
        refine ⟨rfl, _, rfl, ?_⟩
        by_cases q : x.length = h0.length
        · have q3 : (!decide (V.int (x.length : Int) = V.int (h0.length : Int))) = false := by rw [q, decide_eq_true rfl]; rfl
          refine noB q3 ?_
          refine ⟨sm, ⟨_, rfl⟩, ?_⟩
          rw [List.take_add_one, hx1, List.all_append, hall2]
          show (true && (decide (x.length = h0.length) && true)) = true
          rw [decide_eq_true q]
          rfl
        · have q3 : (!decide (V.int (x.length : Int) = V.int (h0.length : Int))) = true := by
            rw [decide_eq_false]
            · rfl
            · intro z
              injection z with z
              exact q (Int.ofNat.inj z)
          refine yesB q3 ?_
          have ne : even (h0 :: r) = false := by
            cases e : even (h0 :: r) with
            | false => rfl
            | true => exact absurd (of_decide_eq_true (List.all_eq_true.mp e x (List.mem_of_getElem? hx1))) q
          rw [ne, if_neg Bool.false_ne_true] at k
          exact rf1_of D.eu.c.o D.eu.no (k.mono sm)
      · rintro σ G ⟨sm, ⟨v0, rfl⟩, hall2⟩
        rw [List.length_map, List.take_of_length_le (Nat.le_refl _)] at hall2
        have ev : even ws = true := hall2
        rw [ev, if_pos rfl] at k
        exact k G sm
end
end Kre
namespace Kre
open PySem L2 Gd
/-- one sign -/
def one (c : Nat) : Str := ⟨#[c]⟩
theorem one_len {c : Nat} : (one c).length = 1 := rfl
theorem sum_one : ∀ (cs : List Nat), ((cs.map one).map (·.length)).sum = cs.length
  | [] => rfl
  | c :: cs => by
    rw [List.map_cons, List.map_cons, List.sum_cons, sum_one cs, one_len]
    simp [Nat.add_comm]
theorem join_one : ∀ (cs : List Nat), Txt.join Str.empty (cs.map one) = ⟨cs.toArray⟩
  | [] => by rw [TL.join_eq]; rfl
  | [c] => by rw [TL.join_eq]; rfl
  | c :: e :: r => by
    have ih := join_one (e :: r)
    rw [TL.join_eq] at ih ⊢
    show one c ++ Str.empty ++ Str.join Str.empty ((e :: r).map one) = _
    rw [ih]
    show Str.mk ((one c).cps ++ #[] ++ (e :: r).toArray) = _
    rw [Array.append_empty]
    congr 1
    simp [one]
/-- the letter of index i -/
def lett (ws : List Str) (i : Nat) : Str := ⟨(ws.map fun x => x.cps.getD i 0).toArray⟩
/-- the reading of texts of one length -/
def lets (ws : List Str) : List V := (List.range (ws.headD Str.empty).length).map fun i => .str (lett ws i)
theorem walk_zipS {ws : List Str} {n : Nat} (h : ∀ x, x ∈ ws → x.cps.size = n) (h0 : ws = [] → n = 0) : Walk (ItzS ws) n (fun _ => True) (fun i H v H' => ∃ T, v = .ref T ∧ H T = none ∧ H' = upd H T (.tup (ws.map (sgn i)))) :=
  ⟨fun i _ hi _ => by
    cases ws with
    | nil => rw [h0 rfl] at hi; exact absurd hi (Nat.not_lt_zero _)
    | cons x r => exact ⟨x, r, rfl, by rw [h x (List.mem_cons_self ..)]; exact hi⟩, fun _ _ x hx => (h x hx).symm, fun _ _ _ _ _ _ y => y⟩
/-- sep.join(xs), by the ground -/
def rJn (K : PySem.W.Frag) : V → List V → Hp → VK → Prop := fun x xs H Q => ∃ a p, ∃ ys : List Str, x = .str a ∧ xs = [.ref p] ∧ (SqL K H p (ys.map V.str) ∨ SqT K H p (ys.map V.str)) ∧ (ys.map (·.length)).sum + ys.length * a.length ≤ 16777216 ∧ Q (.str (Txt.join a ys)) H
section
variable {P : Program} {w : World} {K : PySem.W.Frag} {mg : Str → Option Value} {base : Heap} {S CB CD CW CL CU CM fI fB fH fKB fIW fIL fCW fSS fWO : Addr} {dI dB dH dKB dIW dIL dCW dSS dWO : FuncData}
def spSS : Sp := fun vs H Q _ => ∃ (a : Addr) (ws : List Str), vs = [.ref a] ∧ H a = some (.tup (ws.map V.str)) ∧ ws.length ≤ 3 ∧ even ws = true ∧ (∀ x, x ∈ ws → x.length ≤ 100) ∧ ∀ (t : Addr) (H' : Hp), Same H H' → H t = none → H' t = some (.tup (lets ws)) → Q (.ref t) H'
theorem ok_SS {f : Addr} {fd : FuncData} (F : Fun K "side_by_side" "side_by_side" sSide f fd) (T : Txw mg) : FnOk P w K mg base CX0 1 f fd ["words"] spSS := by
  refine F.ok scSS (fun vs H Q E h => ?_) (fun cdv A outer s H vs Q E hr h => ?_)
  · obtain ⟨a, ws, rfl, _⟩ := h
    rfl
  · obtain ⟨a, ws, rfl, ha, hl, ev, hz, k⟩ := h
    have evs : ∀ x y, x ∈ ws → y ∈ ws → x.cps.size = y.cps.size := fun x y hx hy => by
      have h1 := of_decide_eq_true (List.all_eq_true.mp ev x hx)
      have h2 := of_decide_eq_true (List.all_eq_true.mp ev y hy)
      exact h1.trans h2.symm
    have hd : ∀ x, x ∈ ws → x.cps.size = (ws.headD Str.empty).length := fun x hx => of_decide_eq_true (List.all_eq_true.mp ev x hx)
    refine ⟨_, pss_one (ps_ret (pe_callTy call_tuple_of (by rfl) T.tuple (by decide +kernel) (pa_cons (pe_lc (own := [("digits", 1)]) (g := gName 1) (tt := tYes) (te := tM1 (rJn K) (tC (.str "")) (tVar 1)) rfl scSS.nd (pi_zipS (by rfl) T.zip (pv 0)) (blkOk_by (N := ["words", "digits"]) (sc := defScope sSide) (by decide +kernel)) (fun _ _ _ _ _ => pg_name (i := 1) scSS.nd rfl (Or.inl rfl)) (fun _ _ _ _ _ => pts_nil)
        (fun _ _ _ _ _ => pe_join pe_str (pv 1))) pa_nil))), ?_⟩
    refine ⟨_, rfl, a, ws, rfl, SqT.of ha, hl, evs, fun D hD => ?_⟩
    have hn : (ws.headD Str.empty).length ≤ 100 := by
      cases ws with
      | nil => exact Nat.zero_le _
      | cons x r => exact hz x (List.mem_cons_self ..)
    refine lc_it (walk_zipS (n := (ws.headD Str.empty).length) hd (fun e => by rw [e]; rfl)) (fun i G => Same H G ∧ G D = some (.lst ((List.range i).map fun i => .str (lett ws i)))) ?_ (fun _ _ _ _ => True.intro) ?_ ?_
    · exact ⟨Kone.same_new hD, by rw [upd_same]; rfl⟩
    · rintro i v G G' hi ⟨sm, hDl⟩ ⟨t, rfl, ht, rfl⟩
      have nt : D ≠ t := ne_of_none hDl ht
      refine ⟨rfl, ⟨_, rfl⟩, _, rfl, Str.empty, t, (ws.map fun x => x.cps.getD i 0).map one, rfl, rfl, .inr (SqT.of ?_), ?_, (List.range i).map fun i => V.str (lett ws i), ?_, ?_, ?_, ?_⟩
      · rw [upd_same, List.map_map, List.map_map]
        rfl
      · rw [sum_one, List.length_map]
        show ws.length + _ * 0 ≤ _
        omega
      · rw [upd_ne nt]
        exact hDl
      · rw [List.length_map, List.length_range]
        exact Nat.lt_of_lt_of_le hi (Nat.le_trans hn (by decide))
      · intro b o e
        have := sm b o e
        rw [upd_ne (ne_of_none e hD), upd_ne (ne_of_none this ht)]
        exact this
      · rw [upd_same, join_one, List.range_succ, List.map_append]
        rfl
    · rintro G ⟨sm, hDl⟩
      exact ⟨D, _, rfl, .inl ⟨SqL.of hDl, fun l hl => k l _ (fun b o e => by
        have := sm b o e
        rw [upd_ne (ne_of_none this hl)]
        exact this) (sm.free hl) upd_same⟩⟩
end
end Kre
namespace Kre
open PySem L2 Gd
theorem scRd : FnScope ["words"] ["words"] (defScope sReading) := ⟨rfl, rfl, rfl, by decide +kernel, rfl, by decide +kernel, by decide +kernel⟩
abbrev NW : List Str := ["letters", "width", "letter"]
abbrev NP : List Str := ["letters", "width", "place", "letter"]
def scPl : Scope := { kind := ScopeKind.function, names := [(".0", NameKind.local), ("place", NameKind.cell), ("letters", NameKind.cell)], isGenerator := false, isCoroutine := false }
theorem scPL : FnScope NP ["letters", "width"] (defScope sParted) := ⟨rfl, rfl, rfl, by decide +kernel, rfl, by decide +kernel, by decide +kernel⟩
theorem scWO : FnScope NW ["letters", "width"] (defScope sWordsOf) := ⟨rfl, rfl, rfl, by decide +kernel, rfl, by decide +kernel, by decide +kernel⟩
section
variable {P : Program} {w : World} {K : PySem.W.Frag} {mg : Str → Option Value} {base : Heap} {S CB CD CW CL CU CM fI fB fH fKB fIW fIL fCW fSS fWO : Addr} {dI dB dH dKB dIW dIL dCW dSS dWO : FuncData}
/-- what reading does with the tuple xs -/
def RdO (CW CU CM : Addr) (xs : List V) (H : Hp) (Q : VK) (E : XK) : Prop :=
  CkW CW CU xs H (fun H' => if 3 < xs.length then Rf CM [("most", .int 3), ("what", .str "words")] H' E else ∀ ws : List Str, xs = ws.map V.str → ∀ (t : Addr) (H2 : Hp), Same H' H2 → H' t = none → H2 t = some (.tup (lets ws)) → Q (.ref t) H2) E
theorem RdO.mono {CW CU CM : Addr} {xs : List V} {H H1 : Hp} {Q : VK} {E : XK} (k : RdO CW CU CM xs H Q E) (s : Same H H1) : RdO CW CU CM xs H1 Q E := by
  unfold RdO CkW at k ⊢
  cases q : xs.find? bad4 with
  | some v =>
    rw [q] at k
    exact Rf.mono k s
  | none =>
    rw [q] at k
    intro ws ew
    have k := k ws ew
    cases q2 : even ws with
    | false =>
      rw [q2, if_neg Bool.false_ne_true] at k
      rw [if_neg Bool.false_ne_true]
      exact Rf.mono k s
    | true =>
      rw [q2, if_pos rfl] at k
      rw [if_pos rfl]
      exact fun H' s' => k H' (s.trans s')
theorem find_all {vs : List V} (h : vs.find? bad4 = none) : ∀ x, V.str x ∈ vs → x.length ≤ 100 := fun x hx => by
  have h1 := List.find?_eq_none.mp h (.str x) hx
  have h2 : isWd 4 (.str x) = true := by
    cases q : isWd 4 (.str x) with
    | true => rfl
    | false => unfold bad4 at h1; rw [q] at h1; exact absurd rfl h1
  have h3 : (decide (x.length ≤ 100) && x.cps.toList.all (chk 4)) = true := h2
  rw [Bool.and_eq_true, decide_eq_true_eq] at h3
  exact h3.1
theorem ok_Rd (D : Wr P w K mg base S CB CD CW CL CU CM fI fB fH fKB fIW fIL fCW fSS fWO dI dB dH dKB dIW dIL dCW dSS dWO) {f : Addr} {kV dc pm cdv ct oc : Value} {an od : Option Addr} {osl : Array (Option Value)}
    (lk : K.lookup f = some ⟨oc, od, .func (PySem.W.fnOf "reading" "reading" (defArgs sReading) (defBody sReading) (defScope sReading) .none kV dc pm an cdv ct), osl⟩) (hcd : PySem.W.codeIn K cdv "reading" = true)
    (hb : ∀ us rest : List Value, us.length = 0 → bindArgs (PySem.W.fnOf "reading" "reading" (defArgs sReading) (defBody sReading) (defScope sReading) .none kV dc pm an cdv ct) ⟨us ++ rest, []⟩ = (newTuple rest >>= fun t => pure (([] : List Str).zip us ++ [(("words" : Str), t)]))) :
    FnR P w K mg base (L2.CX P w) 9 f (fun vs H Q E => vs.length ≤ 100 ∧ (∀ v, v ∈ vs → ∀ H', Same H H' → Vl K H' v) ∧ RdO CW CU CM vs H Q E) := by
  have GC : FnOk P w K mg base (L2.CX P w) 8 fCW dCW ["words", "base"] (spCW K CW CU) := ok_CW D
  have GS : FnOk P w K mg base CX0 1 fSS dSS ["words"] spSS := ok_SS D.ss.F D.d.t
  obtain ⟨fN, fdN, iC, tI, F1, kb⟩ := D.em.ex
  have R := StX.fn_star (CX := L2.CX P w) (sp := fun vs H Q E => ∃ (p : Addr) (xs : List V), vs = [.ref p] ∧ H p = some (.tup xs) ∧ xs.length ≤ 100 ∧ (∀ v, v ∈ xs → ∀ H', Same H H' → Vl K H' v) ∧ RdO CW CU CM xs H Q E) (ps := []) (pv := "words") (N := ["words"]) (k := 8) lk hcd scRd StX.cxUp (P := P) (w := w) (mg := mg) (base := base) hb (fun A outer s H vs Q E hr h => ?_)
  · intro A outer s H us vs Q E hr e0 r ⟨hl, hv, k⟩
    refine R A outer s H us vs Q E hr e0 r ⟨[], vs, rfl, rfl, Nat.le_trans hl (by decide), fun p hp => ⟨p, vs, rfl, upd_same, hl, fun v hm H' s' => hv v hm H' ((Kone.same_new hp).trans s'), k.mono (Kone.same_new hp)⟩⟩
  · obtain ⟨p, xs, rfl, hp, hl, hv, k⟩ := h
    refine ⟨_, pss_cons (ps_expr (pe_callS GC hr rfl D.cw.g D.cw.k D.cw.b (fun σ => passAt (takes_of rfl rfl rfl rfl) σ) (pa_cons (pv 0) (pa_cons pe_int pa_nil))))
      (pss_cons (ps_if (pt_cmpR op_gt (pe_callB call_len_seq (by rfl) D.d.t.len PySem.boot_len (pa_cons (pv 0) pa_nil)) pe_int (nomark _))
        (pss_one (ps_raise rfl (takes_of rfl rfl rfl rfl) (pmk_oex D.em.c.o iC tI F1 (hr.mono (by decide)) kb .nil pass0 rfl D.em.c.g (pa_cons pe_str (pa_cons pe_int pa_nil))))) pss_nil)
      (pss_one (ps_ret (pe_call GS (hr.mono (by decide)) rfl D.ss.g D.ss.k D.ss.b .nil pass0 (pa_cons (pv 0) pa_nil))))), ?_⟩
    refine ⟨_, rfl, p, xs, rfl, hp, hv, ?_⟩
    unfold RdO at k
    unfold CkW at k ⊢
    cases q : xs.find? bad4 with
    | some v =>
      rw [q] at k
      exact k
    | none =>
      rw [q] at k
      intro ws ew
      have k := k ws ew
      cases q2 : even ws with
      | false =>
        rw [q2, if_neg Bool.false_ne_true] at k
        rw [if_neg Bool.false_ne_true]
        exact k
      | true =>
        rw [q2, if_pos rfl] at k
        rw [if_pos rfl]
        intro H' sm
        have k : if 3 < xs.length then Rf CM [("most", .int 3), ("what", .str "words")] H' E else ∀ ws : List Str, xs = ws.map V.str → ∀ (t : Addr) (H2 : Hp), Same H' H2 → H' t = none → H2 t = some (.tup (lets ws)) → Q (.ref t) H2 := k H' sm
        refine ⟨_, rfl, p, xs, rfl, .inr (SqT.of (sm _ _ hp)), _, _, rfl, rfl, _, rfl, ?_⟩
        by_cases q3 : 3 < xs.length
        · rw [if_pos q3] at k
          refine yesB (decide_eq_true (by omega)) ?_
          exact rf2_of D.em.c.o D.em.n1 D.em.n2 k
        · rw [if_neg q3] at k
          refine noB (decide_eq_false (by omega)) ?_
          refine ⟨_, rfl, p, ws, rfl, by rw [← ew]; exact sm _ _ hp, ?_, q2, ?_, fun t H2 s2 ht e => k ws ew t H2 s2 ht e⟩
          · rw [ew, List.length_map] at q3
            omega
          · intro x hx
            exact find_all q x (by rw [ew]; exact List.mem_map.mpr ⟨x, hx, rfl⟩)
theorem find_atP {p : V → Bool} {vs : List V} {i : Nat} {v : V} (h : (vs.take i).all p = true) (e : vs[i]? = some v) (b : p v = false) : vs.find? (fun v => !p v) = some v := by
  rw [List.find?_eq_some_iff_append]
  refine ⟨by rw [b]; rfl, vs.take i, vs.drop (i + 1), ?_, fun a ha => ?_⟩
  · have hlt := (List.getElem?_eq_some_iff.mp e).1
    have e2 := (List.getElem?_eq_some_iff.mp e).2
    rw [← e2, List.getElem_cons_drop, List.take_append_drop]
  · have := List.all_eq_true.mp h a ha
    rw [this]
    rfl
theorem all_let {b wd : Int} : ∀ {vs : List V}, vs.all (isLet b wd) = true → ∃ ws : List Str, vs = ws.map V.str
  | [], _ => ⟨[], rfl⟩
  | v :: vs, h => by
    rw [List.all_cons, Bool.and_eq_true] at h
    obtain ⟨ws, e⟩ := all_let (vs := vs) h.2
    cases v with
    | str x => exact ⟨x :: ws, by rw [e]; rfl⟩
    | _ => exact nomatch h.1
/-- the words of which these are the letters -/
def spPL (K : PySem.W.Frag) : Sp := fun vs H Q _ => ∃ (a : Addr) (n : Nat) (ws : List Str), vs = [.ref a, .int (n : Int)] ∧ H a = some (.tup (ws.map V.str)) ∧ n ≤ 3 ∧ ws.length ≤ 100 ∧ (∀ x, x ∈ ws → x.cps.size = n) ∧
  ∀ (t : Addr) (H' : Hp), Same H H' → H t = none → H' t = some (.tup ((List.range n).map fun p => .str (lett ws p))) → Q (.ref t) H'
theorem ok_PL {f : Addr} {fd : FuncData} (F : Fun K "parted_letters" "parted_letters" sParted f fd) (T : Txw mg) : FnOk P w K mg base CX0 1 f fd ["letters", "width"] (spPL K) := by
  refine F.ok scPL (fun vs H Q E h => ?_) (fun cdv A outer s H vs Q E hr h => ?_)
  · obtain ⟨a, n, ws, rfl, _⟩ := h
    rfl
  · obtain ⟨a, n, ws, rfl, ha, n3, h1, hz, k⟩ := h
    refine ⟨_, pss_one (ps_ret (pe_callTy call_tuple_of (by rfl) T.tuple (by decide +kernel) (pa_cons (pe_lc (own := [("place", 2)]) (g := gName 2) (tt := tYes) (te := tM1 (rJn K) (tC (.str "")) (tLc (iTup K (tVar 0)) (gName 3) tYes (tOp (fun x y H Q => ∃ z i c, x = .str z ∧ y = .int i ∧ 0 ≤ i ∧ i < 2 ^ 63 ∧ i < z.length ∧ z.cps[i.toNat]? = some c ∧ Q (.str ⟨#[c]⟩) H) (tVar 3) (tVar 2)) [3])) rfl scPL.nd (pi_range1 rfl T.range (pa_cons (pv 1) pa_nil)) (blkOk_by (N := NP) (sc := defScope sParted) (by decide +kernel)) (fun _ _ _ _ _ => pg_name (i := 2) scPL.nd rfl (Or.inr rfl)) (fun _ _ _ _ _ => pts_nil)
        (fun _ _ _ _ _ => pe_join pe_str (pe_lc (own := [("letter", 3)]) (g := gName 3) (tt := tYes) rfl scPL.nd (pi_tup (pv 0)) (blkOk_by (N := NP) (sc := scPl) (by decide +kernel)) (fun _ _ _ _ _ => pg_name (i := 3) scPL.nd rfl (Or.inl rfl)) (fun _ _ _ _ _ => pts_nil) (fun _ _ _ _ _ => pe_item_str (pv 3) (pv 2) (fun _ _ => rfl))))) pa_nil))), ?_⟩
    refine ⟨_, rfl, (n : Int), rfl, by omega, by omega, fun D1 hD1 => lc_range (n := n) (fun i G1 => Same H G1 ∧ G1 D1 = some (.lst ((List.range i).map fun p => .str (lett ws p)))) ?_ ?_ ?_⟩
    · exact ⟨Kone.same_new hD1, by rw [upd_same]; rfl⟩
    · rintro i G1 hi ⟨s1, hL⟩
      refine ⟨rfl, ⟨_, rfl⟩, _, rfl, a, rfl, ⟨_, SqT.of (s1 _ _ ha)⟩, fun D2 hD2 => lc_tup (K := K) (a := a) (xs := ws.map V.str) (fun j G2 => Same H G2 ∧ G2 D1 = some (.lst ((List.range i).map fun p => .str (lett ws p))) ∧ G2 D2 = some (.lst ((ws.take j).map fun x => .str (one (x.cps.getD i 0))))) ?_ ?_ ?_ ?_⟩
      · refine ⟨s1.trans (Kone.same_new hD2), ?_, by rw [upd_same]; rfl⟩
        rw [upd_ne (ne_of_none hL hD2)]
        exact hL
      · rintro j G2 hj ⟨s2, _⟩
        exact SqT.of (s2 _ _ ha)
      · rintro j y G2 hy ⟨s2, hL2, hM⟩
        rw [List.getElem?_map] at hy
        obtain ⟨x, hx1, rfl⟩ : ∃ x, ws[j]? = some x ∧ V.str x = y := by
          cases e : ws[j]? with
          | none => rw [e] at hy; cases hy
          | some x => rw [e] at hy; exact ⟨x, rfl, Option.some.inj hy⟩
        have hxs := hz x (List.mem_of_getElem? hx1)
        have hlt : i < x.cps.size := by omega
        have hc : x.cps[(0 + (i : Int)).toNat]? = some (x.cps.getD i 0) := by
          have e : (0 + (i : Int)).toNat = i := by omega
          rw [e, Array.getD_eq_getD_getElem?, Array.getElem?_eq_getElem hlt]
          rfl
        have nD : D2 ≠ D1 := (ne_of_none hL hD2).symm
        refine ⟨rfl, _, rfl, _, rfl, x, 0 + (i : Int), _, rfl, rfl, by omega, by omega, by show _ < (x.cps.size : Int); omega, hc, _, hM, ?_, ?_, ?_, ?_⟩
        · rw [List.length_map, List.length_take]
          have : (101 : Nat) < sizeLine := by decide
          omega
        · intro b o e
          have := s2 b o e
          have e1 := (Kone.same_new hD2 (o := .lst [])) b o (s1 b o e)
          rw [upd_ne (ne_of_none (s1 b o e) hD2)]
          exact this
        · rw [upd_ne nD.symm]
          exact hL2
        · rw [upd_same, List.take_add_one, hx1, List.map_append]
          rfl
      · rintro G2 ⟨s2, hL2, hM⟩
        rw [List.length_map, List.take_of_length_le (Nat.le_refl _)] at hM
        refine ⟨Str.empty, D2, (ws.map fun x => x.cps.getD i 0).map one, rfl, rfl, .inl (SqL.of ?_), ?_, _, hL2, ?_, ?_, ?_⟩
        · rw [hM, List.map_map, List.map_map]
          rfl
        · rw [sum_one, List.length_map]
          show ws.length + _ * 0 ≤ _
          omega
        · rw [List.length_map, List.length_range]
          exact Nat.lt_of_lt_of_le hi (Nat.le_trans (show n ≤ 3 by omega) (by decide))
        · intro b o e
          have := s2 b o e
          rw [upd_ne (ne_of_none e hD1)]
          exact this
        · rw [upd_same, join_one, List.range_succ, List.map_append]
          rfl
    · rintro G1 ⟨s1, hL⟩
      refine ⟨D1, _, rfl, .inl ⟨SqL.of hL, fun l hl => k l _ (s1.trans (Kone.same_new hl)) (s1.free hl) ?_⟩⟩
      rw [upd_same]
def KndT (K : PySem.W.Frag) (H : Hp) (v : V) : Prop := ∃ t : String, TyX K H v (.type t) ∧ kitB t "tuple" = some false
def badL (wd : Int) (v : V) : Bool := !isLet 4 wd v
/-- what words_of does with letters v and width u -/
def WoO (K : PySem.W.Frag) (CD CL : Addr) (v u : V) (H : Hp) (Q : VK) (E : XK) : Prop :=
  if btw u 1 3 = true then ∀ wd, u = .int wd →
    (KndT K H v ∧ Rf CL [("value", .non)] H E) ∨ ∃ (a : Addr) (xs : List V), v = .ref a ∧ H a = some (.tup xs) ∧ xs.length ≤ 1000 ∧ if 100 < xs.length then Rf CL [("value", .non)] H E else (∀ y, y ∈ xs → ∀ H', Same H H' → Vl K H' y) ∧ match xs.find? (badL wd) with
      | some y => Rf CL [("value", y)] H E
      | none => ∀ ws : List Str, xs = ws.map V.str → ∀ (t : Addr) (H' : Hp), Same H H' → H t = none → H' t = some (.tup ((List.range wd.toNat).map fun p => .str (lett ws p))) → Q (.ref t) H'
  else Rf CD [("value", u)] H E
def spWO (K : PySem.W.Frag) (CD CL : Addr) : Sp := fun vs H Q E => ∃ v u, vs = [v, u] ∧ Knd K H u ∧ WoO K CD CL v u H Q E
theorem ok_WO (D : Wr P w K mg base S CB CD CW CL CU CM fI fB fH fKB fIW fIL fCW fSS fWO dI dB dH dKB dIW dIL dCW dSS dWO) : FnOk P w K mg base (L2.CX P w) 6 fWO dWO ["letters", "width"] (spWO K CD CL) := by
  have GB : FnOk P w K mg base CX0 2 fB dB ["value", "low", "high"] (spBetw K) := ok_betw D.d.b.F D.d.t D.d.i
  obtain ⟨td, hdg⟩ := D.d.dg
  have GL : FnOk P w K mg base CX0 2 fIL dIL ["value", "base", "width"] (spIsL K) := ok_isL D.il.F D.d.t D.d.h hdg
  obtain ⟨fPL, dPL, UP⟩ := D.pl
  have GP : FnOk P w K mg base CX0 1 fPL dPL ["letters", "width"] (spPL K) := ok_PL UP.F D.d.t
  obtain ⟨fN, fdN, iC, tI, F1, kb⟩ := D.ed.ex
  obtain ⟨fN2, fdN2, iC2, tI2, F12, kb2⟩ := D.el.ex
  refine D.wo.F.okX scWO (fun vs H Q E h => ?_) (fun cdv A outer s H vs Q E hr h => ?_)
  · obtain ⟨v, u, rfl, _⟩ := h
    rfl
  · obtain ⟨v, u, rfl, ku, k⟩ := h
    refine ⟨_, pss_cons (ps_if (pt_not (pt_val (pe_call GB (hr.mono (by decide)) rfl D.d.b.g D.d.b.k D.d.b.b .nil pass0 (pa_cons (pv 1) (pa_cons pe_int (pa_cons pe_int pa_nil)))))) (pss_one (ps_raise rfl (takes_of rfl rfl rfl rfl) (pmk_oex D.ed.c.o iC tI F1 hr kb .nil pass0 rfl D.ed.c.g (pa_cons (pv 1) pa_nil)))) pss_nil)
      (pss_cons (ps_if (PW.pt (pw_or (pt_not (pt_val (pe_callB call_isi (by rfl) D.d.t.isi (by decide +kernel) (pa_cons (pv 0) (pa_cons (pe_bltn (v := .ty "tuple") rfl D.d.t.tuple rfl rfl) pa_nil))))) (pw_or1 (pt_cmpR op_gt (pe_callB call_len_seq (by rfl) D.d.t.len PySem.boot_len (pa_cons (pv 0) pa_nil)) pe_int (nomark _)))))
        (pss_one (ps_raise rfl (takes_of rfl rfl rfl rfl) (pmk_oex D.el.c.o iC2 tI2 F12 hr kb2 .nil pass0 rfl D.el.c.g (pa_cons pe_non pa_nil)))) pss_nil)
      (pss_cons (ps_for (passes_of rfl) rfl (pi_tup (pv 0)) (pg_name (i := 2) scWO.nd rfl (Or.inl rfl)) (pss_one (ps_if (pt_not (pt_val (pe_call GL (hr.mono (by decide)) rfl D.il.g D.il.k D.il.b .nil pass0 (pa_cons (pv 2) (pa_cons pe_int (pa_cons (pv 1) pa_nil))))))
        (pss_one (ps_raise rfl (takes_of rfl rfl rfl rfl) (pmk_oex D.el.c.o iC2 tI2 F12 hr kb2 .nil pass0 rfl D.el.c.g (pa_cons (pv 2) pa_nil)))) pss_nil)))
      (pss_one (ps_ret (pe_call GP (hr.mono (by decide)) rfl UP.g UP.k UP.b .nil pass0 (pa_cons (pv 0) (pa_cons (pv 1) pa_nil))))))), ?_⟩
    refine ⟨_, rfl, u, 1, 3, rfl, ku, _, rfl, ?_⟩
    unfold WoO at k
    cases q : btw u 1 3 with
    | false =>
      rw [q, if_neg Bool.false_ne_true] at k
      exact ⟨_, rfl, rf1_of D.ed.c.o D.ed.no k⟩
    | true =>
      rw [q, if_pos rfl] at k
      obtain ⟨wd, rfl, w1, w3⟩ := btw_int q
      refine noB rfl ?_
      rcases k wd rfl with ⟨⟨t, ty, kt⟩, k⟩ | ⟨a, xs, rfl, ha, hx, k⟩
      · refine ⟨_, rfl, _, .ty "tuple", _, _, _, rfl, .ty _, ty, kit_ty kt, _, rfl, ?_⟩
        refine yesB rfl ?_
        exact rf1_of D.el.c.o D.el.no k
      · refine ⟨_, rfl, _, .ty "tuple", _, _, _, rfl, .ty _, .base (.tup ha), kit_ty (show kitB "tuple" "tuple" = some true by decide +kernel), _, rfl, ?_⟩
        refine noB rfl ?_
        refine ⟨_, rfl, a, xs, rfl, .inr (SqT.of ha), _, _, rfl, rfl, _, rfl, ?_⟩
        by_cases q2 : 100 < xs.length
        · rw [if_pos q2] at k
          refine yesB (decide_eq_true (by omega)) ?_
          exact rf1_of D.el.c.o D.el.no k
        · rw [if_neg q2] at k
          obtain ⟨hv, k⟩ := k
          refine noB (decide_eq_false (by omega)) ?_
          obtain ⟨n, rfl⟩ : ∃ n : Nat, wd = (n : Int) := ⟨wd.toNat, by omega⟩
          refine ⟨_, rfl, a, rfl, ⟨_, SqT.of ha⟩, for_tup (xs := xs) (fun i σ G => Same H G ∧ (∃ v, σ = [some (.ref a), some (.int n), v]) ∧ (xs.take i).all (isLet 4 n) = true) ?_ ?_ ?_ ?_⟩
          · exact ⟨fun _ _ e => e, ⟨none, rfl⟩, by rw [List.take_zero]; rfl⟩
          · rintro i σ G hi ⟨sm, _⟩
            exact SqT.of (sm _ _ ha)
          · rintro i x σ G hxi ⟨sm, ⟨v0, rfl⟩, hall⟩
            have hm := List.mem_of_getElem? hxi
            refine ⟨_, rfl, _, rfl, x, 4, n, rfl, hv x hm G sm, by omega, fun H1 sm1 => ?_⟩
            refine ⟨_, rfl, ?_⟩
            cases q5 : isLet 4 n x with
            | false =>
              have f := find_atP hall hxi q5
              have k2 : match List.find? (fun v => !isLet 4 n v) xs with
                | some y => Rf CL [("value", y)] H E
                | none => _ := k
              rw [f] at k2
              exact ⟨_, rfl, rf1_of D.el.c.o D.el.no (k2.mono (sm.trans sm1))⟩
            | true => exact ⟨sm.trans sm1, ⟨_, rfl⟩, take_succ_all hall hxi q5⟩
          · rintro σ G ⟨sm, ⟨v0, rfl⟩, hall⟩
            rw [List.take_of_length_le (Nat.le_refl _)] at hall
            have nf : xs.find? (badL n) = none := by
              rw [List.find?_eq_none]
              intro v hvm
              have := List.all_eq_true.mp hall v hvm
              unfold badL
              rw [this]
              decide
            rw [nf] at k
            obtain ⟨ws, rfl⟩ := all_let hall
            have k := k ws rfl
            have hz : ∀ x, x ∈ ws → x.cps.size = n := fun x hxm => by
              have h1 := List.all_eq_true.mp hall (.str x) (List.mem_map.mpr ⟨x, hxm, rfl⟩)
              have h2 : (decide ((x.length : Int) = n) && x.cps.toList.all (chk 4)) = true := h1
              rw [Bool.and_eq_true, decide_eq_true_eq] at h2
              have h3 : (x.cps.size : Int) = n := h2.1
              omega
            have ha' := sm _ _ ha
            have h1 : ws.length ≤ 100 := by rw [List.length_map] at q2; omega
            exact ⟨_, rfl, _, rfl, a, n, ws, rfl, ha', by omega, h1, hz, fun t H' s ht e => k t H' (sm.trans s) (sm.free ht) e⟩
end
end Kre
namespace Kre
open PySem L2 Gd
open Kone (Pen Keep spPen spDraw spPick TxtD fmod_range keep_upd same_new dp_ints at_nat nzA nzB map_cut)
section
variable {P : Program} {w : World} {K : PySem.W.Frag} {mg : Str → Option Value} {base : Heap} {fD : Addr}
theorem scPen : FnScope ["_law_script"] ["_law_script"] (defScope sPen) := ⟨rfl, rfl, rfl, by decide +kernel, rfl, by decide +kernel, by decide +kernel⟩
theorem ok_pen {f : Addr} {fd : FuncData} (F : Fun K "_law_pen" "_law_pen" sPen f fd) (T : TxtD mg fD) : FnOk P w K mg base CX0 1 f fd ["_law_script"] (spPen K) := by
  refine F.ok scPen (fun vs H Q E h => ?_) (fun cdv A outer s H vs Q E hr h => ?_)
  · obtain ⟨a, ns, rfl, _⟩ := h
    rfl
  · obtain ⟨a, ns, rfl, hS, k⟩ := h
    refine ⟨_, pss_one (ps_ret (pe_lst (pa_cons (pe_callTy call_list_of (by rfl) T.list (by decide +kernel) (pa_cons (pe_slice sl_list (pv 0) po_none (po_some pe_int)) pa_nil)) (pa_cons pe_int (pa_cons pe_int pa_nil))))), ?_⟩
    refine ⟨_, rfl, _, rfl, a, _, rfl, hS, fun q hq => ?_⟩
    obtain ⟨ms, e⟩ := map_cut ns none (some 63)
    refine ⟨q, _, rfl, .inl (SqL.of upd_same), fun l hl => ?_⟩
    refine ⟨by show 3 ≤ sizeLine; decide, fun p hp => ?_⟩
    have hqp : H p = none := by
      by_cases z : p = l
      · subst z; rw [upd_same] at hp; cases hp
      · rw [upd_ne z] at hp
        by_cases z2 : p = q
        · subst z2; rw [upd_same] at hp; cases hp
        · rwa [upd_ne z2] at hp
    have nl : l ≠ p := fun z => by subst z; rw [upd_same] at hp; cases hp
    have nlq : l ≠ q := fun z => by subst z; rw [upd_same] at hl; cases hl
    have hl0 : H l = none := by rwa [upd_ne nlq] at hl
    refine k _ p l (fun b o e => ?_) ⟨ms, 0, 0, upd_same, ?_, nl, by omega, by omega⟩
    · rw [upd_ne (ne_of_none e hqp), upd_ne (ne_of_none e hl0), upd_ne (ne_of_none e hq)]
      exact e
    · rw [upd_ne nl, upd_same, ← e]
theorem scDraw : FnScope ["_law_pen_here", "_law_many", "_law_digit", "_law_at", "_law_cell", "_law_great", "_law_mixed"] ["_law_pen_here", "_law_many"] (defScope sDraw) := ⟨rfl, rfl, rfl, by decide +kernel, rfl, by decide +kernel, by decide +kernel⟩
theorem mix1 {x a : Int} (h0 : 0 ≤ a) (h1 : a < 200000) : (x.fmod 2147483587 + 35179 * a + 327).natAbs < 2 ^ 64 := by
  have r := fmod_range (a := x) (m := 2147483587) (by decide)
  omega
theorem mix2 {x a : Int} (h0 : 0 ≤ a) (h1 : a < 200000) : (x.fmod 2147483563 * (2 * a + 139) + 62167 * a * a + 25).natAbs < 2 ^ 64 := by
  have r := fmod_range (a := x) (m := 2147483563) (by decide)
  have e1 : x.fmod 2147483563 * (2 * a + 139) ≤ 2147483563 * 400139 := Int.mul_le_mul (by omega) (by omega) (by omega) (by omega)
  have e0 : 0 ≤ x.fmod 2147483563 * (2 * a + 139) := Int.mul_nonneg r.1 (by omega)
  have e2 : 62167 * a * a ≤ (62167 * 200000) * 200000 := Int.mul_le_mul (by omega) (by omega) (by omega) (by omega)
  have e3 : 0 ≤ 62167 * a * a := Int.mul_nonneg (by omega) h0
  omega
theorem ok_draw {f : Addr} {fd : FuncData} (F : Fun K "_law_draw" "_law_draw" sDraw f fd) (T : TxtD mg fD) : FnOk P w K mg base CX0 1 f fd ["_law_pen_here", "_law_many"] spDraw := by
  refine F.ok scDraw (fun vs H Q E h => ?_) (fun cdv A outer s H vs Q E hr h => ?_)
  · obtain ⟨p, c, m, n, rfl, _⟩ := h
    rfl
  · obtain ⟨p, c, m, n, rfl, ⟨cs, a, g, h1, h2, h3, h4, h5⟩, hn, m0, m1, k⟩ := h
    refine ⟨_, (pss_cons (ps_if (pt_cmpR op_gt (pe_ix ix_list (pv 0) pe_int (fun _ _ => rfl)) pe_int (nomark _)) (pss_cons (ps_set (i := 2) scDraw.nd rfl (Or.inl rfl) (pe_op op_modN (pe_callTy call_int1 (by rfl) T.int (by decide +kernel) (pa_cons (pe_ix ix_list (pv 0) pe_int (fun _ _ => rfl)) pa_nil)) (pv 1)))
        (pss_cons (ps_asg (pe_op op_fdivN (pe_callTy call_int1 (by rfl) T.int (by decide +kernel) (pa_cons (pe_ix ix_list (pv 0) pe_int (fun _ _ => rfl)) pa_nil)) (pv 1)) (pg_sub (pv 0) pe_int set_list))
        (pss_one (ps_ret (pv 2))))) pss_nil)
        (pss_cons (ps_set (i := 3) scDraw.nd rfl (Or.inl rfl) (pe_ix ix_list (pv 0) pe_int (fun _ _ => rfl)))
        (pss_cons (ps_asg (pe_op op_add (pv 3) pe_int) (pg_sub (pv 0) pe_int set_list))
        (pss_cons (ps_set (i := 4) scDraw.nd rfl (Or.inl rfl) (pe_op op_add (pe_op op_mul pe_int (pv 3)) pe_int))
        (pss_cons (ps_if (pt_cmpR (op_neD hr.units) (pe_ix ix_list (pv 0) pe_int (fun _ _ => rfl)) (pe_lst pa_nil) (nomark _)) (pss_one (ps_set (i := 4) scDraw.nd rfl (Or.inl rfl) (pe_ix ix_list (pe_ix ix_list (pv 0) pe_int (fun _ _ => rfl)) (pe_op op_modN (pe_callTy call_int1 (by rfl) T.int (by decide +kernel) (pa_cons (pv 3) pa_nil)) (pe_callB call_len_seq (by rfl) T.len PySem.boot_len (pa_cons (pe_ix ix_list (pv 0) pe_int (fun _ _ => rfl)) pa_nil))) (fun _ _ => rfl)))) pss_nil)
        (pss_cons (ps_if (PW.pt (pw_and (pt_cmpR op_lt (pv 3) (pe_callB call_len_seq (by rfl) T.len PySem.boot_len (pa_cons (pe_ix ix_list (pv 0) pe_int (fun _ _ => rfl)) pa_nil)) (nomark _)) (pw_and1 (pt_cmpR op_ge (pe_callB call_abs (by rfl) T.abs (by decide +kernel) (pa_cons (pv 4) pa_nil)) (pe_op op_pow pe_int pe_int) (nomark _))))) (pss_cons (ps_set (i := 5) scDraw.nd rfl (Or.inl rfl) (pe_op op_add (pe_op op_mul pe_int (pe_op op_sub (pe_callB call_abs (by rfl) T.abs (by decide +kernel) (pa_cons (pv 4) pa_nil)) (pe_op op_pow pe_int pe_int))) (pe_callTy call_int1 (by rfl) T.int (by decide +kernel) (pa_cons (pe_cmpR op_lt (pv 4) pe_int (nomark _)) pa_nil))))
        (pss_cons (ps_asg (pe_op op_fdivN (pe_callTy call_int1 (by rfl) T.int (by decide +kernel) (pa_cons (pv 5) pa_nil)) (pv 1)) (pg_sub (pv 0) pe_int set_list))
        (pss_one (ps_ret (pe_op op_modN (pe_callTy call_int1 (by rfl) T.int (by decide +kernel) (pa_cons (pv 5) pa_nil)) (pv 1)))))) pss_nil)
        (pss_cons (ps_set (i := 6) scDraw.nd rfl (Or.inl rfl) (pe_op op_modN (pe_callTy call_int1 (by rfl) T.int (by decide +kernel) (pa_cons (pe_op op_pow (pe_op op_add (pe_op op_add (pe_op op_modN (pe_callTy call_int1 (by rfl) T.int (by decide +kernel) (pa_cons (pv 4) pa_nil)) pe_int) (pe_op op_mul pe_int (pv 3))) pe_int) pe_int) pa_nil)) pe_int))
        (pss_cons (ps_set (i := 6) scDraw.nd rfl (Or.inl rfl) (pe_op op_modN (pe_callTy call_int1 (by rfl) T.int (by decide +kernel) (pa_cons (pe_op op_pow (pe_op op_add (pe_op op_add (pe_op op_mul (pv 6) (pe_op op_add (pe_op op_mul pe_int (pv 3)) pe_int)) (pe_op op_mul (pe_op op_mul pe_int (pv 3)) (pv 3))) pe_int) pe_int) pa_nil)) pe_int))
        (pss_one (ps_ret (pe_op op_modN (pe_callTy call_int1 (by rfl) T.int (by decide +kernel) (pa_cons (pe_op op_fdivN (pv 6) pe_int) pa_nil)) (pv 1)))))))))))), ?_⟩
    have r := fmod_range (a := g) m0
    refine ⟨_, rfl, p, _, 2, _, rfl, rfl, SqL.of h1, rfl, _, _, rfl, rfl, _, rfl, ?_⟩
    refine ite2 (fun _ => ?_) (fun _ => ?_)
    · refine ⟨_, rfl, p, _, 2, _, rfl, rfl, SqL.of h1, rfl, .inl ⟨_, rfl, _, rfl, _, _, rfl, rfl, by omega, ?_⟩⟩
      refine ⟨_, rfl, p, _, 2, _, rfl, rfl, SqL.of h1, rfl, .inl ⟨_, rfl, _, rfl, _, _, rfl, rfl, ⟨by omega, by omega⟩, ?_⟩⟩
      refine ⟨_, rfl, p, _, 2, 2, rfl, rfl, h1, rfl, ?_⟩
      exact ⟨_, rfl, k _ _ keep_upd ((Kone.Pen.set2 h2 h3 h4 h5).mono (Nat.le_succ _)) r.1 r.2⟩
    · -- at, the next index
      refine ⟨_, rfl, p, _, 1, _, rfl, rfl, SqL.of h1, rfl, ?_⟩
      refine ⟨_, rfl, _, _, rfl, rfl, _, rfl, p, _, 1, 1, rfl, rfl, h1, rfl, ?_⟩
      refine ⟨_, rfl, _, _, rfl, rfl, .inl ⟨by decide, by decide⟩, _, _, rfl, rfl, ?_⟩
      -- pen[0] != []
      generalize hH1 : upd H p (HO.lst ([V.ref c, V.int a, V.int g].set 1 ((fun i j => V.int (i + j)) a 1))) = H1
      have q1 : H1 p = some (.lst [.ref c, .int (a + 1), .int g]) := by subst hH1; exact upd_same
      have q2 : H1 c = some (.lst (cs.map V.int)) := by subst hH1; rw [upd_ne h3]; exact h2
      have kp1 : Keep p H H1 := by subst hH1; exact keep_upd
      refine ⟨_, rfl, p, _, 0, _, rfl, rfl, SqL.of q1, rfl, Nat.zero_le _, fun l hl => ?_⟩
      have s2 : Same H1 (upd H1 l (.lst [])) := same_new hl
      have q3 : upd H1 l (.lst []) l = some (.lst []) := upd_same
      generalize upd H1 l (.lst []) = H2 at s2 q3
      have q1' := s2 _ _ q1
      have q2' := s2 _ _ q2
      have kp2 : Keep p H H2 := kp1.trans (Kone.Keep.of s2)
      refine ⟨.list (cs.map PyData.int), .list [], .lst (SqL.of q2') (dp_ints cs), .lst (SqL.of q3) .nil, ?_, rfl, _, rfl, ?_⟩
      · exact PySem.W.ke_shaped_ints cs
      have hb2 : (a : Int) < 200000 := by omega
      have nn1 : n + 1 = n + 1 := rfl
      have pen2 : ∀ (H3 : Hp) (g' : Int), H3 = upd H2 p (.lst [.ref c, .int (a + 1), .int g']) → Pen H3 p c (n + 1) := fun H3 g' e =>
        ⟨cs, a + 1, g', by rw [e]; exact upd_same, by rw [e, upd_ne h3]; exact q2', h3, by omega, by omega⟩
      refine ite2 (fun hz => ?_) (fun _ => ?_)
      · have hc : 0 < cs.length := by
          cases cs with
          | nil => exact absurd hz (by decide)
          | cons x r => exact Nat.succ_pos _
        have rr := fmod_range (a := a) (m := (cs.length : Int)) (by omega)
        obtain ⟨v, hv, hm⟩ := at_nat (xs := cs.map V.int) (i := a.fmod (cs.length : Int)) rr.1 (by rw [List.length_map]; exact rr.2)
        obtain ⟨z, _, rfl⟩ := List.mem_map.mp hm
        refine ⟨_, rfl, p, _, 0, _, rfl, rfl, SqL.of q1', rfl, _, rfl, .inl ⟨_, rfl, ?_⟩⟩
        refine ⟨_, rfl, p, _, 0, _, rfl, rfl, SqL.of q1', rfl, c, _, rfl, .inl (SqL.of q2'), _, _, rfl, rfl, ?_, ?_⟩
        · show ((cs.map V.int).length : Int) ≠ 0
          rw [List.length_map]; omega
        refine ⟨c, _, _, _, rfl, rfl, SqL.of q2', (by rw [List.length_map]; exact hv), ?_⟩
        refine ⟨_, rfl, _, rfl, p, _, 0, _, rfl, rfl, SqL.of q1', rfl, c, _, rfl, .inl (SqL.of q2'), _, _, rfl, rfl, _, rfl, ?_⟩
        refine ite2 (fun _ => ?_) (fun _ => ?_)
        · refine ⟨_, rfl, _, rfl, _, _, rfl, rfl, ⟨by decide, by decide, by decide⟩, _, _, rfl, rfl, _, rfl, ?_⟩
          refine ite2 (fun _ => ?_) (fun _ => ?_)
          · refine ⟨_, rfl, _, rfl, _, _, rfl, rfl, ⟨by decide, by decide, by decide⟩, _, _, rfl, rfl, _, _, rfl, rfl, .inl ⟨by decide, by decide⟩, _, rfl, _, _, rfl, rfl, .inr ⟨_, rfl, _, _, rfl, rfl, ?_⟩⟩
            refine ⟨_, rfl, .inl ⟨_, rfl, _, rfl, _, _, rfl, rfl, ⟨by omega, by omega⟩, _, rfl, p, _, 2, 2, rfl, rfl, q1', rfl, ?_⟩⟩
            exact ⟨_, rfl, .inl ⟨_, rfl, _, rfl, _, _, rfl, rfl, by omega, k _ _ (kp2.trans keep_upd) (pen2 _ _ rfl) (fmod_range m0).1 (fmod_range m0).2⟩⟩
          · refine ⟨_, rfl, .inl ⟨_, rfl, _, _, rfl, rfl, nzA, _, rfl, _, _, rfl, rfl, .inl ⟨by decide, by decide⟩, _, _, rfl, rfl, _, _, rfl, rfl, _, _, rfl, rfl, ⟨by decide, by decide, mix1 h4 hb2⟩, .inl ⟨_, rfl, _, _, rfl, rfl, nzB, ?_⟩⟩⟩
            refine ⟨_, rfl, _, rfl, _, _, rfl, rfl, .inl ⟨by decide, by decide⟩, _, _, rfl, rfl, _, _, rfl, rfl, .inl ⟨Int.lt_of_lt_of_le (by decide) (fmod_range (by decide)).1, Int.lt_trans (fmod_range (by decide)).2 (by decide)⟩, _, rfl, _, _, rfl, rfl, .inl ⟨by decide, by decide⟩, _, rfl, _, _, rfl, rfl, .inl ⟨?_, ?_⟩, _, _, rfl, rfl, _, _, rfl, rfl, _, _, rfl, rfl, ⟨by decide, by decide, mix2 h4 hb2⟩, .inl ⟨_, rfl, _, _, rfl, rfl, nzA, ?_⟩⟩
            · show -(2 ^ 64) < 62167 * a; omega
            · show 62167 * a < 2 ^ 64; omega
            exact ⟨_, rfl, _, _, rfl, rfl, ⟨by decide, by decide⟩, .inl ⟨_, rfl, _, rfl, _, _, rfl, rfl, by omega, k _ _ kp2 ⟨cs, a + 1, g, q1', q2', h3, by omega, by omega⟩ (fmod_range m0).1 (fmod_range m0).2⟩⟩
        · refine ⟨_, rfl, .inl ⟨_, rfl, _, _, rfl, rfl, nzA, _, rfl, _, _, rfl, rfl, .inl ⟨by decide, by decide⟩, _, _, rfl, rfl, _, _, rfl, rfl, _, _, rfl, rfl, ⟨by decide, by decide, mix1 h4 hb2⟩, .inl ⟨_, rfl, _, _, rfl, rfl, nzB, ?_⟩⟩⟩
          refine ⟨_, rfl, _, rfl, _, _, rfl, rfl, .inl ⟨by decide, by decide⟩, _, _, rfl, rfl, _, _, rfl, rfl, .inl ⟨Int.lt_of_lt_of_le (by decide) (fmod_range (by decide)).1, Int.lt_trans (fmod_range (by decide)).2 (by decide)⟩, _, rfl, _, _, rfl, rfl, .inl ⟨by decide, by decide⟩, _, rfl, _, _, rfl, rfl, .inl ⟨?_, ?_⟩, _, _, rfl, rfl, _, _, rfl, rfl, _, _, rfl, rfl, ⟨by decide, by decide, mix2 h4 hb2⟩, .inl ⟨_, rfl, _, _, rfl, rfl, nzA, ?_⟩⟩
          · show -(2 ^ 64) < 62167 * a; omega
          · show 62167 * a < 2 ^ 64; omega
          exact ⟨_, rfl, _, _, rfl, rfl, ⟨by decide, by decide⟩, .inl ⟨_, rfl, _, rfl, _, _, rfl, rfl, by omega, k _ _ kp2 ⟨cs, a + 1, g, q1', q2', h3, by omega, by omega⟩ (fmod_range m0).1 (fmod_range m0).2⟩⟩
      · refine ⟨_, rfl, _, rfl, p, _, 0, _, rfl, rfl, SqL.of q1', rfl, c, _, rfl, .inl (SqL.of q2'), _, _, rfl, rfl, _, rfl, ?_⟩
        refine ite2 (fun _ => ?_) (fun _ => ?_)
        · refine ⟨_, rfl, _, rfl, _, _, rfl, rfl, ⟨by decide, by decide, by decide⟩, _, _, rfl, rfl, _, rfl, ?_⟩
          refine ite2 (fun _ => ?_) (fun _ => ?_)
          · refine ⟨_, rfl, _, rfl, _, _, rfl, rfl, ⟨by decide, by decide, by decide⟩, _, _, rfl, rfl, _, _, rfl, rfl, .inl ⟨by decide, by decide⟩, _, rfl, _, _, rfl, rfl, .inr ⟨_, rfl, _, _, rfl, rfl, ?_⟩⟩
            refine ⟨_, rfl, .inl ⟨_, rfl, _, rfl, _, _, rfl, rfl, ⟨by omega, by omega⟩, _, rfl, p, _, 2, 2, rfl, rfl, q1', rfl, ?_⟩⟩
            exact ⟨_, rfl, .inl ⟨_, rfl, _, rfl, _, _, rfl, rfl, by omega, k _ _ (kp2.trans keep_upd) (pen2 _ _ rfl) (fmod_range m0).1 (fmod_range m0).2⟩⟩
          · refine ⟨_, rfl, .inl ⟨_, rfl, _, _, rfl, rfl, nzA, _, rfl, _, _, rfl, rfl, .inl ⟨by decide, by decide⟩, _, _, rfl, rfl, _, _, rfl, rfl, _, _, rfl, rfl, ⟨by decide, by decide, mix1 h4 hb2⟩, .inl ⟨_, rfl, _, _, rfl, rfl, nzB, ?_⟩⟩⟩
            refine ⟨_, rfl, _, rfl, _, _, rfl, rfl, .inl ⟨by decide, by decide⟩, _, _, rfl, rfl, _, _, rfl, rfl, .inl ⟨Int.lt_of_lt_of_le (by decide) (fmod_range (by decide)).1, Int.lt_trans (fmod_range (by decide)).2 (by decide)⟩, _, rfl, _, _, rfl, rfl, .inl ⟨by decide, by decide⟩, _, rfl, _, _, rfl, rfl, .inl ⟨?_, ?_⟩, _, _, rfl, rfl, _, _, rfl, rfl, _, _, rfl, rfl, ⟨by decide, by decide, mix2 h4 hb2⟩, .inl ⟨_, rfl, _, _, rfl, rfl, nzA, ?_⟩⟩
            · show -(2 ^ 64) < 62167 * a; omega
            · show 62167 * a < 2 ^ 64; omega
            exact ⟨_, rfl, _, _, rfl, rfl, ⟨by decide, by decide⟩, .inl ⟨_, rfl, _, rfl, _, _, rfl, rfl, by omega, k _ _ kp2 ⟨cs, a + 1, g, q1', q2', h3, by omega, by omega⟩ (fmod_range m0).1 (fmod_range m0).2⟩⟩
        · refine ⟨_, rfl, .inl ⟨_, rfl, _, _, rfl, rfl, nzA, _, rfl, _, _, rfl, rfl, .inl ⟨by decide, by decide⟩, _, _, rfl, rfl, _, _, rfl, rfl, _, _, rfl, rfl, ⟨by decide, by decide, mix1 h4 hb2⟩, .inl ⟨_, rfl, _, _, rfl, rfl, nzB, ?_⟩⟩⟩
          refine ⟨_, rfl, _, rfl, _, _, rfl, rfl, .inl ⟨by decide, by decide⟩, _, _, rfl, rfl, _, _, rfl, rfl, .inl ⟨Int.lt_of_lt_of_le (by decide) (fmod_range (by decide)).1, Int.lt_trans (fmod_range (by decide)).2 (by decide)⟩, _, rfl, _, _, rfl, rfl, .inl ⟨by decide, by decide⟩, _, rfl, _, _, rfl, rfl, .inl ⟨?_, ?_⟩, _, _, rfl, rfl, _, _, rfl, rfl, _, _, rfl, rfl, ⟨by decide, by decide, mix2 h4 hb2⟩, .inl ⟨_, rfl, _, _, rfl, rfl, nzA, ?_⟩⟩
          · show -(2 ^ 64) < 62167 * a; omega
          · show 62167 * a < 2 ^ 64; omega
          exact ⟨_, rfl, _, _, rfl, rfl, ⟨by decide, by decide⟩, .inl ⟨_, rfl, _, rfl, _, _, rfl, rfl, by omega, k _ _ kp2 ⟨cs, a + 1, g, q1', q2', h3, by omega, by omega⟩ (fmod_range m0).1 (fmod_range m0).2⟩⟩
theorem scPick : FnScope ["_law_pen_here", "_law_some"] ["_law_pen_here", "_law_some"] (defScope sPick) := ⟨rfl, rfl, rfl, by decide +kernel, rfl, by decide +kernel, by decide +kernel⟩
theorem ok_pick {f fD : Addr} {fd fdD : FuncData} (F : Fun K "_law_pick" "_law_pick" sPick f fd) (T : TxtD mg fD) (U : Def K mg "_law_draw" sDraw ["_law_pen_here", "_law_many"] fD fdD) : FnOk P w K mg base CX0 2 f fd ["_law_pen_here", "_law_some"] spPick := by
  have GD : FnOk P w K mg base CX0 1 fD fdD ["_law_pen_here", "_law_many"] spDraw := ok_draw (fD := fD) U.F T
  refine F.ok scPick (fun vs H Q E h => ?_) (fun cdv A outer s H vs Q E hr h => ?_)
  · obtain ⟨p, c, l, n, xs, rfl, _⟩ := h
    rfl
  · obtain ⟨p, c, l, n, xs, rfl, hp, hn, hl, lp, x0, x1, k⟩ := h
    refine ⟨_, (pss_one (ps_ret (pe_ix ix_list (pv 1) (pe_call GD hr rfl U.g U.k U.b .nil pass0 (pa_cons (pv 0) (pa_cons (pe_callB call_len_seq (by rfl) T.len PySem.boot_len (pa_cons (pv 1) pa_nil)) pa_nil))) (fun _ _ => rfl)))), ?_⟩
    refine ⟨_, rfl, _, rfl, _, rfl, l, xs, rfl, .inl (SqL.of hl), p, c, _, n, rfl, hp, hn, by omega, by omega, fun H' d kp hp' d0 d1 => ?_⟩
    obtain ⟨v, hv, hm⟩ := at_nat (xs := xs) (i := d) d0 d1
    exact ⟨l, xs, d, v, rfl, rfl, SqL.of (kp l _ lp hl), hv, k H' v kp hp' hm⟩
end
end Kre
namespace Kre
open PySem L2 Gd
theorem scHeard : FnScope ["_law_ask", "_law_caught", "_law_found", "error", "_law_some"] ["_law_ask"] (defScope sHeard) := ⟨rfl, rfl, rfl, by decide +kernel, rfl, by decide +kernel, by decide +kernel⟩
/-- the errors that the law hears -/
structure Her (K : PySem.W.Frag) (mg : Str → Option Value) (S CL CD CW CM CU : Addr) : Prop where
  s : mg "SumError" = some (.ref S)
  cL : Kone.XC K mg S "BadLetter" CL
  cD : Kone.XC K mg S "BadWidth" CD
  cW : Kone.XC K mg S "BadWord" CW
  cM : Kone.XC K mg S "TooMany" CM
  cU : Kone.XC K mg S "Unlike" CU
  fL_value : PySem.W.findIn K (.ref CL) "value" = some none
  fD_value : PySem.W.findIn K (.ref CD) "value" = some none
  fW_value : PySem.W.findIn K (.ref CW) "value" = some none
  fM_what : PySem.W.findIn K (.ref CM) "what" = some none
  fM_most : PySem.W.findIn K (.ref CM) "most" = some none
  fU_part : PySem.W.findIn K (.ref CU) "part" = some none
  nLD : CL ≠ CD
  nLW : CL ≠ CW
  nLM : CL ≠ CM
  nLU : CL ≠ CU
  nDW : CD ≠ CW
  nDM : CD ≠ CM
  nDU : CD ≠ CU
  nWM : CW ≠ CM
  nWU : CW ≠ CU
  nMU : CM ≠ CU
  sL : CL ≠ S
  sD : CD ≠ S
  sW : CW ≠ S
  sM : CM ≠ S
  sU : CU ≠ S
  isi : mg "isinstance" = none
  ve : mg "ValueError" = none
  rp : mg "repr" = none
  len : mg "len" = none
/-- v is shown as D is -/
def Sh (H : Hp) (v : V) (D : PyData) : Prop := Dq H 2 false v D ∧ D.showable = true ∧ D.shown.length ≤ sizeLine ∧ D.depth ≤ 60 ∧ nice D = true
theorem Sh.same {H H' : Hp} {v : V} {D : PyData} (h : Sh H v D) (s : Same H H') : Sh H' v D := ⟨h.1.same s, h.2⟩
/-- which error it is, and what is told of it -/
def Kinds (CL CD CW CM CU C : Addr) (fs : List (Str × V)) (H : Hp) (out : List V) : Prop :=
  (C = CL ∧ ∃ v D, fs = ([("value", v)] : List (Str × V)) ∧ Sh H v D ∧ out = [.str "letter", .str D.shown]) ∨ (C = CD ∧ ∃ v D, fs = ([("value", v)] : List (Str × V)) ∧ Sh H v D ∧ out = [.str "width", .str D.shown]) ∨ (C = CW ∧ ∃ v D, fs = ([("value", v)] : List (Str × V)) ∧ Sh H v D ∧ out = [.str "word", .str D.shown]) ∨ (C = CM ∧ ∃ v D v2 D2, fs = ([("most", v2), ("what", v)] : List (Str × V)) ∧ Sh H v D ∧ Sh H v2 D2 ∧ out = [.str "many", .str D.shown, .str D2.shown]) ∨ (C = CU ∧ ∃ v D, fs = ([("part", v)] : List (Str × V)) ∧ Sh H v D ∧ out = [.str "unlike", .str D.shown])
/-- what is heard of an error -/
def Hears (K : PySem.W.Frag) (S CL CD CW CM CU : Addr) (Q : VK) : XK := fun cls d H => ∃ (C e : Addr) (fs : List (Str × V)) (out : List V), cls = .ref C ∧ d = some e ∧ H e = some (.xd fs) ∧ Kinds CL CD CW CM CU C fs H out ∧ PySem.W.exmOne K cls (.ref S) = some true ∧
  ∀ (t : Addr) (H1 : Hp), Same H H1 → H t = none → H1 t = some (.tup out) → Q (.ref t) H1
def THeard (K : PySem.W.Frag) (S CL CD CW CM CU : Addr) : (XK → Hp → VK → Prop) → Hp → VK → Prop := fun tl H Q =>
  ∀ (H0 : Hp) (Z : VK), Same H H0 → (∀ v H1, (∀ l, H1 l = none → Q (.ref l) (upd H1 l (.lst [v]))) → Z v H1) → tl (Hears K S CL CD CW CM CU Q) H0 Z
section
variable {X : Cx} {S CL CD CW CM CU : Addr}
theorem heard_gives {q : Str} {g : Addr} {cdg : Value} (hG : X.A.guards = some []) (hu : (X.A.deeper (PyProof.Rows.envOfC "_law_heard" (defScope sHeard) 0 g cdg)).units + 64 < cLine) (T : Her X.K X.mg S CL CD CW CM CU) :
    LamX.GivesTo X ["_law_ask", "_law_caught", "_law_found", "error", "_law_some"] "_law_heard" (defScope sHeard) g cdg (defBody sHeard) "_law_ask" q (THeard X.K S CL CD CW CM CU) := by
  intro f c' s H Q tl act hc want
  refine ⟨_, pss_cons (ps_asg (pe_tup (pa_cons pe_non (pa_cons pe_non pa_nil))) (pg_tup (by rfl) (pgs_cons (pg_name (i := 1) scHeard.nd rfl (Or.inl rfl)) (pgs_cons (pg_name (i := 2) scHeard.nd rfl (Or.inl rfl)) pgs_nil))))
    (pss_cons (ps_keep (i := 3) (c := .ref S) (tb := fun W D σ H => ∃ Ech : XK, (∀ cls d σ' H', Ech cls d H' → W cls d σ' H') ∧ σ[0]? = some (some (.ref f)) ∧ H c' = some (LamX.CodeO c' q) ∧ tl Ech H fun v H1 => D.nx (σ.set 2 (some v)) H1)
        rfl rfl rfl scHeard.nd rfl rfl ⟨rfl, by decide, .inl T.s⟩ (fun W pn xe tk _ => ?_) (fun a oe cls d pn _ _ => pss_one (ps_set (i := 1) scHeard.nd rfl (Or.inl rfl) (pv 3))))
    (pss_cons (ps_if (pt_cmpR op_isN (pv 1) pe_non (nomark _)) (pss_one (ps_ret (pe_lst (pa_cons (pv 2) pa_nil)))) pss_nil)
    (pss_cons (ps_set (i := 4) scHeard.nd rfl (Or.inl rfl) (pe_lst pa_nil))
    (pss_cons (ps_if (pt_val (pe_callB call_isV (by rfl) T.isi PyProof.Rows.boot_isinstance (pa_cons (pv 1) (pa_cons (pe_glob (v := .ref CL) rfl T.cL.g rfl) pa_nil)))) (pss_one (ps_expr (pe_bm PySem.F.plainAttrs_list PySem.F.slot_list_append PySem.F.type_list_append mt_append (pv 4) (pa_cons (pe_tup (pa_cons pe_str (pa_cons (pe_callB (call_repr ?g1 ?u1) (by rfl) T.rp (by decide +kernel) (pa_cons (pe_vf (pv 1)) pa_nil)) pa_nil))) pa_nil)))) pss_nil)
    (pss_cons (ps_if (pt_val (pe_callB call_isV (by rfl) T.isi PyProof.Rows.boot_isinstance (pa_cons (pv 1) (pa_cons (pe_glob (v := .ref CD) rfl T.cD.g rfl) pa_nil)))) (pss_one (ps_expr (pe_bm PySem.F.plainAttrs_list PySem.F.slot_list_append PySem.F.type_list_append mt_append (pv 4) (pa_cons (pe_tup (pa_cons pe_str (pa_cons (pe_callB (call_repr ?g2 ?u2) (by rfl) T.rp (by decide +kernel) (pa_cons (pe_vf (pv 1)) pa_nil)) pa_nil))) pa_nil)))) pss_nil)
    (pss_cons (ps_if (pt_val (pe_callB call_isV (by rfl) T.isi PyProof.Rows.boot_isinstance (pa_cons (pv 1) (pa_cons (pe_glob (v := .ref CW) rfl T.cW.g rfl) pa_nil)))) (pss_one (ps_expr (pe_bm PySem.F.plainAttrs_list PySem.F.slot_list_append PySem.F.type_list_append mt_append (pv 4) (pa_cons (pe_tup (pa_cons pe_str (pa_cons (pe_callB (call_repr ?g3 ?u3) (by rfl) T.rp (by decide +kernel) (pa_cons (pe_vf (pv 1)) pa_nil)) pa_nil))) pa_nil)))) pss_nil)
    (pss_cons (ps_if (pt_val (pe_callB call_isV (by rfl) T.isi PyProof.Rows.boot_isinstance (pa_cons (pv 1) (pa_cons (pe_glob (v := .ref CM) rfl T.cM.g rfl) pa_nil)))) (pss_one (ps_expr (pe_bm PySem.F.plainAttrs_list PySem.F.slot_list_append PySem.F.type_list_append mt_append (pv 4) (pa_cons (pe_tup (pa_cons pe_str (pa_cons (pe_callB (call_repr ?g5 ?u5) (by rfl) T.rp (by decide +kernel) (pa_cons (pe_vf (pv 1)) pa_nil)) (pa_cons (pe_callB (call_repr ?g4 ?u4) (by rfl) T.rp (by decide +kernel) (pa_cons (pe_vf (pv 1)) pa_nil)) pa_nil)))) pa_nil)))) pss_nil)
    (pss_cons (ps_if (pt_val (pe_callB call_isV (by rfl) T.isi PyProof.Rows.boot_isinstance (pa_cons (pv 1) (pa_cons (pe_glob (v := .ref CU) rfl T.cU.g rfl) pa_nil)))) (pss_one (ps_expr (pe_bm PySem.F.plainAttrs_list PySem.F.slot_list_append PySem.F.type_list_append mt_append (pv 4) (pa_cons (pe_tup (pa_cons pe_str (pa_cons (pe_callB (call_repr ?g6 ?u6) (by rfl) T.rp (by decide +kernel) (pa_cons (pe_vf (pv 1)) pa_nil)) pa_nil))) pa_nil)))) pss_nil)
    (pss_one (ps_ret (pe_ifExp (PW.pt (pw_and (pt_cmpR op_eq (pe_callB call_len_seq (by rfl) T.len PySem.boot_len (pa_cons (pv 4) pa_nil)) pe_int (nomark _)) (pw_and1 (pt_val (pe_callB call_isV (by rfl) T.isi PyProof.Rows.boot_isinstance (pa_cons (pv 1) (pa_cons (pe_bltn (v := .ty "ValueError") rfl T.ve rfl rfl) pa_nil)))))))
      (pe_ix ix_list (pv 4) pe_int (fun _ _ => rfl)) (pe_tup (pa_cons pe_str pa_nil))))))))))))), ?_⟩
  case g1 => exact hG
  case u1 => exact hu
  case g2 => exact hG
  case u2 => exact hu
  case g3 => exact hG
  case u3 => exact hu
  case g4 => exact hG
  case u4 => exact hu
  case g5 => exact hG
  case u5 => exact hu
  case g6 => exact hG
  case u6 => exact hu
  · constructor
    intro pins s1 σ H1 D I h
    obtain ⟨Ech, hW, h1, h2, h3⟩ := h
    exact (pss_one (ps_set (i := 2) scHeard.nd rfl (Or.inl rfl) (act W pn xe Ech _ _ tk hW))).run pins s1 σ H1 D I ⟨h1, h2, h3⟩
  · refine ⟨by show 2 ≤ sizeLine; decide, fun p hp => ⟨p, _, rfl, SqT.of upd_same, rfl, ?_⟩⟩
    have sm : Same H (upd H p (.tup [.non, .non])) := Kone.same_new hp
    refine ⟨_, _, rfl, _, _, rfl, rfl, Hears X.K S CL CD CW CM CU Q, ?_, rfl, sm _ _ hc, ?_⟩
    · rintro cls d σ1 H1 ⟨C, e, fs, out, rfl, rfl, he, ht, hm, k⟩ hlen
      refine ⟨hm, fun a ha => ?_⟩
      obtain ⟨a0, a1, a2, a3, a4, rfl⟩ : ∃ a0 a1 a2 a3 a4, σ1 = [a0, a1, a2, a3, a4] := by
        match σ1, hlen with
        | [a0, a1, a2, a3, a4], _ => exact ⟨a0, a1, a2, a3, a4, rfl⟩
      refine ⟨_, rfl, fun _ => ?_⟩
      have nB : a ≠ e := fun y => by rw [← y, ha] at he; cases he
      have hc1 : CAt (upd H1 a (exv a (.ref C) (some e))) a C fs := ⟨e, upd_same, by rw [upd_ne nB.symm]; exact he⟩
      have s1 : Same H1 (upd H1 a (exv a (.ref C) (some e))) := Kone.same_new ha
      generalize upd H1 a (exv a (.ref C) (some e)) = H2 at hc1 s1
      refine ⟨_, rfl, rfl, _, rfl, ?_⟩
      rw [decide_eq_false (show ¬ (V.ref a = V.non) from fun z => by cases z)]
      refine iteF ?_
      refine ⟨Nat.zero_le _, fun l hl => ?_⟩
      have s3 : Same H2 (upd H2 l (.lst [])) := Kone.same_new hl
      have hl3 : upd H2 l (.lst []) l = some (.lst []) := upd_same
      generalize upd H2 l (.lst []) = H3 at s3 hl3
      rcases ht with ⟨hC, v, D, rfl, hD, rfl⟩ | ⟨hC, v, D, rfl, hD, rfl⟩ | ⟨hC, v, D, rfl, hD, rfl⟩ | ⟨hC, v, D, v2, D2, rfl, hD, hD2, rfl⟩ | ⟨hC, v, D, rfl, hD, rfl⟩
      · have hC2 := hC.symm
        subst hC2
        have kv : PySem.W.kitOne X.K (.ref CL) (.type "ValueError") = some true := by rw [Kone.kit_type T.cL "ValueError" (by decide +kernel)]; decide +kernel
        have c3 := hc1.same s3
        refine ⟨_, rfl, a, CL, _, .ref CL, _, true, rfl, c3, .own _, T.cL.e, (Kone.kit_own T.cL T.cL T.sL).trans (congrArg some (decide_eq_true rfl)), _, rfl, ?_⟩
        refine iteT ?_
        refine ⟨_, rfl, .inl ⟨rfl, _, SqL.of hl3⟩, _, rfl, a, CL, _, v, rfl, c3, T.cL.e, T.fL_value, rfl, 2, v, D, rfl, (hD.1.same s1).same s3, .inl hD.2.2.2.2, hD.2.1, hD.2.2.1, hD.2.2.2.1, by show 2 ≤ sizeLine; decide, fun t ht => ⟨l, [], _, rfl, rfl, ?_, by show 0 < sizeLine; decide, ?_⟩⟩
        · rw [upd_ne (ne_of_none hl3 ht)]; exact hl3
        have nt : t ≠ l := (ne_of_none hl3 ht).symm
        have t1 : H1 t = none := (s1.trans s3).free ht
        have e4 : upd (upd H3 t (.tup [.str "letter", .str D.shown])) l (.lst ([] ++ [.ref t])) l = some (.lst [.ref t]) := upd_same
        have e5 : upd (upd H3 t (.tup [.str "letter", .str D.shown])) l (.lst ([] ++ [.ref t])) t = some (.tup [.str "letter", .str D.shown]) := by rw [upd_ne nt, upd_same]
        have s4 : Same H2 (upd (upd H3 t (.tup [.str "letter", .str D.shown])) l (.lst ([] ++ [.ref t]))) := fun b o z => by rw [upd_ne (ne_of_none z hl), upd_ne (ne_of_none (s3 _ _ z) ht)]; exact s3 _ _ z
        generalize upd (upd H3 t (.tup [.str "letter", .str D.shown])) l (.lst ([] ++ [.ref t])) = H4 at e4 e5 s4
        replace c3 := hc1.same s4
        refine ⟨_, rfl, a, CL, _, .ref CD, _, false, rfl, c3, .own _, T.cL.e, (Kone.kit_own T.cL T.cD T.sD).trans (congrArg some (decide_eq_false T.nLD)), _, rfl, ?_⟩
        refine iteF ?_
        refine ⟨_, rfl, a, CL, _, .ref CW, _, false, rfl, c3, .own _, T.cL.e, (Kone.kit_own T.cL T.cW T.sW).trans (congrArg some (decide_eq_false T.nLW)), _, rfl, ?_⟩
        refine iteF ?_
        refine ⟨_, rfl, a, CL, _, .ref CM, _, false, rfl, c3, .own _, T.cL.e, (Kone.kit_own T.cL T.cM T.sM).trans (congrArg some (decide_eq_false T.nLM)), _, rfl, ?_⟩
        refine iteF ?_
        refine ⟨_, rfl, a, CL, _, .ref CU, _, false, rfl, c3, .own _, T.cL.e, (Kone.kit_own T.cL T.cU T.sU).trans (congrArg some (decide_eq_false T.nLU)), _, rfl, ?_⟩
        refine iteF ?_
        refine ⟨_, rfl, l, _, rfl, .inl (SqL.of e4), rfl, _, rfl, ?_⟩
        refine iteT ?_
        refine ⟨_, rfl, a, CL, _, .ty "ValueError", _, true, rfl, c3, .ty _, T.cL.e, kv, _, rfl, ?_⟩
        refine iteT ?_
        exact ⟨_, rfl, l, _, 0, _, rfl, rfl, SqL.of e4, rfl, k t _ (s1.trans s4) t1 e5⟩
      · have hC2 := hC.symm
        subst hC2
        have kv : PySem.W.kitOne X.K (.ref CD) (.type "ValueError") = some true := by rw [Kone.kit_type T.cD "ValueError" (by decide +kernel)]; decide +kernel
        have c3 := hc1.same s3
        refine ⟨_, rfl, a, CD, _, .ref CL, _, false, rfl, c3, .own _, T.cD.e, (Kone.kit_own T.cD T.cL T.sL).trans (congrArg some (decide_eq_false T.nLD.symm)), _, rfl, ?_⟩
        refine iteF ?_
        refine ⟨_, rfl, a, CD, _, .ref CD, _, true, rfl, c3, .own _, T.cD.e, (Kone.kit_own T.cD T.cD T.sD).trans (congrArg some (decide_eq_true rfl)), _, rfl, ?_⟩
        refine iteT ?_
        refine ⟨_, rfl, .inl ⟨rfl, _, SqL.of hl3⟩, _, rfl, a, CD, _, v, rfl, c3, T.cD.e, T.fD_value, rfl, 2, v, D, rfl, (hD.1.same s1).same s3, .inl hD.2.2.2.2, hD.2.1, hD.2.2.1, hD.2.2.2.1, by show 2 ≤ sizeLine; decide, fun t ht => ⟨l, [], _, rfl, rfl, ?_, by show 0 < sizeLine; decide, ?_⟩⟩
        · rw [upd_ne (ne_of_none hl3 ht)]; exact hl3
        have nt : t ≠ l := (ne_of_none hl3 ht).symm
        have t1 : H1 t = none := (s1.trans s3).free ht
        have e4 : upd (upd H3 t (.tup [.str "width", .str D.shown])) l (.lst ([] ++ [.ref t])) l = some (.lst [.ref t]) := upd_same
        have e5 : upd (upd H3 t (.tup [.str "width", .str D.shown])) l (.lst ([] ++ [.ref t])) t = some (.tup [.str "width", .str D.shown]) := by rw [upd_ne nt, upd_same]
        have s4 : Same H2 (upd (upd H3 t (.tup [.str "width", .str D.shown])) l (.lst ([] ++ [.ref t]))) := fun b o z => by rw [upd_ne (ne_of_none z hl), upd_ne (ne_of_none (s3 _ _ z) ht)]; exact s3 _ _ z
        generalize upd (upd H3 t (.tup [.str "width", .str D.shown])) l (.lst ([] ++ [.ref t])) = H4 at e4 e5 s4
        replace c3 := hc1.same s4
        refine ⟨_, rfl, a, CD, _, .ref CW, _, false, rfl, c3, .own _, T.cD.e, (Kone.kit_own T.cD T.cW T.sW).trans (congrArg some (decide_eq_false T.nDW)), _, rfl, ?_⟩
        refine iteF ?_
        refine ⟨_, rfl, a, CD, _, .ref CM, _, false, rfl, c3, .own _, T.cD.e, (Kone.kit_own T.cD T.cM T.sM).trans (congrArg some (decide_eq_false T.nDM)), _, rfl, ?_⟩
        refine iteF ?_
        refine ⟨_, rfl, a, CD, _, .ref CU, _, false, rfl, c3, .own _, T.cD.e, (Kone.kit_own T.cD T.cU T.sU).trans (congrArg some (decide_eq_false T.nDU)), _, rfl, ?_⟩
        refine iteF ?_
        refine ⟨_, rfl, l, _, rfl, .inl (SqL.of e4), rfl, _, rfl, ?_⟩
        refine iteT ?_
        refine ⟨_, rfl, a, CD, _, .ty "ValueError", _, true, rfl, c3, .ty _, T.cD.e, kv, _, rfl, ?_⟩
        refine iteT ?_
        exact ⟨_, rfl, l, _, 0, _, rfl, rfl, SqL.of e4, rfl, k t _ (s1.trans s4) t1 e5⟩
      · have hC2 := hC.symm
        subst hC2
        have kv : PySem.W.kitOne X.K (.ref CW) (.type "ValueError") = some true := by rw [Kone.kit_type T.cW "ValueError" (by decide +kernel)]; decide +kernel
        have c3 := hc1.same s3
        refine ⟨_, rfl, a, CW, _, .ref CL, _, false, rfl, c3, .own _, T.cW.e, (Kone.kit_own T.cW T.cL T.sL).trans (congrArg some (decide_eq_false T.nLW.symm)), _, rfl, ?_⟩
        refine iteF ?_
        refine ⟨_, rfl, a, CW, _, .ref CD, _, false, rfl, c3, .own _, T.cW.e, (Kone.kit_own T.cW T.cD T.sD).trans (congrArg some (decide_eq_false T.nDW.symm)), _, rfl, ?_⟩
        refine iteF ?_
        refine ⟨_, rfl, a, CW, _, .ref CW, _, true, rfl, c3, .own _, T.cW.e, (Kone.kit_own T.cW T.cW T.sW).trans (congrArg some (decide_eq_true rfl)), _, rfl, ?_⟩
        refine iteT ?_
        refine ⟨_, rfl, .inl ⟨rfl, _, SqL.of hl3⟩, _, rfl, a, CW, _, v, rfl, c3, T.cW.e, T.fW_value, rfl, 2, v, D, rfl, (hD.1.same s1).same s3, .inl hD.2.2.2.2, hD.2.1, hD.2.2.1, hD.2.2.2.1, by show 2 ≤ sizeLine; decide, fun t ht => ⟨l, [], _, rfl, rfl, ?_, by show 0 < sizeLine; decide, ?_⟩⟩
        · rw [upd_ne (ne_of_none hl3 ht)]; exact hl3
        have nt : t ≠ l := (ne_of_none hl3 ht).symm
        have t1 : H1 t = none := (s1.trans s3).free ht
        have e4 : upd (upd H3 t (.tup [.str "word", .str D.shown])) l (.lst ([] ++ [.ref t])) l = some (.lst [.ref t]) := upd_same
        have e5 : upd (upd H3 t (.tup [.str "word", .str D.shown])) l (.lst ([] ++ [.ref t])) t = some (.tup [.str "word", .str D.shown]) := by rw [upd_ne nt, upd_same]
        have s4 : Same H2 (upd (upd H3 t (.tup [.str "word", .str D.shown])) l (.lst ([] ++ [.ref t]))) := fun b o z => by rw [upd_ne (ne_of_none z hl), upd_ne (ne_of_none (s3 _ _ z) ht)]; exact s3 _ _ z
        generalize upd (upd H3 t (.tup [.str "word", .str D.shown])) l (.lst ([] ++ [.ref t])) = H4 at e4 e5 s4
        replace c3 := hc1.same s4
        refine ⟨_, rfl, a, CW, _, .ref CM, _, false, rfl, c3, .own _, T.cW.e, (Kone.kit_own T.cW T.cM T.sM).trans (congrArg some (decide_eq_false T.nWM)), _, rfl, ?_⟩
        refine iteF ?_
        refine ⟨_, rfl, a, CW, _, .ref CU, _, false, rfl, c3, .own _, T.cW.e, (Kone.kit_own T.cW T.cU T.sU).trans (congrArg some (decide_eq_false T.nWU)), _, rfl, ?_⟩
        refine iteF ?_
        refine ⟨_, rfl, l, _, rfl, .inl (SqL.of e4), rfl, _, rfl, ?_⟩
        refine iteT ?_
        refine ⟨_, rfl, a, CW, _, .ty "ValueError", _, true, rfl, c3, .ty _, T.cW.e, kv, _, rfl, ?_⟩
        refine iteT ?_
        exact ⟨_, rfl, l, _, 0, _, rfl, rfl, SqL.of e4, rfl, k t _ (s1.trans s4) t1 e5⟩
      · have hC2 := hC.symm
        subst hC2
        have kv : PySem.W.kitOne X.K (.ref CM) (.type "ValueError") = some true := by rw [Kone.kit_type T.cM "ValueError" (by decide +kernel)]; decide +kernel
        have c3 := hc1.same s3
        refine ⟨_, rfl, a, CM, _, .ref CL, _, false, rfl, c3, .own _, T.cM.e, (Kone.kit_own T.cM T.cL T.sL).trans (congrArg some (decide_eq_false T.nLM.symm)), _, rfl, ?_⟩
        refine iteF ?_
        refine ⟨_, rfl, a, CM, _, .ref CD, _, false, rfl, c3, .own _, T.cM.e, (Kone.kit_own T.cM T.cD T.sD).trans (congrArg some (decide_eq_false T.nDM.symm)), _, rfl, ?_⟩
        refine iteF ?_
        refine ⟨_, rfl, a, CM, _, .ref CW, _, false, rfl, c3, .own _, T.cM.e, (Kone.kit_own T.cM T.cW T.sW).trans (congrArg some (decide_eq_false T.nWM.symm)), _, rfl, ?_⟩
        refine iteF ?_
        refine ⟨_, rfl, a, CM, _, .ref CM, _, true, rfl, c3, .own _, T.cM.e, (Kone.kit_own T.cM T.cM T.sM).trans (congrArg some (decide_eq_true rfl)), _, rfl, ?_⟩
        refine iteT ?_
        refine ⟨_, rfl, .inl ⟨rfl, _, SqL.of hl3⟩, _, rfl, a, CM, _, v, rfl, c3, T.cM.e, T.fM_what, rfl, 2, v, D, rfl, (hD.1.same s1).same s3, .inl hD.2.2.2.2, hD.2.1, hD.2.2.1, hD.2.2.2.1, _, rfl, a, CM, _, v2, rfl, c3, T.cM.e, T.fM_most, rfl, 2, v2, D2, rfl, (hD2.1.same s1).same s3, .inl hD2.2.2.2.2, hD2.2.1, hD2.2.2.1, hD2.2.2.2.1, by show 3 ≤ sizeLine; decide, fun t ht => ⟨l, [], _, rfl, rfl, ?_, by show 0 < sizeLine; decide, ?_⟩⟩
        · rw [upd_ne (ne_of_none hl3 ht)]; exact hl3
        have nt : t ≠ l := (ne_of_none hl3 ht).symm
        have t1 : H1 t = none := (s1.trans s3).free ht
        have e4 : upd (upd H3 t (.tup [.str "many", .str D.shown, .str D2.shown])) l (.lst ([] ++ [.ref t])) l = some (.lst [.ref t]) := upd_same
        have e5 : upd (upd H3 t (.tup [.str "many", .str D.shown, .str D2.shown])) l (.lst ([] ++ [.ref t])) t = some (.tup [.str "many", .str D.shown, .str D2.shown]) := by rw [upd_ne nt, upd_same]
        have s4 : Same H2 (upd (upd H3 t (.tup [.str "many", .str D.shown, .str D2.shown])) l (.lst ([] ++ [.ref t]))) := fun b o z => by rw [upd_ne (ne_of_none z hl), upd_ne (ne_of_none (s3 _ _ z) ht)]; exact s3 _ _ z
        generalize upd (upd H3 t (.tup [.str "many", .str D.shown, .str D2.shown])) l (.lst ([] ++ [.ref t])) = H4 at e4 e5 s4
        replace c3 := hc1.same s4
        refine ⟨_, rfl, a, CM, _, .ref CU, _, false, rfl, c3, .own _, T.cM.e, (Kone.kit_own T.cM T.cU T.sU).trans (congrArg some (decide_eq_false T.nMU)), _, rfl, ?_⟩
        refine iteF ?_
        refine ⟨_, rfl, l, _, rfl, .inl (SqL.of e4), rfl, _, rfl, ?_⟩
        refine iteT ?_
        refine ⟨_, rfl, a, CM, _, .ty "ValueError", _, true, rfl, c3, .ty _, T.cM.e, kv, _, rfl, ?_⟩
        refine iteT ?_
        exact ⟨_, rfl, l, _, 0, _, rfl, rfl, SqL.of e4, rfl, k t _ (s1.trans s4) t1 e5⟩
      · have hC2 := hC.symm
        subst hC2
        have kv : PySem.W.kitOne X.K (.ref CU) (.type "ValueError") = some true := by rw [Kone.kit_type T.cU "ValueError" (by decide +kernel)]; decide +kernel
        have c3 := hc1.same s3
        refine ⟨_, rfl, a, CU, _, .ref CL, _, false, rfl, c3, .own _, T.cU.e, (Kone.kit_own T.cU T.cL T.sL).trans (congrArg some (decide_eq_false T.nLU.symm)), _, rfl, ?_⟩
        refine iteF ?_
        refine ⟨_, rfl, a, CU, _, .ref CD, _, false, rfl, c3, .own _, T.cU.e, (Kone.kit_own T.cU T.cD T.sD).trans (congrArg some (decide_eq_false T.nDU.symm)), _, rfl, ?_⟩
        refine iteF ?_
        refine ⟨_, rfl, a, CU, _, .ref CW, _, false, rfl, c3, .own _, T.cU.e, (Kone.kit_own T.cU T.cW T.sW).trans (congrArg some (decide_eq_false T.nWU.symm)), _, rfl, ?_⟩
        refine iteF ?_
        refine ⟨_, rfl, a, CU, _, .ref CM, _, false, rfl, c3, .own _, T.cU.e, (Kone.kit_own T.cU T.cM T.sM).trans (congrArg some (decide_eq_false T.nMU.symm)), _, rfl, ?_⟩
        refine iteF ?_
        refine ⟨_, rfl, a, CU, _, .ref CU, _, true, rfl, c3, .own _, T.cU.e, (Kone.kit_own T.cU T.cU T.sU).trans (congrArg some (decide_eq_true rfl)), _, rfl, ?_⟩
        refine iteT ?_
        refine ⟨_, rfl, .inl ⟨rfl, _, SqL.of hl3⟩, _, rfl, a, CU, _, v, rfl, c3, T.cU.e, T.fU_part, rfl, 2, v, D, rfl, (hD.1.same s1).same s3, .inl hD.2.2.2.2, hD.2.1, hD.2.2.1, hD.2.2.2.1, by show 2 ≤ sizeLine; decide, fun t ht => ⟨l, [], _, rfl, rfl, ?_, by show 0 < sizeLine; decide, ?_⟩⟩
        · rw [upd_ne (ne_of_none hl3 ht)]; exact hl3
        have nt : t ≠ l := (ne_of_none hl3 ht).symm
        have t1 : H1 t = none := (s1.trans s3).free ht
        have e4 : upd (upd H3 t (.tup [.str "unlike", .str D.shown])) l (.lst ([] ++ [.ref t])) l = some (.lst [.ref t]) := upd_same
        have e5 : upd (upd H3 t (.tup [.str "unlike", .str D.shown])) l (.lst ([] ++ [.ref t])) t = some (.tup [.str "unlike", .str D.shown]) := by rw [upd_ne nt, upd_same]
        have s4 : Same H2 (upd (upd H3 t (.tup [.str "unlike", .str D.shown])) l (.lst ([] ++ [.ref t]))) := fun b o z => by rw [upd_ne (ne_of_none z hl), upd_ne (ne_of_none (s3 _ _ z) ht)]; exact s3 _ _ z
        generalize upd (upd H3 t (.tup [.str "unlike", .str D.shown])) l (.lst ([] ++ [.ref t])) = H4 at e4 e5 s4
        replace c3 := hc1.same s4
        refine ⟨_, rfl, l, _, rfl, .inl (SqL.of e4), rfl, _, rfl, ?_⟩
        refine iteT ?_
        refine ⟨_, rfl, a, CU, _, .ty "ValueError", _, true, rfl, c3, .ty _, T.cU.e, kv, _, rfl, ?_⟩
        refine iteT ?_
        exact ⟨_, rfl, l, _, 0, _, rfl, rfl, SqL.of e4, rfl, k t _ (s1.trans s4) t1 e5⟩
    · refine want _ _ sm fun v H1 hq => ?_
      refine ⟨_, rfl, rfl, _, rfl, ?_⟩
      rw [decide_eq_true rfl]
      refine iteT ?_
      exact ⟨_, rfl, by show 1 ≤ sizeLine; decide, hq⟩
end
end Kre
namespace Kre
open PySem L2 Gd
open Kone (Pen Keep spPen spDraw spPick TxtD same_new)
/-! ### calls of a def with a star -/
section
variable {X : Cx} {CX : CXT} {k : Nat} {f : Addr} {sp : Sp} {E : L2.St → XK} {x : Str} {p pos : Pos} {e : Expr} {es : List Expr} {t : TA}
theorem run_RS {pins : List (Addr × Obj)} {σ : L2.St} {H : Hp} {s : Shared} {Q : VK} {us : List Value} {vs : List V} (F : FnR X.prog X.w X.K X.mg X.base CX k f sp) (hr : Room k X.A) (hx : PassesAt CX X σ (E σ))
    (I : Inv X pins σ H s) (r : Vals vs us) (h : sp vs H Q (E σ)) : wpAny (model X.prog X.w) X.A (call (.ref f) us) (EP X pins σ Q) X.xe s := by
  refine wpAny_call (codeAny_mono (F X.A X.stack s H us vs Q (E σ) hr I.env0 r h) fun r s' hq => ?_)
  cases r with
  | error e => exact hx pins H s e s' I hq
  | ok fl =>
    cases fl with
    | ret u => exact I.after hq
    | next => exact False.elim hq
    | brk => exact False.elim hq
    | cont => exact False.elim hq
theorem pe_callRS (F : FnR X.prog X.w X.K X.mg X.base CX k f sp) (hr : Room k X.A) (hg : Gl X x) (hm : X.mg x = some (.ref f)) (hk : PySem.W.keepIn X.K (.ref f) = true) (hx : ∀ σ, PassesAt CX X σ (E σ))
    (ha : PA X (e :: es) t) (hdb : (x == ("__debug__" : Str)) = false := by decide) (he : starEach (e :: es) X.env = (false, eval e X.env) :: starEach es X.env := by rfl) (hpl : (backTo pos (starEach es X.env)).any (·.1) = false := by rfl) :
    PE X (.Call (.Name x p) (e :: es) [] pos) (tCallS sp E t) := by
  refine ⟨fun pins s σ H Q I h => ?_⟩
  refine wpAny_Call_Name_kw (ld_glob I hg hm ?_ hdb)
  refine PySem.W.callWith_K (h₀ := X.base) I.ok.mod.kin hk (thn (ha.run pos pins s σ H _ I h) fun us s1 ⟨vs, H1, I1, r, q⟩ => ⟨I1.kIn, ?_⟩) he hpl
  exact run_RS F hr (hx σ) I1 r q
theorem pe_callRS0 (F : FnR X.prog X.w X.K X.mg X.base CX k f sp) (hr : Room k X.A) (hg : Gl X x) (hm : X.mg x = some (.ref f)) (hk : PySem.W.keepIn X.K (.ref f) = true) (hx : ∀ σ, PassesAt CX X σ (E σ)) (hdb : (x == ("__debug__" : Str)) = false := by decide) :
    PE X (.Call (.Name x p) [] [] pos) (tCallS sp E tNil) := by
  refine ⟨fun pins s σ H Q I h => ?_⟩
  refine wpAny_Call_Name_kw (ld_glob I hg hm ?_ hdb)
  refine PySem.W.callWith_K0 I.kIn hk ?_
  exact run_RS F hr (hx σ) I .nil h
/-- nothing is raised -/
def EN : L2.St → XK := fun _ _ _ _ => False
theorem passN {X : Cx} (σ : L2.St) : PassesAt (L2.CX X.prog X.w) X σ (EN σ) := fun pins H s e s' I c => by
  obtain ⟨a, B, H', cls, d, ea, fl, hok, un, na, os, ag, he⟩ := c
  exact False.elim he
end
section
variable {P : Program} {w : World} {K : PySem.W.Frag} {mg : Str → Option Value} {base : Heap} {fD : Addr}
def spPickS : Sp := fun vs H Q _ => ∃ (p c : Addr) (n : Nat) (x : Str), vs = [.ref p, .str x] ∧ Pen H p c n ∧ n ≤ 100000 ∧ 0 < x.length ∧ x.length < 1000 ∧ ∀ (H' : Hp) (z : Nat), Keep p H H' → Pen H' p c (n + 1) → z ∈ x.cps.toList → Q (.str (one z)) H'
theorem ok_pickS {f fD : Addr} {fd fdD : FuncData} (F : Fun K "_law_pick" "_law_pick" sPick f fd) (T : TxtD mg fD) (U : Def K mg "_law_draw" sDraw ["_law_pen_here", "_law_many"] fD fdD) : FnOk P w K mg base CX0 2 f fd ["_law_pen_here", "_law_some"] spPickS := by
  have GD : FnOk P w K mg base CX0 1 fD fdD ["_law_pen_here", "_law_many"] spDraw := ok_draw (fD := fD) U.F T
  refine F.ok scPick (fun vs H Q E h => ?_) (fun cdv A outer s H vs Q E hr h => ?_)
  · obtain ⟨p, c, n, x, rfl, _⟩ := h
    rfl
  · obtain ⟨p, c, n, x, rfl, hp, hn, x0, x1, k⟩ := h
    refine ⟨_, (pss_one (ps_ret (pe_item_str (pv 1) (pe_call GD hr rfl U.g U.k U.b .nil pass0 (pa_cons (pv 0) (pa_cons (pe_callB call_len_str (by rfl) T.len PySem.boot_len (pa_cons (pv 1) pa_nil)) pa_nil))) (fun _ _ => rfl)))), ?_⟩
    refine ⟨_, rfl, _, rfl, _, rfl, x, rfl, Nat.le_trans (Nat.le_of_lt x1) (by decide), p, c, _, n, rfl, hp, hn, by omega, by omega, fun H' d kp hp' d0 d1 => ?_⟩
    have hi : d.toNat < x.cps.size := by
      have : (x.cps.size : Int) = x.length := rfl
      omega
    refine ⟨x, d, x.cps[d.toNat], rfl, rfl, d0, by omega, d1, Array.getElem?_eq_getElem hi, k H' _ kp hp' ?_⟩
    exact Array.getElem_mem_toList hi
theorem scDrawn : FnScope ["_law_pen_here", "_law_many", "_law_spot"] ["_law_pen_here", "_law_many"] (defScope sDrawn) := ⟨rfl, rfl, rfl, by decide +kernel, rfl, by decide +kernel, by decide +kernel⟩
def spDrawn : Sp := fun vs H Q _ => ∃ (p c : Addr) (m n : Nat), vs = [.ref p, .int m] ∧ Pen H p c n ∧ n + m ≤ 100000 ∧ m ≤ 100 ∧
  ∀ (H' : Hp) (x : Str), Keep p H H' → Pen H' p c (n + m) → x.length = m → isWd 4 (.str x) = true → Q (.str x) H'
theorem chk_dg {z : Nat} (h : z ∈ dgs.cps.toList) : chk 4 z = true := by
  have : z = 48 ∨ z = 49 ∨ z = 50 ∨ z = 51 := by
    have e : dgs.cps.toList = [48, 49, 50, 51] := by decide +kernel
    rw [e] at h
    simpa using h
  rcases this with rfl | rfl | rfl | rfl <;> decide +kernel
theorem ok_drawn {f fP fD : Addr} {fd fdP fdD : FuncData} (F : Fun K "_law_drawn" "_law_drawn" sDrawn f fd) (T : Txw mg) (TD : TxtD mg fD) (UP : Def K mg "_law_pick" sPick ["_law_pen_here", "_law_some"] fP fdP) (U : Def K mg "_law_draw" sDraw ["_law_pen_here", "_law_many"] fD fdD) : FnOk P w K mg base CX0 3 f fd ["_law_pen_here", "_law_many"] spDrawn := by
  have GP : FnOk P w K mg base CX0 2 fP fdP ["_law_pen_here", "_law_some"] spPickS := ok_pickS UP.F TD U
  refine F.ok scDrawn (fun vs H Q E h => ?_) (fun cdv A outer s H vs Q E hr h => ?_)
  · obtain ⟨p, c, m, n, rfl, _⟩ := h
    rfl
  · obtain ⟨p, c, m, n, rfl, hp, hn, hm, k⟩ := h
    refine ⟨_, pss_one (ps_ret (pe_join pe_str (pe_lc (own := [("_law_spot", 2)]) (g := gName 2) (tt := tYes) (te := _) rfl scDrawn.nd (pi_range1 rfl T.range (pa_cons (pv 1) pa_nil)) (blkOk_by (N := ["_law_pen_here", "_law_many", "_law_spot"]) (sc := defScope sDrawn) (by decide +kernel)) (fun _ _ _ _ _ => pg_name (i := 2) scDrawn.nd rfl (Or.inl rfl)) (fun _ _ _ _ _ => pts_nil)
        (fun _ _ _ _ _ => pe_call GP hr rfl UP.g UP.k UP.b .nil pass0 (pa_cons (pv 0) (pa_cons pe_str pa_nil)))))), ?_⟩
    refine ⟨⟨_, rfl⟩, _, rfl, (m : Int), rfl, by omega, by omega, fun D hD => lc_range (n := m) (fun i G => ∃ cs : List Nat, cs.length = i ∧ (∀ z, z ∈ cs → chk 4 z = true) ∧ G D = some (.lst (cs.map fun z => .str (one z))) ∧ Keep p H G ∧ Pen G p c (n + i)) ?_ ?_ ?_⟩
    · exact ⟨[], rfl, (fun d h => nomatch h), upd_same, Kone.Keep.of (same_new hD), hp.keep (same_new hD)⟩
    · rintro i G hi ⟨cs, hl, hcs, hDl, kp, pen⟩
      have nD : D ≠ p := by
        obtain ⟨_, _, _, e, _⟩ := hp
        intro z
        rw [← z, hD] at e
        cases e
      refine ⟨rfl, _, rfl, p, c, n + i, dgs, rfl, pen, by omega, by decide, by decide, fun G2 z kp2 pen2 hz => ?_⟩
      have hD2 := kp2 D _ nD hDl
      refine ⟨_, hD2, ?_, cs ++ [z], ?_, ?_, ?_, ?_, ?_⟩
      · rw [List.length_map, hl]
        have : (101 : Nat) < sizeLine := by decide
        omega
      · rw [List.length_append, hl]
        rfl
      · intro d h
        rcases List.mem_append.mp h with h | h
        · exact hcs d h
        · cases List.mem_singleton.mp h
          exact chk_dg hz
      · rw [upd_same, List.map_append]
        rfl
      · intro b1 o n1 e1
        rw [upd_ne (ne_of_none e1 hD)]
        exact kp2 b1 o n1 (kp b1 o n1 e1)
      · obtain ⟨cs, a, g, q1, q2, q3, q4, q5⟩ := pen2
        obtain ⟨cs0, a0, g0, p1, p2, _⟩ := hp
        refine ⟨cs, a, g, ?_, ?_, q3, q4, by omega⟩
        · rw [upd_ne nD.symm]
          exact q1
        · rw [upd_ne (ne_of_none p2 hD)]
          exact q2
    · rintro G ⟨cs, hl, hcs, hDl, kp, pen⟩
      refine ⟨Str.empty, D, cs.map one, rfl, rfl, .inl (SqL.of ?_), ?_, ?_⟩
      · rw [hDl, List.map_map]
        rfl
      · rw [sum_one, hl]
        show m + _ * 0 ≤ _
        omega
      · rw [join_one]
        refine k _ ⟨cs.toArray⟩ kp pen (by show cs.toArray.size = m; rw [List.size_toArray, hl]) ?_
        show (decide (cs.toArray.size ≤ 100) && cs.toArray.toList.all (chk 4)) = true
        rw [List.size_toArray, hl, decide_eq_true hm, Bool.true_and, List.all_eq_true]
        exact hcs
end
end Kre
namespace Kre
open PySem L2 Gd
open Kone (Pen Keep same_new)
theorem lay_strs : ∀ ws : List Str, (∀ x, x ∈ ws → PyData.strOk x = true) → PyData.canLayAll0 (ws.map PyData.str) = true
  | [], _ => rfl
  | x :: r, h => by
    have h1 := h x (List.mem_cons_self ..)
    have h2 := lay_strs r fun y hy => h y (List.mem_cons_of_mem _ hy)
    simp [PyData.canLayAll0, PyData.canLay0, h1, h2]
theorem dep_strs : ∀ ws : List Str, PyData.depthAll (ws.map PyData.str) = 0
  | [] => rfl
  | _ :: r => by simp [PyData.depthAll, PyData.depth, dep_strs r]
theorem sh_strs (ws : List Str) (h : ∀ x, x ∈ ws → PyData.strOk x = true) : SeqAt.shaped (.list (ws.map PyData.str)) = true := by
  simp [SeqAt.shaped, PyData.canLay0, PyData.depth, lay_strs ws h, dep_strs]
theorem dp_strs {K : PySem.W.Frag} {H : Hp} : ∀ ws : List Str, DpAll K H (ws.map V.str) (ws.map PyData.str)
  | [] => .nil
  | x :: r => .cons (.str x) (dp_strs r)
theorem same_nil (ws : List Str) : (PyData.list (ws.map PyData.str)).eqv (.list []) = decide (ws = []) := by
  cases ws with
  | nil => rfl
  | cons x r => rfl
abbrev NRd : List Str := ["_law_some", "_law_spot", "_law_word"]
theorem scRead : FnScope NRd ["_law_some"] (defScope sRead) := ⟨rfl, rfl, rfl, by decide +kernel, rfl, by decide +kernel, by decide +kernel⟩
def scSp : Scope := { kind := ScopeKind.function, names := [(".0", NameKind.local), ("_law_spot", NameKind.cell), ("_law_some", NameKind.cell)], isGenerator := false, isCoroutine := false }
section
variable {P : Program} {w : World} {K : PySem.W.Frag} {mg : Str → Option Value} {base : Heap}
def spRead : Sp := fun vs H Q _ => ∃ (a : Addr) (ws : List Str), vs = [.ref a] ∧ H a = some (.lst (ws.map V.str)) ∧ ws.length ≤ 3 ∧ even ws = true ∧ (∀ x, x ∈ ws → x.length ≤ 100 ∧ PyData.strOk x = true) ∧ ∀ (t : Addr) (H' : Hp), Same H H' → H t = none → H' t = some (.tup (lets ws)) → Q (.ref t) H'
theorem ok_read {f : Addr} {fd : FuncData} (F : Fun K "_law_read" "_law_read" sRead f fd) (T : Txw mg) : FnOk P w K mg base CX0 1 f fd ["_law_some"] spRead := by
  refine F.ok scRead (fun vs H Q E h => ?_) (fun cdv A outer s H vs Q E hr h => ?_)
  · obtain ⟨a, ws, rfl, _⟩ := h
    rfl
  · obtain ⟨a, ws, rfl, ha, hl, ev, hz, k⟩ := h
    refine ⟨_, pss_cons (ps_if (pt_cmpR (op_eqD hr.units) (pv 0) (pe_lst pa_nil) (nomark _)) (pss_one (ps_ret (pe_tup pa_nil))) pss_nil)
      (pss_one (ps_ret (pe_callTy call_tuple_of (by rfl) T.tuple (by decide +kernel) (pa_cons (pe_lc (own := [("_law_spot", 1)]) (g := gName 1) (tt := tYes) (te := tM1 (rJn K) (tC (.str "")) (tLc (iList K (tVar 0)) (gName 2) tYes (tOp (fun x y H Q => ∃ z i c, x = .str z ∧ y = .int i ∧ 0 ≤ i ∧ i < 2 ^ 63 ∧ i < z.length ∧ z.cps[i.toNat]? = some c ∧ Q (.str ⟨#[c]⟩) H) (tVar 2) (tVar 1)) [2])) rfl scRead.nd (pi_range1 rfl T.range (pa_cons (pe_callB call_len_str (by rfl) T.len PySem.boot_len (pa_cons (pe_ix ix_list (pv 0) pe_int (fun _ _ => rfl)) pa_nil)) pa_nil)) (blkOk_by (N := NRd) (sc := defScope sRead) (by decide +kernel)) (fun _ _ _ _ _ => pg_name (i := 1) scRead.nd rfl (Or.inr rfl)) (fun _ _ _ _ _ => pts_nil)
        (fun _ _ _ _ _ => pe_join pe_str (pe_lc (own := [("_law_word", 2)]) (g := gName 2) (tt := tYes) rfl scRead.nd (pi_list (pv 0)) (blkOk_by (N := NRd) (sc := scSp) (by decide +kernel)) (fun _ _ _ _ _ => pg_name (i := 2) scRead.nd rfl (Or.inl rfl)) (fun _ _ _ _ _ => pts_nil) (fun _ _ _ _ _ => pe_item_str (pv 2) (pv 1) (fun _ _ => rfl))))) pa_nil)))), ?_⟩
    refine ⟨_, rfl, Nat.zero_le _, fun l hl2 => ?_⟩
    have s2 : Same H (upd H l (.lst [])) := same_new hl2
    have q3 : upd H l (.lst []) l = some (.lst []) := upd_same
    generalize upd H l (.lst []) = H2 at s2 q3
    have ha2 := s2 _ _ ha
    refine ⟨.list (ws.map PyData.str), .list [], .lst (SqL.of ha2) (dp_strs ws), .lst (SqL.of q3) .nil, sh_strs ws (fun x hx => (hz x hx).2), rfl, _, rfl, ?_⟩
    cases ws with
    | nil =>
      refine yesB ((same_nil []).trans (decide_eq_true rfl)) ?_
      exact ⟨Nat.zero_le _, fun t ht => k t _ (s2.trans (same_new ht)) (s2.free ht) upd_same⟩
    | cons h0 r =>
      refine noB ((same_nil _).trans (decide_eq_false (fun z => nomatch z))) ?_
      have hh := hz h0 (List.mem_cons_self ..)
      have hcs : ∀ x, x ∈ h0 :: r → x.cps.size = h0.length := fun x hx => of_decide_eq_true (List.all_eq_true.mp ev x hx)
      refine ⟨_, rfl, a, _, 0, .str h0, rfl, rfl, SqL.of ha2, at_zero, h0, rfl, Nat.le_trans hh.1 (by decide), (h0.length : Int), rfl, by omega, by omega, fun D1 hD1 => lc_range (n := h0.length) (fun i G1 => Same H2 G1 ∧ G1 D1 = some (.lst ((List.range i).map fun p => .str (lett (h0 :: r) p)))) ?_ ?_ ?_⟩
      · exact ⟨same_new hD1, by rw [upd_same]; rfl⟩
      · rintro i G1 hi ⟨s1, hL⟩
        refine ⟨rfl, ⟨_, rfl⟩, _, rfl, a, rfl, ⟨_, SqL.of (s1 _ _ ha2)⟩, fun D2 hD2 => lc_list (K := K) (a := a) (xs := (h0 :: r).map V.str) (fun j G2 => Same H2 G2 ∧ G2 D1 = some (.lst ((List.range i).map fun p => .str (lett (h0 :: r) p))) ∧ G2 D2 = some (.lst (((h0 :: r).take j).map fun x => .str (one (x.cps.getD i 0))))) ?_ ?_ ?_ ?_⟩
        · refine ⟨s1.trans (same_new hD2), ?_, by rw [upd_same]; rfl⟩
          rw [upd_ne (ne_of_none hL hD2)]
          exact hL
        · rintro j G2 hj ⟨s2', _⟩
          exact SqL.of (s2' _ _ ha2)
        · rintro j y G2 hy ⟨s2', hL2, hM⟩
          rw [List.getElem?_map] at hy
          obtain ⟨x, hx1, rfl⟩ : ∃ x, (h0 :: r)[j]? = some x ∧ V.str x = y := by
            cases e : (h0 :: r)[j]? with
            | none => rw [e] at hy; cases hy
            | some x => rw [e] at hy; exact ⟨x, rfl, Option.some.inj hy⟩
          have hxs := hcs x (List.mem_of_getElem? hx1)
          have hlt : i < x.cps.size := by omega
          have hc : x.cps[(0 + (i : Int)).toNat]? = some (x.cps.getD i 0) := by
            have e : (0 + (i : Int)).toNat = i := by omega
            rw [e, Array.getD_eq_getD_getElem?, Array.getElem?_eq_getElem hlt]
            rfl
          have nD : D2 ≠ D1 := (ne_of_none hL hD2).symm
          refine ⟨rfl, _, rfl, _, rfl, x, 0 + (i : Int), _, rfl, rfl, by omega, by omega, by show _ < (x.cps.size : Int); omega, hc, _, hM, ?_, ?_, ?_, ?_⟩
          · rw [List.length_map, List.length_take]
            have : (101 : Nat) < sizeLine := by decide
            omega
          · intro b o e
            have := s2' b o e
            rw [upd_ne (ne_of_none (s1 b o e) hD2)]
            exact this
          · rw [upd_ne nD.symm]
            exact hL2
          · rw [upd_same, List.take_add_one, hx1, List.map_append]
            rfl
        · rintro G2 ⟨s2', hL2, hM⟩
          rw [List.length_map, List.take_of_length_le (Nat.le_refl _)] at hM
          refine ⟨Str.empty, D2, ((h0 :: r).map fun x => x.cps.getD i 0).map one, rfl, rfl, .inl (SqL.of ?_), ?_, _, hL2, ?_, ?_, ?_⟩
          · rw [hM, List.map_map, List.map_map]
            rfl
          · rw [sum_one, List.length_map]
            show (h0 :: r).length + _ * 0 ≤ _
            omega
          · rw [List.length_map, List.length_range]
            exact Nat.lt_of_lt_of_le hi (Nat.le_trans hh.1 (by decide))
          · intro b o e
            have := s2' b o e
            rw [upd_ne (ne_of_none e hD1)]
            exact this
          · rw [upd_same, join_one, List.range_succ, List.map_append]
            rfl
      · rintro G1 ⟨s1, hL⟩
        exact ⟨D1, _, rfl, .inl ⟨SqL.of hL, fun l hl => k l _ ((s2.trans s1).trans (same_new hl)) ((s2.trans s1).free hl) (by rw [upd_same]; rfl)⟩⟩
end
end Kre
namespace Kre
open PySem L2 Gd
open Kone (Pen Keep same_new)
theorem at_one {a b : V} {r : List V} : atI (a :: b :: r) 1 = some b := by
  unfold atI ixN
  rw [if_pos (by decide), if_pos (by simp; omega)]
  rfl
theorem at_two {a b c : V} {r : List V} : atI (a :: b :: c :: r) 2 = some c := by
  unfold atI ixN
  rw [if_pos (by decide), if_pos (by simp; omega)]
  rfl
theorem no_bad {ws : List Str} (h : ∀ x, x ∈ ws → isWd 4 (.str x) = true) : (ws.map V.str).find? bad4 = none := by
  rw [List.find?_eq_none]
  intro v hv
  obtain ⟨x, hx, rfl⟩ := List.mem_map.mp hv
  unfold bad4
  rw [h x hx]
  decide
theorem map_inj : ∀ {ws us : List Str}, ws.map V.str = us.map V.str → ws = us
  | [], [], _ => rfl
  | [], _ :: _, h => nomatch h
  | _ :: _, [], h => nomatch h
  | a :: r, b :: t, h => by
    injection h with h1 h2
    injection h1 with h1
    rw [h1, map_inj h2]
theorem wd_len {x : Str} (h : isWd 4 (.str x) = true) : x.length ≤ 100 := by
  have h3 : (decide (x.length ≤ 100) && x.cps.toList.all (chk 4)) = true := h
  rw [Bool.and_eq_true, decide_eq_true_eq] at h3
  exact h3.1
theorem so_wd {x : Str} (h : isWd 4 (.str x) = true) : PyData.strOk x = true := by
  have h3 : (decide (x.length ≤ 100) && x.cps.toList.all (chk 4)) = true := h
  rw [Bool.and_eq_true] at h3
  have h4 := List.all_eq_true.mp h3.2
  show x.cps.all (· < 0x110000) = true
  rw [← Array.all_toList, List.all_eq_true]
  intro c hc
  have h5 : c ∈ (cutS dgs none (some 4)).cps.toList := of_decide_eq_true (h4 c hc)
  have e : (cutS dgs none (some 4)).cps.toList = [48, 49, 50, 51] := by decide +kernel
  rw [e] at h5
  apply decide_eq_true
  have : c = 48 ∨ c = 49 ∨ c = 50 ∨ c = 51 := by simpa using h5
  omega
section
variable {K : PySem.W.Frag}
theorem vl_str {H : Hp} {x : Str} (h : x.length ≤ 1000) : Vl K H (.str x) := ⟨knd_str, fun y e => by cases e; exact h⟩
theorem vl_wd {H : Hp} {x : Str} (h : isWd 4 (.str x) = true) : Vl K H (.str x) := vl_str (Nat.le_trans (wd_len h) (by decide))
theorem rd_ok {CW CU CM : Addr} {ws : List Str} {H : Hp} {Q : VK} {E : XK} (hw : ∀ x, x ∈ ws → isWd 4 (.str x) = true) (ev : even ws = true) (hl : ws.length ≤ 3)
    (k : ∀ (t : Addr) (H' : Hp), Same H H' → H t = none → H' t = some (.tup (lets ws)) → Q (.ref t) H') : (ws.map V.str).length ≤ 100 ∧ (∀ v, v ∈ ws.map V.str → ∀ H', Same H H' → Vl K H' v) ∧ RdO CW CU CM (ws.map V.str) H Q E := by
  refine ⟨by rw [List.length_map]; omega, fun v hv H' _ => ?_, ?_⟩
  · obtain ⟨x, hx, rfl⟩ := List.mem_map.mp hv
    exact vl_wd (hw x hx)
  · unfold RdO CkW
    rw [no_bad hw]
    intro us e
    have := map_inj e
    subst this
    rw [ev, if_pos rfl]
    intro H' s
    rw [if_neg (by rw [List.length_map]; omega)]
    intro us e2 t H2 s2 ht h2
    have := map_inj e2
    subst this
    exact k t H2 (s.trans s2) (s.free ht) h2
end
theorem scTold : FnScope ["_law_some"] ["_law_some"] (defScope sTold) := ⟨rfl, rfl, rfl, by decide +kernel, rfl, by decide +kernel, by decide +kernel⟩
section
variable {P : Program} {w : World} {K : PySem.W.Frag} {mg : Str → Option Value} {base : Heap}
def spTold : Sp := fun vs H Q _ => ∃ (a : Addr) (ws : List Str), vs = [.ref a] ∧ H a = some (.lst (ws.map V.str)) ∧ ws.length ≤ 3 ∧ even ws = true ∧ (∀ x, x ∈ ws → isWd 4 (.str x) = true) ∧ ∀ (t : Addr) (H' : Hp), Same H H' → H t = none → H' t = some (.tup (lets ws)) → Q (.ref t) H'
/-- reading stands at f -/
structure Rdg (P : Program) (w : World) (K : PySem.W.Frag) (mg : Str → Option Value) (base : Heap) (CW CU CM f : Addr) : Prop where
  g : mg "reading" = some (.ref f)
  k : PySem.W.keepIn K (.ref f) = true
  F : FnR P w K mg base (L2.CX P w) 9 f (fun vs H Q E => vs.length ≤ 100 ∧ (∀ v, v ∈ vs → ∀ H', Same H H' → Vl K H' v) ∧ RdO CW CU CM vs H Q E)
theorem ok_told {f fR CW CU CM : Addr} {fd : FuncData} (F : Fun K "_law_told" "_law_told" sTold f fd) (T : Txw mg) (R : Rdg P w K mg base CW CU CM fR) : FnOk P w K mg base CX0 10 f fd ["_law_some"] spTold := by
  refine F.ok scTold (fun vs H Q E h => ?_) (fun cdv A outer s H vs Q E hr h => ?_)
  · obtain ⟨a, ws, rfl, _⟩ := h
    rfl
  · obtain ⟨a, ws, rfl, ha, hl, ev, hw, k⟩ := h
    refine ⟨_, pss_cons (ps_if (pt_cmpR op_lt (pe_callB call_len_seq (by rfl) T.len PySem.boot_len (pa_cons (pv 0) pa_nil)) pe_int (nomark _))
        (pss_one (ps_ret (pe_ifExp (pt_cmpR (op_eqD hr.units) (pv 0) (pe_lst pa_nil) (nomark _)) (pe_callRS0 (E := EN) R.F hr rfl R.g R.k passN) (pe_callRS (E := EN) R.F hr rfl R.g R.k passN (pa_cons (pe_ix ix_list (pv 0) pe_int (fun _ _ => rfl)) pa_nil))))) pss_nil)
      (pss_cons (ps_if (pt_cmpR op_eq (pe_callB call_len_seq (by rfl) T.len PySem.boot_len (pa_cons (pv 0) pa_nil)) pe_int (nomark _))
        (pss_one (ps_ret (pe_callRS (E := EN) R.F hr rfl R.g R.k passN (pa_cons (pe_ix ix_list (pv 0) pe_int (fun _ _ => rfl)) (pa_cons (pe_ix ix_list (pv 0) pe_int (fun _ _ => rfl)) pa_nil))))) pss_nil)
      (pss_one (ps_ret (pe_ifExp (pt_cmpR op_eq (pe_callB call_len_seq (by rfl) T.len PySem.boot_len (pa_cons (pv 0) pa_nil)) pe_int (nomark _))
        (pe_callRS (E := EN) R.F hr rfl R.g R.k passN (pa_cons (pe_ix ix_list (pv 0) pe_int (fun _ _ => rfl)) (pa_cons (pe_ix ix_list (pv 0) pe_int (fun _ _ => rfl)) (pa_cons (pe_ix ix_list (pv 0) pe_int (fun _ _ => rfl)) pa_nil))))
        (pe_callRS (E := EN) R.F hr rfl R.g R.k passN (pa_cons (pe_ix ix_list (pv 0) pe_int (fun _ _ => rfl)) (pa_cons (pe_ix ix_list (pv 0) pe_int (fun _ _ => rfl)) (pa_cons (pe_ix ix_list (pv 0) pe_int (fun _ _ => rfl)) (pa_cons (pe_ix ix_list (pv 0) pe_int (fun _ _ => rfl)) pa_nil))))))))), ?_⟩
    rcases ws with _ | ⟨x, _ | ⟨y, _ | ⟨z, _ | ⟨u, r⟩⟩⟩⟩
    · refine ⟨_, rfl, a, _, rfl, .inl (SqL.of ha), _, _, rfl, rfl, _, rfl, ?_⟩
      refine yesB (by rfl) ?_
      refine ⟨_, rfl, Nat.zero_le _, fun l hl2 => ?_⟩
      have s2 : Same H (upd H l (.lst [])) := same_new hl2
      have q3 : upd H l (.lst []) l = some (.lst []) := upd_same
      generalize upd H l (.lst []) = H2 at s2 q3
      refine ⟨.list [], .list [], .lst (SqL.of (s2 _ _ ha)) .nil, .lst (SqL.of q3) .nil, rfl, rfl, _, rfl, ?_⟩
      refine yesB (by rfl) ?_
      exact rd_ok hw ev hl (fun t H' s' ht e => k t H' (s2.trans s') (s2.free ht) e)
    · refine ⟨_, rfl, a, _, rfl, .inl (SqL.of ha), _, _, rfl, rfl, _, rfl, ?_⟩
      refine yesB (by rfl) ?_
      refine ⟨_, rfl, Nat.zero_le _, fun l hl2 => ?_⟩
      have s2 : Same H (upd H l (.lst [])) := same_new hl2
      have q3 : upd H l (.lst []) l = some (.lst []) := upd_same
      generalize upd H l (.lst []) = H2 at s2 q3
      have so : PyData.strOk x = true := so_wd (hw x (List.mem_cons_self ..))
      refine ⟨.list [.str x], .list [], .lst (SqL.of (s2 _ _ ha)) (dp_strs [x]), .lst (SqL.of q3) .nil, sh_strs [x] (fun y hy => by cases List.mem_singleton.mp hy; exact so), rfl, _, rfl, ?_⟩
      refine noB (by rfl) ?_
      refine ⟨_, rfl, a, _, 0, _, rfl, rfl, SqL.of (s2 _ _ ha), at_zero, ?_⟩
      exact rd_ok (ws := [x]) hw ev hl (fun t H' s' ht e => k t H' (s2.trans s') (s2.free ht) e)
    · refine ⟨_, rfl, a, _, rfl, .inl (SqL.of ha), _, _, rfl, rfl, _, rfl, ?_⟩
      refine noB (by rfl) ?_
      refine ⟨_, rfl, a, _, rfl, .inl (SqL.of ha), rfl, _, rfl, ?_⟩
      refine yesB (by rfl) ?_
      refine ⟨_, rfl, a, _, 0, _, rfl, rfl, SqL.of ha, at_zero, _, rfl, a, _, 1, _, rfl, rfl, SqL.of ha, at_one, ?_⟩
      exact rd_ok (ws := [x, y]) hw ev hl k
    · refine ⟨_, rfl, a, _, rfl, .inl (SqL.of ha), _, _, rfl, rfl, _, rfl, ?_⟩
      refine noB (by rfl) ?_
      refine ⟨_, rfl, a, _, rfl, .inl (SqL.of ha), rfl, _, rfl, ?_⟩
      refine noB (by rfl) ?_
      refine ⟨_, rfl, a, _, rfl, .inl (SqL.of ha), rfl, _, rfl, ?_⟩
      refine yesB (by rfl) ?_
      refine ⟨_, rfl, a, _, 0, _, rfl, rfl, SqL.of ha, at_zero, _, rfl, a, _, 1, _, rfl, rfl, SqL.of ha, at_one, _, rfl, a, _, 2, _, rfl, rfl, SqL.of ha, at_two, ?_⟩
      exact rd_ok (ws := [x, y, z]) hw ev hl k
    · exact absurd hl (by simp)
end
end Kre
namespace Kre
open PySem L2 Gd
open Kone (Pen Keep spPen spDraw spPick TxtD same_new)
/-! ### a call by names alone -/
section
variable {X : Cx} {CX : CXT} {k : Nat} {f : Addr} {fd : FuncData} {ps ks : List Str} {sp : Sp} {E : XK} {x : Str} {p pos : Pos} {tk : TA} {g : List Value → List Value → List Value} {gV : List V → List V → List V} {kws : List Keyword}
theorem pe_callK0 (F : FnOk X.prog X.w X.K X.mg X.base CX k f fd ps sp) (hr : Room k X.A) (hg : Gl X x) (hm : X.mg x = some (.ref f)) (hk : PySem.W.keepIn X.K (.ref f) = true) (hb : KBinds X.K fd ps ks g gV) (hx : Passes CX X E)
    (hkw : PK X kws tk) (hall : (backToKw pos (keywordEach kws X.env)).all (·.1.isSome) = true := by rfl) (hks : (backToKw pos (keywordEach kws X.env)).filterMap (·.1) = ks := by rfl)
    (hdb : (x == ("__debug__" : Str)) = false := by decide)
    (hpl : ((backTo pos (starEach [] X.env)).any (·.1) || (backToKw pos (keywordEach kws X.env)).any (·.1.isNone)) = false := by rfl) :
    PE X (.Call (.Name x p) [] kws pos) (tCallK sp gV E tNil tk) := by
  refine ⟨fun pins s σ H Q I h => ?_⟩
  refine wpAny_Call_Name_kw (ld_glob I hg hm ?_ hdb)
  refine PySem.W.callWith_KW0 (h₀ := X.base) I.ok.mod.kin hk hall ?_ hpl
  refine thn (hkw.run pos pins s σ H _ I h) fun ws s2 ⟨zs, H2, I2, rz, q2⟩ => ⟨I2.kIn, ?_⟩
  rw [hks]
  exact run_fnk F hr hb hx I2 .nil rz q2
theorem passNx {X : Cx} : Passes (L2.CX X.prog X.w) X (fun _ _ _ => False) := fun pins σ H s e s' I c => by
  obtain ⟨a, B, H', cls, d, ea, fl, hok, un, na, os, ag, he⟩ := c
  exact False.elim he
end
/-! ### tuples of texts -/
theorem sht_strs (ws : List Str) (h : ∀ x, x ∈ ws → PyData.strOk x = true) : SeqAt.shaped (.tuple (ws.map PyData.str)) = true := by
  simp [SeqAt.shaped, PyData.canLay0, PyData.depth, lay_strs ws h, dep_strs]
theorem eqvAll_strs : ∀ ws : List Str, PyData.eqvAll (ws.map PyData.str) (ws.map PyData.str) = true
  | [] => rfl
  | x :: r => by
    show (x == x && PyData.eqvAll _ _) = true
    rw [beq_self_eq_true, eqvAll_strs r]
    rfl
theorem eqvt_strs (ws : List Str) : (PyData.tuple (ws.map PyData.str)).eqv (.tuple (ws.map PyData.str)) = true := eqvAll_strs ws
theorem dig_ok {c : Nat} (h : chk 4 c = true) : c = 48 ∨ c = 49 ∨ c = 50 ∨ c = 51 := by
  have h5 : c ∈ (cutS dgs none (some 4)).cps.toList := of_decide_eq_true h
  have e : (cutS dgs none (some 4)).cps.toList = [48, 49, 50, 51] := by decide +kernel
  rw [e] at h5
  simpa using h5
theorem wd_chk {x : Str} (h : isWd 4 (.str x) = true) : ∀ c, c ∈ x.cps.toList → chk 4 c = true := by
  have h3 : (decide (x.length ≤ 100) && x.cps.toList.all (chk 4)) = true := h
  rw [Bool.and_eq_true] at h3
  exact List.all_eq_true.mp h3.2
/-- the letters as texts -/
def lts (ws : List Str) : List Str := (List.range (ws.headD Str.empty).length).map (lett ws)
theorem lets_eq (ws : List Str) : lets ws = (lts ws).map V.str := by
  unfold lets lts
  rw [List.map_map]
  rfl
section
variable {ws : List Str}
theorem even_len (ev : even ws = true) : ∀ x, x ∈ ws → x.cps.size = (ws.headD Str.empty).length := fun x hx => of_decide_eq_true (List.all_eq_true.mp ev x hx)
theorem lts_isL (ev : even ws = true) (hw : ∀ x, x ∈ ws → isWd 4 (.str x) = true) : ∀ y, y ∈ lts ws → isLet 4 ws.length (.str y) = true := by
  intro y hy
  obtain ⟨i, hi, rfl⟩ := List.mem_map.mp hy
  have hi := List.mem_range.mp hi
  show (decide (((lett ws i).length : Int) = ws.length) && (lett ws i).cps.toList.all (chk 4)) = true
  rw [Bool.and_eq_true]
  constructor
  · apply decide_eq_true
    show (((ws.map fun x => x.cps.getD i 0).toArray.size : Nat) : Int) = _
    rw [List.size_toArray, List.length_map]
  · rw [List.all_eq_true]
    intro c hc
    obtain ⟨x, hx, rfl⟩ := List.mem_map.mp (show c ∈ ws.map fun x => x.cps.getD i 0 by simpa [lett] using hc)
    have hlt : i < x.cps.size := by rw [even_len ev x hx]; exact hi
    refine wd_chk (hw x hx) _ ?_
    rw [Array.getD_eq_getD_getElem?, Array.getElem?_eq_getElem hlt]
    exact Array.getElem_mem_toList hlt
theorem let_ok {b wd : Int} {y : Str} (h : isLet 4 wd (.str y) = true) : PyData.strOk y = true := by
  have h3 : (decide ((y.length : Int) = wd) && y.cps.toList.all (chk 4)) = true := h
  rw [Bool.and_eq_true] at h3
  have h4 := List.all_eq_true.mp h3.2
  show y.cps.all (· < 0x110000) = true
  rw [← Array.all_toList, List.all_eq_true]
  intro c hc
  apply decide_eq_true
  have := dig_ok (h4 c hc)
  omega
theorem lts_len : (lts ws).length = (ws.headD Str.empty).length := by
  unfold lts
  rw [List.length_map, List.length_range]
theorem lett_lts (ev : even ws = true) {p : Nat} {x : Str} (hp : ws[p]? = some x) : lett (lts ws) p = x := by
  have hx := List.mem_of_getElem? hp
  have hs := even_len ev x hx
  unfold lett lts
  rw [List.map_map]
  have e : ((List.range (ws.headD Str.empty).length).map ((fun x => x.cps.getD p 0) ∘ lett ws)) = x.cps.toList := by
    apply List.ext_getElem?
    intro i
    rw [List.getElem?_map, ← hs]
    by_cases hi : i < x.cps.size
    · rw [List.getElem?_range hi, Array.getElem?_toList, Array.getElem?_eq_getElem hi]
      show some ((ws.map fun x => x.cps.getD i 0).toArray.getD p 0) = _
      rw [Array.getD_eq_getD_getElem?, List.getElem?_toArray, List.getElem?_map, hp]
      show some (x.cps.getD i 0) = _
      rw [Array.getD_eq_getD_getElem?, Array.getElem?_eq_getElem hi]
      rfl
    · rw [List.getElem?_eq_none (by rw [List.length_range]; omega), Array.getElem?_toList, Array.getElem?_eq_none (by omega)]
      rfl
  rw [e]
theorem back_eq (ev : even ws = true) : ((List.range ws.length).map fun p => V.str (lett (lts ws) p)) = ws.map V.str := by
  apply List.ext_getElem?
  intro p
  rw [List.getElem?_map, List.getElem?_map]
  by_cases hp : p < ws.length
  · rw [List.getElem?_range hp, List.getElem?_eq_getElem hp]
    show some (V.str (lett (lts ws) p)) = some (V.str ws[p])
    rw [lett_lts ev (List.getElem?_eq_getElem hp)]
  · rw [List.getElem?_eq_none (by rw [List.length_range]; omega), List.getElem?_eq_none (by omega)]
    rfl
end
section
variable {K : PySem.W.Frag}
theorem no_badL {wd : Int} {us : List Str} (h : ∀ y, y ∈ us → isLet 4 wd (.str y) = true) : (us.map V.str).find? (badL wd) = none := by
  rw [List.find?_eq_none]
  intro v hv
  obtain ⟨x, hx, rfl⟩ := List.mem_map.mp hv
  unfold badL
  rw [h x hx]
  decide
/-- words_of the letters us -/
theorem wo_ok {CD CL : Addr} {us : List Str} {a : Addr} {m : Nat} {H : Hp} {Q : VK} {E : XK} (ha : H a = some (.tup (us.map V.str))) (m1 : 1 ≤ m) (m3 : m ≤ 3) (hn : us.length ≤ 100) (hu : ∀ y, y ∈ us → isLet 4 m (.str y) = true)
    (k : ∀ (t : Addr) (H' : Hp), Same H H' → H t = none → H' t = some (.tup ((List.range m).map fun p => .str (lett us p))) → Q (.ref t) H') : WoO K CD CL (.ref a) (.int m) H Q E := by
  unfold WoO
  rw [if_pos (show btw (.int m) 1 3 = true by show (decide ((1 : Int) ≤ m) && decide ((m : Int) ≤ 3)) = true; rw [decide_eq_true (by omega), decide_eq_true (by omega)]; rfl)]
  intro wd e
  cases e
  refine .inr ⟨a, us.map V.str, rfl, ha, by rw [List.length_map]; omega, ?_⟩
  rw [if_neg (by rw [List.length_map]; omega)]
  refine ⟨fun y hy H' _ => ?_, ?_⟩
  · obtain ⟨x, hx, rfl⟩ := List.mem_map.mp hy
    refine vl_str ?_
    have h3 : (decide ((x.length : Int) = m) && x.cps.toList.all (chk 4)) = true := hu x hx
    rw [Bool.and_eq_true, decide_eq_true_eq] at h3
    omega
  · rw [no_badL hu]
    intro ws e t H' s ht h
    have := map_inj e
    subst this
    exact k t H' s ht h
end
end Kre
namespace Kre
open PySem L2 Gd
open Kone (Pen Keep spPen spDraw spPick TxtD same_new)
abbrev NRi : List Str := ["_law_pen_here", "_law_many", "_law_some", "_law_letters_so", "_law_place"]
theorem scRight : FnScope NRi ["_law_pen_here"] (defScope sRight) := ⟨rfl, rfl, rfl, by decide +kernel, rfl, by decide +kernel, by decide +kernel⟩
def gSw {α : Type} (us ws : List α) : List α := match us, ws with
  | [], [u, l] => [l, u]
  | _, _ => []
/-- what _law_right and _law_refused_right lean on -/
structure Lw (P : Program) (w : World) (K : PySem.W.Frag) (mg : Str → Option Value) (base : Heap) (S CB CD CW CL CU CM fI fB fH fKB fIW fIL fCW fSS fWO fR fD fP fDn fRe fTo : Addr) (dI dB dH dKB dIW dIL dCW dSS dWO dD dP dDn dRe dTo : FuncData) : Prop where
  r : Wr P w K mg base S CB CD CW CL CU CM fI fB fH fKB fIW fIL fCW fSS fWO dI dB dH dKB dIW dIL dCW dSS dWO
  rd : Rdg P w K mg base CW CU CM fR
  wk : KBinds K dWO ["letters", "width"] ["width", "letters"] gSw gSw
  t : TxtD mg fD
  d : Def K mg "_law_draw" sDraw ["_law_pen_here", "_law_many"] fD dD
  p : Def K mg "_law_pick" sPick ["_law_pen_here", "_law_some"] fP dP
  dn : Def K mg "_law_drawn" sDrawn ["_law_pen_here", "_law_many"] fDn dDn
  re : Def K mg "_law_read" sRead ["_law_some"] fRe dRe
  to : Def K mg "_law_told" sTold ["_law_some"] fTo dTo
def spRight : Sp := fun vs H Q _ => ∃ (p c : Addr) (n : Nat), vs = [.ref p] ∧ Pen H p c n ∧ n + 400 ≤ 100000 ∧ ∀ H', Keep p H H' → Pen H' p c (n + 400) → Q (.bl true) H'
section
variable {P : Program} {w : World} {K : PySem.W.Frag} {mg : Str → Option Value} {base : Heap} {S CB CD CW CL CU CM fI fB fH fKB fIW fIL fCW fSS fWO fR fD fP fDn fRe fTo : Addr} {dI dB dH dKB dIW dIL dCW dSS dWO dD dP dDn dRe dTo : FuncData}
theorem ok_right (D : Lw P w K mg base S CB CD CW CL CU CM fI fB fH fKB fIW fIL fCW fSS fWO fR fD fP fDn fRe fTo dI dB dH dKB dIW dIL dCW dSS dWO dD dP dDn dRe dTo) {f : Addr} {fd : FuncData} (F : Fun K "_law_right" "_law_right" sRight f fd) : FnOk P w K mg base CX0 11 f fd ["_law_pen_here"] spRight := by
  have T := D.r.d.t
  have GD : FnOk P w K mg base CX0 1 fD dD ["_law_pen_here", "_law_many"] spDraw := ok_draw (fD := fD) D.d.F D.t
  have GP : FnOk P w K mg base CX0 2 fP dP ["_law_pen_here", "_law_some"] spPick := ok_pick D.p.F D.t D.d
  have GN : FnOk P w K mg base CX0 3 fDn dDn ["_law_pen_here", "_law_many"] spDrawn := ok_drawn D.dn.F T D.t D.p D.d
  have GR : FnOk P w K mg base CX0 1 fRe dRe ["_law_some"] spRead := ok_read D.re.F T
  have GT : FnOk P w K mg base CX0 10 fTo dTo ["_law_some"] spTold := ok_told D.to.F T D.rd
  have GW : FnOk P w K mg base (L2.CX P w) 6 fWO dWO ["letters", "width"] (spWO K CD CL) := ok_WO D.r
  refine F.ok scRight (fun vs H Q E h => ?_) (fun cdv A outer s H vs Q E hr h => ?_)
  · obtain ⟨p, c, n, rfl, _⟩ := h
    rfl
  · obtain ⟨p, c, n, rfl, hp, hn, k⟩ := h
    have hr1 := hr.mono (show 1 ≤ 10 by decide)
    have hr2 := hr.mono (show 2 ≤ 10 by decide)
    have hr3 := hr.mono (show 3 ≤ 10 by decide)
    have hr6 := hr.mono (show 6 ≤ 10 by decide)
    refine ⟨_, pss_cons (ps_set (i := 1) scRight.nd rfl (Or.inr rfl) (pe_call GP hr2 rfl D.p.g D.p.k D.p.b .nil pass0 (pa_cons (pv 0) (pa_cons (pe_lst (pa_cons pe_int (pa_cons pe_int (pa_cons pe_int (pa_cons pe_int (pa_cons (pe_call GD hr1 rfl D.d.g D.d.k D.d.b .nil pass0 (pa_cons (pv 0) (pa_cons pe_int pa_nil))) pa_nil)))))) pa_nil))))
      (pss_cons (ps_setLc (i := 2) (own := [("_law_place", 4)]) (g := gName 4) (tt := tYes) (te := _) rfl scRight.nd rfl rfl (sw_true rfl rfl rfl (by decide +kernel)) (pi_range1 rfl T.range (pa_cons (pe_call GD hr1 rfl D.d.g D.d.k D.d.b .nil pass0 (pa_cons (pv 0) (pa_cons pe_int pa_nil))) pa_nil)) (blkOk_by (N := NRi) (sc := defScope sRight) (by decide +kernel)) (fun _ _ _ _ _ => pg_name (i := 4) scRight.nd rfl (Or.inl rfl)) (fun _ _ _ _ _ => pts_nil)
        (fun _ _ _ _ _ => pe_call GN hr3 rfl D.dn.g D.dn.k D.dn.b .nil pass0 (pa_cons (pv 0) (pa_cons (pv 1) pa_nil))))
      (pss_cons (ps_set (i := 3) scRight.nd rfl (Or.inl rfl) (pe_call GR hr1 rfl D.re.g D.re.k D.re.b .nil pass0 (pa_cons (pv 2) pa_nil)))
      (pss_cons (ps_if (PW.pt (pw_or (pt_cmpR (op_neD hr.units) (pe_call GT hr rfl D.to.g D.to.k D.to.b .nil pass0 (pa_cons (pv 2) pa_nil)) (pv 3) (nomark _))
          (pw_or1 (PW.pt (pw_and (pt_cmpR (op_neD hr.units) (pv 2) (pe_lst pa_nil) (nomark _)) (pw_and1 (pt_cmpR (op_neD hr.units) (pe_callS (E := EN) GW hr6 rfl D.r.wo.g D.r.wo.k D.r.wo.b passN (pa_cons (pv 3) (pa_cons (pe_callB call_len_seq (by rfl) T.len PySem.boot_len (pa_cons (pv 2) pa_nil)) pa_nil))) (pe_callTy call_tuple_of (by rfl) T.tuple (by decide +kernel) (pa_cons (pv 2) pa_nil)) (nomark _))))))))
        (pss_one (ps_ret pe_bl)) pss_nil)
      (pss_cons (ps_if (PW.pt (pw_and (pt_cmpR (op_neD hr.units) (pv 2) (pe_lst pa_nil) (nomark _)) (pw_and1 (pt_cmpR (op_neD hr.units) (pe_callK0 GW hr6 rfl D.r.wo.g D.r.wo.k D.wk passNx (pk_cons (pe_callB call_len_seq (by rfl) T.len PySem.boot_len (pa_cons (pv 2) pa_nil)) (pk_cons (pv 3) pk_nil))) (pe_callTy call_tuple_of (by rfl) T.tuple (by decide +kernel) (pa_cons (pv 2) pa_nil)) (nomark _)))))
        (pss_one (ps_ret pe_bl)) pss_nil)
      (pss_one (ps_ret (pe_and (pe_cmpR (op_eqD hr.units) (pe_callS (E := EN) GW hr6 rfl D.r.wo.g D.r.wo.k D.r.wo.b passN (pa_cons (pe_tup pa_nil) (pa_cons pe_int pa_nil))) (pe_tup (pa_cons pe_str (pa_cons pe_str (pa_cons pe_str pa_nil)))) (nomark _))
        (pe_one (pe_cmpR (op_eqD hr.units) (pe_callS (E := EN) GW hr6 rfl D.r.wo.g D.r.wo.k D.r.wo.b passN (pa_cons (pe_tup pa_nil) (pa_cons pe_int pa_nil))) (pe_tup (pa_cons pe_str pa_nil)) (nomark _)))))))))), ?_⟩
    refine ⟨_, rfl, _, rfl, p, c, 101, n, rfl, hp, by omega, by decide, by decide, fun H1 d kp1 pen1 d0 d1 => ?_⟩
    refine ⟨by show 5 ≤ sizeLine; decide, fun l hl => ?_⟩
    have s2 : Same H1 (upd H1 l (.lst [.int 0, .int 1, .int 2, .int 7, .int d])) := same_new hl
    have lp : l ≠ p := by
      obtain ⟨_, _, _, e, _⟩ := pen1
      exact (ne_of_none e hl).symm
    refine ⟨p, c, l, n + 1, _, rfl, pen1.keep s2, by omega, upd_same, lp, by show 0 < 5; decide, by show 5 < 1000; decide, fun H3 x kp3 pen3 hx => ?_⟩
    obtain ⟨m, rfl, hm⟩ : ∃ m : Nat, x = .int m ∧ m ≤ 100 := by
      simp only [List.mem_cons, List.not_mem_nil, or_false] at hx
      rcases hx with rfl | rfl | rfl | rfl | rfl
      · exact ⟨0, rfl, by decide⟩
      · exact ⟨1, rfl, by decide⟩
      · exact ⟨2, rfl, by decide⟩
      · exact ⟨7, rfl, by decide⟩
      · exact ⟨d.toNat, by rw [Int.toNat_of_nonneg d0], by omega⟩
    have kpH3 : Keep p H H3 := (kp1.trans (Kone.Keep.of s2)).trans kp3
    show tSeq _ _ _ [some (.ref p), some (.int m), none, none, none] H3
    refine ⟨_, rfl, p, c, 4, n + 2, rfl, pen3, by omega, by decide, by decide, fun H4 d4 kp4 pen4 e0 e1 => ?_⟩
    obtain ⟨dn, rfl⟩ : ∃ dn : Nat, d4 = (dn : Int) := ⟨d4.toNat, by omega⟩
    refine ⟨(dn : Int), rfl, by omega, by omega, fun D0 hD0 => lc_range (n := dn) (fun i G => ∃ ws : List Str, ws.length = i ∧ (∀ x, x ∈ ws → x.length = m ∧ isWd 4 (.str x) = true) ∧ G D0 = some (.lst (ws.map V.str)) ∧ Keep p H4 G ∧ Pen G p c (n + 3 + i * 100)) ?_ ?_ ?_⟩
    · exact ⟨[], rfl, (fun x h => nomatch h), upd_same, Kone.Keep.of (same_new hD0), (pen4.keep (same_new hD0)).mono (by omega)⟩
    · rintro i G hi ⟨ws, hwl, hws, hDl, kp, pen⟩
      have nD : D0 ≠ p := by
        obtain ⟨_, _, _, e, _⟩ := pen4
        exact (ne_of_none e hD0).symm
      have nC : D0 ≠ c := by
        obtain ⟨_, _, _, _, e, _⟩ := pen4
        exact (ne_of_none e hD0).symm
      refine ⟨rfl, _, rfl, _, rfl, p, c, m, n + 3 + i * 100, rfl, pen, by omega, hm, fun G2 x kp2 pen2 hxl hxw => ?_⟩
      have hD2 := kp2 D0 _ nD hDl
      refine ⟨_, hD2, ?_, ws ++ [x], ?_, ?_, ?_, ?_, ?_⟩
      · rw [List.length_map, hwl]
        have : (101 : Nat) < sizeLine := by decide
        omega
      · rw [List.length_append, hwl]
        rfl
      · intro y hy
        rcases List.mem_append.mp hy with hy | hy
        · exact hws y hy
        · cases List.mem_singleton.mp hy
          exact ⟨hxl, hxw⟩
      · rw [upd_same, List.map_append]
        rfl
      · intro b1 o n1 e1
        rw [upd_ne (ne_of_none e1 hD0)]
        exact kp2 b1 o n1 (kp b1 o n1 e1)
      · obtain ⟨cs, a, g, q1, q2, q3, q4, q5⟩ := pen2
        refine ⟨cs, a, g, ?_, ?_, q3, q4, by omega⟩
        · rw [upd_ne nD.symm]
          exact q1
        · rw [upd_ne nC.symm]
          exact q2
    · rintro G ⟨ws, hwl, hws, hDl, kp, pen⟩
      have hl3 : ws.length ≤ 3 := by omega
      have hw : ∀ x, x ∈ ws → isWd 4 (.str x) = true := fun x hx => (hws x hx).2
      have ev : even ws = true := by
        unfold even
        rw [List.all_eq_true]
        intro x hx
        apply decide_eq_true
        cases ws with
        | nil => exact nomatch hx
        | cons h0 r => rw [(hws x hx).1]; exact (hws h0 (List.mem_cons_self ..)).1.symm
      have kpA : Keep p H G := (kpH3.trans kp4).trans kp
      have penA : Pen G p c (n + 303) := pen.mono (by omega)
      show tSeq _ _ _ [some (.ref p), some (.int m), some (.ref D0), none, none] G
      refine ⟨_, rfl, D0, ws, rfl, hDl, hl3, ev, fun x hx => ⟨wd_len (hw x hx), so_wd (hw x hx)⟩, fun t1 H5 s5 ht1 h5 => ?_⟩
      show tSeq _ _ _ [some (.ref p), some (.int m), some (.ref D0), some (.ref t1), none] H5
      have hD5 := s5 _ _ hDl
      refine ⟨_, rfl, D0, ws, rfl, hD5, hl3, ev, hw, fun t2 H6 s6 ht2 h6 => ?_⟩
      rw [lets_eq] at h5 h6
      have hok : ∀ y, y ∈ lts ws → PyData.strOk y = true := fun y hy => let_ok (b := 4) (lts_isL ev hw y hy)
      refine ⟨_, rfl, .tuple ((lts ws).map PyData.str), .tuple ((lts ws).map PyData.str), .tup (SqT.of h6) (dp_strs _), .tup (SqT.of (s6 _ _ h5)) (dp_strs _), sht_strs _ hok, sht_strs _ hok, _, rfl, ?_⟩
      refine noB (by rw [eqvt_strs]; rfl) ?_
      refine ⟨_, rfl, Nat.zero_le _, fun l1 hl1 => ?_⟩
      have sA := (s5.trans s6).trans (same_new (o := .lst []) hl1)
      have sB := s6.trans (same_new (o := .lst []) hl1)
      have q1 : upd H6 l1 (.lst []) l1 = some (.lst []) := upd_same
      generalize upd H6 l1 (.lst []) = H7 at sA sB q1
      refine ⟨.list (ws.map PyData.str), .list [], .lst (SqL.of (sA _ _ hDl)) (dp_strs ws), .lst (SqL.of q1) .nil, sh_strs ws (fun x hx => so_wd (hw x hx)), rfl, _, rfl, ?_⟩
      cases ws with
      | nil =>
        refine noB (by rfl) ?_
        refine noB rfl ?_
        refine ⟨_, rfl, Nat.zero_le _, fun l2 hl2 => ?_⟩
        have sC := sA.trans (same_new (o := .lst []) hl2)
        have q2 : upd H7 l2 (.lst []) l2 = some (.lst []) := upd_same
        generalize upd H7 l2 (.lst []) = H8 at sC q2
        refine ⟨.list [], .list [], .lst (SqL.of (sC _ _ hDl)) .nil, .lst (SqL.of q2) .nil, rfl, rfl, _, rfl, ?_⟩
        refine noB (by rfl) ?_
        refine noB rfl ?_
        refine ⟨Nat.zero_le _, fun u1 hu1 => ?_⟩
        have f1 := sC.trans (same_new (o := .tup []) hu1)
        refine ⟨.ref u1, .int 3, rfl, knd_int, wo_ok (us := []) (m := 3) upd_same (by decide) (by decide) (by decide) (fun _ h => nomatch h) (fun u2 G2 g2 hu2 h2 => ?_)⟩
        have f2 := f1.trans g2
        refine ⟨by show 3 ≤ sizeLine; decide, fun u3 hu3 => ?_⟩
        have f3 := f2.trans (same_new (o := .tup [.str "", .str "", .str ""]) hu3)
        have h2' : upd G2 u3 (.tup [.str "", .str "", .str ""]) u2 = some (.tup ((["", "", ""] : List Str).map V.str)) := (upd_ne (ne_of_none h2 hu3)).trans h2
        refine ⟨.tuple ((["", "", ""] : List Str).map PyData.str), .tuple ((["", "", ""] : List Str).map PyData.str), .tup (SqT.of h2') (dp_strs _), .tup (SqT.of upd_same) (dp_strs ["", "", ""]), by decide +kernel, by decide +kernel, _, rfl, ?_⟩
        refine yesB (eqvt_strs _) ?_
        generalize upd G2 u3 (.tup [.str "", .str "", .str ""]) = G3 at f3
        refine ⟨Nat.zero_le _, fun u4 hu4 => ?_⟩
        have f4 := f3.trans (same_new (o := .tup []) hu4)
        refine ⟨.ref u4, .int 1, rfl, knd_int, wo_ok (us := []) (m := 1) upd_same (by decide) (by decide) (by decide) (fun _ h => nomatch h) (fun u5 G5 g5 hu5 h5' => ?_)⟩
        have f5 := f4.trans g5
        refine ⟨by show 1 ≤ sizeLine; decide, fun u6 hu6 => ?_⟩
        have f6 := f5.trans (same_new (o := .tup [.str ""]) hu6)
        have h5'' : upd G5 u6 (.tup [.str ""]) u5 = some (.tup (([""] : List Str).map V.str)) := (upd_ne (ne_of_none h5' hu6)).trans h5'
        refine ⟨.tuple (([""] : List Str).map PyData.str), .tuple (([""] : List Str).map PyData.str), .tup (SqT.of h5'') (dp_strs _), .tup (SqT.of upd_same) (dp_strs [""]), by decide +kernel, by decide +kernel, ?_⟩
        rw [show (PyData.tuple (([""] : List Str).map PyData.str)).eqv (.tuple (([""] : List Str).map PyData.str)) = true from eqvt_strs _]
        exact k _ (kpA.trans (Kone.Keep.of f6)) ((penA.keep f6).mono (by omega))
      | cons h0 r =>
        refine yesB (by rfl) ?_
        generalize hcns : h0 :: r = us at *
        have m1 : 1 ≤ (us.map V.str).length := by rw [← hcns]; simp
        have m3 : (us.map V.str).length ≤ 3 := by rw [List.length_map]; exact hl3
        have hn : (lts us).length ≤ 100 := by
          rw [lts_len, ← hcns]
          exact wd_len (hw h0 (by rw [← hcns]; exact List.mem_cons_self ..))
        have hL : ∀ y, y ∈ lts us → isLet 4 ((us.map V.str).length : Nat) (.str y) = true := by rw [List.length_map]; exact lts_isL ev hw
        refine ⟨_, rfl, _, rfl, D0, _, rfl, .inl (SqL.of (sA _ _ hDl)), .ref t1, .int _, rfl, knd_int, wo_ok (m := (us.map V.str).length) (sB _ _ h5) m1 m3 hn hL (fun t3 H8 s8 ht3 h8 => ?_)⟩
        rw [List.length_map, back_eq ev] at h8
        have sC := sA.trans s8
        have sD := sB.trans s8
        refine ⟨_, rfl, D0, _, rfl, .inl ⟨SqL.of (sC _ _ hDl), fun l3 hl3' => ?_⟩⟩
        have h9 : upd H8 l3 (.tup (us.map V.str)) t3 = some (.tup (us.map V.str)) := (upd_ne (ne_of_none h8 hl3')).trans h8
        have sE := sC.trans (same_new (o := .tup (us.map V.str)) hl3')
        have sF := sD.trans (same_new (o := .tup (us.map V.str)) hl3')
        have hso : ∀ x, x ∈ us → PyData.strOk x = true := fun x hx => so_wd (hw x hx)
        refine ⟨.tuple (us.map PyData.str), .tuple (us.map PyData.str), .tup (SqT.of h9) (dp_strs _), .tup (SqT.of upd_same) (dp_strs _), sht_strs _ hso, sht_strs _ hso, _, rfl, ?_⟩
        generalize upd H8 l3 (.tup (us.map V.str)) = H9 at sE sF
        refine noB (by rw [eqvt_strs]; rfl) ?_
        refine ⟨_, rfl, Nat.zero_le _, fun l2 hl2 => ?_⟩
        have sG := sE.trans (same_new (o := .lst []) hl2)
        have sI := sF.trans (same_new (o := .lst []) hl2)
        have q2 : upd H9 l2 (.lst []) l2 = some (.lst []) := upd_same
        generalize upd H9 l2 (.lst []) = HA at sG sI q2
        refine ⟨.list (us.map PyData.str), .list [], .lst (SqL.of (sG _ _ hDl)) (dp_strs us), .lst (SqL.of q2) .nil, sh_strs us hso, rfl, _, rfl, ?_⟩
        refine yesB (by rw [same_nil, ← hcns]; rfl) ?_
        refine ⟨_, rfl, D0, _, rfl, .inl (SqL.of (sG _ _ hDl)), _, rfl, .ref t1, .int _, rfl, knd_int, wo_ok (m := (us.map V.str).length) (sI _ _ h5) m1 m3 hn hL (fun t4 HB sJ ht4 hB => ?_)⟩
        rw [List.length_map, back_eq ev] at hB
        have sK := sG.trans sJ
        refine ⟨_, rfl, D0, _, rfl, .inl ⟨SqL.of (sK _ _ hDl), fun l4 hl4 => ?_⟩⟩
        have hC : upd HB l4 (.tup (us.map V.str)) t4 = some (.tup (us.map V.str)) := (upd_ne (ne_of_none hB hl4)).trans hB
        have sL := sK.trans (same_new (o := .tup (us.map V.str)) hl4)
        refine ⟨.tuple (us.map PyData.str), .tuple (us.map PyData.str), .tup (SqT.of hC) (dp_strs _), .tup (SqT.of upd_same) (dp_strs _), sht_strs _ hso, sht_strs _ hso, _, rfl, ?_⟩
        generalize upd HB l4 (.tup (us.map V.str)) = HC at sL
        refine noB (by rw [eqvt_strs]; rfl) ?_
        refine ⟨Nat.zero_le _, fun u1 hu1 => ?_⟩
        have f1 := sL.trans (same_new (o := .tup []) hu1)
        refine ⟨.ref u1, .int 3, rfl, knd_int, wo_ok (us := []) (m := 3) upd_same (by decide) (by decide) (by decide) (fun _ h => nomatch h) (fun u2 G2 g2 hu2 h2 => ?_)⟩
        have f2 := f1.trans g2
        refine ⟨by show 3 ≤ sizeLine; decide, fun u3 hu3 => ?_⟩
        have f3 := f2.trans (same_new (o := .tup [.str "", .str "", .str ""]) hu3)
        have h2' : upd G2 u3 (.tup [.str "", .str "", .str ""]) u2 = some (.tup ((["", "", ""] : List Str).map V.str)) := (upd_ne (ne_of_none h2 hu3)).trans h2
        refine ⟨.tuple ((["", "", ""] : List Str).map PyData.str), .tuple ((["", "", ""] : List Str).map PyData.str), .tup (SqT.of h2') (dp_strs _), .tup (SqT.of upd_same) (dp_strs ["", "", ""]), by decide +kernel, by decide +kernel, _, rfl, ?_⟩
        refine yesB (eqvt_strs _) ?_
        generalize upd G2 u3 (.tup [.str "", .str "", .str ""]) = G3 at f3
        refine ⟨Nat.zero_le _, fun u4 hu4 => ?_⟩
        have f4 := f3.trans (same_new (o := .tup []) hu4)
        refine ⟨.ref u4, .int 1, rfl, knd_int, wo_ok (us := []) (m := 1) upd_same (by decide) (by decide) (by decide) (fun _ h => nomatch h) (fun u5 G5 g5 hu5 h5' => ?_)⟩
        have f5 := f4.trans g5
        refine ⟨by show 1 ≤ sizeLine; decide, fun u6 hu6 => ?_⟩
        have f6 := f5.trans (same_new (o := .tup [.str ""]) hu6)
        have h5'' : upd G5 u6 (.tup [.str ""]) u5 = some (.tup (([""] : List Str).map V.str)) := (upd_ne (ne_of_none h5' hu6)).trans h5'
        refine ⟨.tuple (([""] : List Str).map PyData.str), .tuple (([""] : List Str).map PyData.str), .tup (SqT.of h5'') (dp_strs _), .tup (SqT.of upd_same) (dp_strs [""]), by decide +kernel, by decide +kernel, ?_⟩
        rw [show (PyData.tuple (([""] : List Str).map PyData.str)).eqv (.tuple (([""] : List Str).map PyData.str)) = true from eqvt_strs _]
        exact k _ (kpA.trans (Kone.Keep.of f6)) ((penA.keep f6).mono (by omega))
end
end Kre
namespace Kre
open PySem L2 Gd
open Kone (Pen Keep spPen spDraw spPick TxtD same_new)
/-- a hundred and one noughts -/
def zer : Str := ⟨(List.replicate 101 ("0" : Str).cps).foldl (· ++ ·) #[]⟩
theorem op_rep0 {X : Cx} : OpR X (binaryOp .Mult) (fun x y H Q => x = .str "0" ∧ y = .int 101 ∧ Q (.str zer) H) := by
  intro pins s σ H x y v u Q I rx ry h
  obtain ⟨rfl, rfl, q⟩ := h
  obtain ⟨t, rfl⟩ := rx
  obtain ⟨t', rfl⟩ := ry
  refine P.mul_str (by decide) (fun _ _ => by decide) (fun _ _ => by decide) ?_
  rw [if_neg (by decide), if_neg (by decide)]
  exact ⟨by decide +kernel, ⟨.str zer, H, I.tok _, ⟨_, rfl⟩, q⟩⟩
/-! ### what stands still while lists grow and codes are kept -/
def KeepX (ex : List Addr) (H H' : Hp) : Prop := ∀ b o, b ∉ ex → (∀ ps, o ≠ .tbl ps) → H b = some o → H' b = some o
def core (ex : List Addr) (H : Hp) : Hp := fun b => if b ∈ ex then none else match H b with
  | some (.tbl _) => none
  | o => o
theorem core_at {ex : List Addr} {H : Hp} {b : Addr} {o : HO} (n : b ∉ ex) (t : ∀ ps, o ≠ .tbl ps) (e : H b = some o) : core ex H b = some o := by
  unfold core
  rw [if_neg n, e]
  cases o with
  | tbl ps => exact absurd rfl (t ps)
  | _ => rfl
theorem core_of {ex : List Addr} {H : Hp} {b : Addr} {o : HO} (e : core ex H b = some o) : b ∉ ex ∧ (∀ ps, o ≠ .tbl ps) ∧ H b = some o := by
  unfold core at e
  by_cases n : b ∈ ex
  · rw [if_pos n] at e
    cases e
  · rw [if_neg n] at e
    cases q : H b with
    | none => rw [q] at e; cases e
    | some u =>
      rw [q] at e
      cases u with
      | tbl ps => cases e
      | _ =>
        cases e
        exact ⟨n, fun ps z => (nomatch z), rfl⟩
theorem core_sub {ex : List Addr} {H : Hp} : Same (core ex H) H := fun b o e => (core_of e).2.2
theorem core_mono {ex : List Addr} {H H' : Hp} (k : KeepX ex H H') : Same (core ex H) (core ex H') := fun b o e => by
  obtain ⟨n, t, h⟩ := core_of e
  exact core_at n t (k b o n t h)
theorem KeepX.keep {p : Addr} {ex : List Addr} {H H' : Hp} (hp : p ∈ ex) (k : Keep p H H') : KeepX ex H H' := fun b o n _ e => k b o (fun z => n (by rw [z]; exact hp)) e
theorem KeepX.same {ex : List Addr} {H H' : Hp} (k : Same H H') : KeepX ex H H' := fun b o _ _ e => k b o e
theorem KeepX.ext {ex : List Addr} {H H' : Hp} (k : LamX.ExtN H H') : KeepX ex H H' := fun b o _ t e => k b o e t
theorem KeepX.put {ex : List Addr} {H : Hp} {a : Addr} {o : HO} (h : a ∈ ex) : KeepX ex H (upd H a o) := fun b u n _ e => by rw [upd_ne (fun z => n (by rw [z]; exact h))]; exact e
theorem KeepX.trans {ex : List Addr} {H H1 H2 : Hp} (a : KeepX ex H H1) (b : KeepX ex H1 H2) : KeepX ex H H2 := fun c o n t e => b c o n t (a c o n t e)
theorem Pen.ext {H H' : Hp} {p c : Addr} {n : Nat} (x : Pen H p c n) (s : LamX.ExtN H H') : Pen H' p c n := by
  obtain ⟨cs, a, g, h1, h2, h3, h4, h5⟩ := x
  exact ⟨cs, a, g, s _ _ h1 (fun _ z => nomatch z), s _ _ h2 (fun _ z => nomatch z), h3, h4, h5⟩
theorem Pen.put {H : Hp} {p c a : Addr} {n : Nat} {o : HO} (x : Pen H p c n) (h1 : a ≠ p) (h2 : a ≠ c) : Pen (upd H a o) p c n := by
  obtain ⟨cs, i, g, q1, q2, q3, q4, q5⟩ := x
  exact ⟨cs, i, g, by rw [upd_ne h1.symm]; exact q1, by rw [upd_ne h2.symm]; exact q2, q3, q4, q5⟩
/-! ### the drawn values -/
section
variable {K : PySem.W.Frag}
/-- shown, as a text that can be compared -/
def Shw (G : Hp) (v : V) (D : PyData) : Prop := (∀ H, Same G H → Sh H v D) ∧ PyData.strOk D.shown = true
/-- no word -/
def Odd (K : PySem.W.Frag) (G : Hp) (v : V) : Prop := (∀ H, Same G H → Vl K H v) ∧ isWd 4 v = false ∧ ∃ D, Shw G v D
/-- no width -/
def Bad (K : PySem.W.Frag) (G : Hp) (v : V) : Prop := (∀ H, Same G H → Knd K H v) ∧ btw v 1 3 = false ∧ ∃ D, Shw G v D
/-- no tuple of letters -/
def Wro (K : PySem.W.Frag) (G : Hp) (v : V) : Prop := (∀ H, Same G H → KndT K H v) ∨ ∃ (a : Addr) (xs : List V), v = .ref a ∧ G a = some (.tup xs) ∧ xs.length = 101
/-- no letter of width 2 -/
def Lod (K : PySem.W.Frag) (G : Hp) (v : V) : Prop := (∀ H, Same G H → Vl K H v) ∧ isLet 4 2 v = false ∧ ∃ D, Shw G v D
theorem Shw.mono {G G' : Hp} {v : V} {D : PyData} (h : Shw G v D) (s : Same G G') : Shw G' v D := ⟨fun H k => h.1 H (s.trans k), h.2⟩
theorem Odd.mono {G G' : Hp} {v : V} (h : Odd K G v) (s : Same G G') : Odd K G' v := ⟨fun H k => h.1 H (s.trans k), h.2.1, let ⟨D, d⟩ := h.2.2; ⟨D, d.mono s⟩⟩
theorem Bad.mono {G G' : Hp} {v : V} (h : Bad K G v) (s : Same G G') : Bad K G' v := ⟨fun H k => h.1 H (s.trans k), h.2.1, let ⟨D, d⟩ := h.2.2; ⟨D, d.mono s⟩⟩
theorem Lod.mono {G G' : Hp} {v : V} (h : Lod K G v) (s : Same G G') : Lod K G' v := ⟨fun H k => h.1 H (s.trans k), h.2.1, let ⟨D, d⟩ := h.2.2; ⟨D, d.mono s⟩⟩
theorem Wro.mono {G G' : Hp} {v : V} (h : Wro K G v) (s : Same G G') : Wro K G' v := by
  rcases h with h | ⟨a, xs, e, h, l⟩
  · exact .inl fun H k => h H (s.trans k)
  · exact .inr ⟨a, xs, e, s _ _ h, l⟩
theorem shw_plain {G : Hp} {v : V} {D : PyData} (hd : ∀ H, Dq H 2 false v D) (h : D.showable = true ∧ D.shown.length ≤ sizeLine ∧ D.depth ≤ 60 ∧ nice D = true) (o : PyData.strOk D.shown = true) : Shw G v D := ⟨fun H _ => ⟨hd H, h⟩, o⟩
end
end Kre
namespace Gd
open PySem PySem.Spec PyProof.Rows L2
section
variable {P : Program} {w : World} {K : PySem.W.Frag} {mg : Str → Option Value} {base : Heap} {CX : CXT}
/-- as fnG_of, the code's place known -/
theorem fnG_at {x qual : Str} {st : Stmt} {f : Addr} {N ps : List Str} {k : Nat} {sp : Sp} {oc : Value} {od an : Option Addr} {osl : Array (Option Value)} {kV doc pm cdv ct : Value}
    (lk : K.lookup f = some ⟨oc, od, .func (PySem.W.fnOf x qual (defArgs st) (defBody st) (defScope st) .none kV doc pm an cdv ct), osl⟩) (hcd : PySem.W.codeIn K cdv qual = true) (S : FnScope N ps (defScope st))
    (len : ∀ vs H Q E, sp vs H Q E → vs.length = ps.length)
    (body : ∀ (A : Around) (outer : List Env) (s : Shared) (H : Hp) (vs : List V) (Q : VK) (E : XK), A.guards = some [] → Room k (A.deeper (envOfC qual (defScope st) s.heap.objs.size f cdv)) → sp vs H Q E →
      ∃ t, PSs (cxOf CX P w K mg base N qual (defScope st) f cdv A outer s H E).nox (defBody st) t ∧ t { nx := fun _ H' => Q .non H', rt := Q } (start N vs) H) : FnG P w K mg base CX (k + 1) f (PySem.W.fnOf x qual (defArgs st) (defBody st) (defScope st) .none kV doc pm an cdv ct) ps sp := by
  constructor
  · exact len
  · intro A outer s H args us vs Q E hG hr e0 hb r hsp
    obtain ⟨t, ht0, hq⟩ := body A outer s H vs Q E hG (hr.deeper _) hsp
    have ht := ht0.nox
    have KX : K.In s.heap := e0.mod.kin.keeps fun b o e => (e0.bs b o e).1
    have places : ∀ y ∈ ps.zip us, (defScope st).names.lookup y.1 = some .local ∨ ((defScope st).names.lookup y.1 = some .cell ∧ ((cellsFrom (s.heap.objs.size + 1) (defScope st).names []).lookup y.1).isSome = true) := by
      rintro ⟨n, v⟩ hy
      cases S.par n (List.of_mem_zip hy).1 with
      | inl q => exact .inl q
      | inr q => exact .inr ⟨q, PySem.W.cellsFrom_some _ _ _ (.inl q)⟩
    apply codeAny_call_function hr.depth (KX _ _ lk) rfl S.co S.gen rfl (PySem.W.codeRec_of KX hcd)
    apply hb
    apply wpAny_newFunctionEnv_cells S.kind places
    intro env he s1 x
    subst he
    refine ⟨(e0.mod.nolimit.keeps fun b o e => (e0.bs b o e).1).keeps x.toInCall.keep, codeAny_func ?_⟩
    have I := inv_start (CX := CX) (E := E) S hr.hd e0 (len _ _ _ _ hsp) r x
    apply wpAny_mono (ht.run [] s1 (start N vs) H _ I hq)
    · intro fl s' hs
      cases fl with
      | ret u =>
        obtain ⟨v, σ', H', J, rv, q⟩ := hs
        exact ⟨v, H', J.os, J.bare, J.base, J.hok, rv, q⟩
      | next =>
        obtain ⟨σ', H', J, q⟩ := hs
        exact ⟨.non, H', J.os, J.bare, J.base, J.hok, rfl, q⟩
      | brk => exact (hs.choose_spec.choose_spec.2 : False).elim
      | cont => exact (hs.choose_spec.choose_spec.2 : False).elim
    · intro e s' hs
      exact hs
end
/-! ### a call of a def that wants no repr under way -/
section
variable {X : Cx} {CX : CXT} {k : Nat} {f : Addr} {fd : FuncData} {ps : List Str} {sp : Sp} {E : XK} {x : Str} {p pos : Pos} {e : Expr} {es : List Expr} {t : TA}
theorem run_G {pins : List (Addr × Obj)} {σ : L2.St} {H : Hp} {s : Shared} {Q : VK} {us : List Value} {vs : List V} (F : FnG X.prog X.w X.K X.mg X.base CX k f fd ps sp) (hG : X.A.guards = some []) (hr : Room k X.A) (hb : Binds X.K fd ps []) (hx : Passes CX X E)
    (I : Inv X pins σ H s) (r : Vals vs us) (h : sp vs H Q E) : wpAny (model X.prog X.w) X.A (call (.ref f) us) (EP X pins σ Q) X.xe s := by
  have hl : us.length = ps.length := by rw [← r.length]; exact F.len _ _ _ _ h
  have b := hb s us I.kIn (by rw [List.append_nil]; exact hl)
  rw [List.append_nil] at b
  apply wpAny_call
  apply codeAny_mono (F.run X.A X.stack s H ⟨us, []⟩ us vs Q E hG hr I.env0 b r h)
  intro r s' hq
  match r, hq with
  | .error e, hq => exact hx pins σ H s e s' I hq
  | .ok (.ret u), hq => exact I.after hq
  | .ok .next, hq => exact False.elim hq
  | .ok .brk, hq => exact False.elim hq
  | .ok .cont, hq => exact False.elim hq
theorem pe_callG (F : FnG X.prog X.w X.K X.mg X.base CX k f fd ps sp) (hG : X.A.guards = some []) (hr : Room k X.A) (hg : Gl X x) (hm : X.mg x = some (.ref f)) (hk : PySem.W.keepIn X.K (.ref f) = true) (hb : Binds X.K fd ps []) (hx : Passes CX X E)
    (ha : PA X (e :: es) t) (hdb : (x == ("__debug__" : Str)) = false := by decide) (he : starEach (e :: es) X.env = (false, eval e X.env) :: starEach es X.env := by rfl) (hpl : (backTo pos (starEach es X.env)).any (·.1) = false := by rfl) :
    PE X (.Call (.Name x p) (e :: es) [] pos) (fun σ H Q => t σ H fun vs H1 => sp vs H1 Q E) := by
  constructor
  intro pins s σ H Q I h
  apply wpAny_Call_Name_kw
  apply ld_glob I hg hm ?_ hdb
  refine PySem.W.callWith_K (h₀ := X.base) I.ok.mod.kin hk (thn (ha.run pos pins s σ H _ I h) ?_) he hpl
  intro us s1 ⟨vs, H1, I1, r, q⟩
  exact ⟨I1.kIn, run_G F hG hr hb hx I1 r q⟩
end
end Gd
namespace Kre
open PySem L2 Gd
open Kone (Pen Keep same_new)
abbrev TL (Pt : Addr) : List (Addr × Str) := [(Pt, "_law_refused_right.<locals>.<lambda>")]
/-! ### tables of codes while lists are written -/
theorem Tabs.put {T : List (Addr × Str)} {H : Hp} {a : Addr} {xs : List V} {o : HO} (h : LamX.Tabs T H) (ha : H a = some (.lst xs)) : LamX.Tabs T (upd H a o) := by
  intro p hp
  obtain ⟨ps, h1, h2, h3⟩ := h p hp
  refine ⟨ps, ?_, h2, fun pos cv e => ?_⟩
  · rw [upd_ne (ne_of h1 ha (fun z => nomatch z))]
    exact h1
  · obtain ⟨c, e1, e2⟩ := h3 pos cv e
    refine ⟨c, e1, ?_⟩
    rw [upd_ne (ne_of e2 ha (fun z => by unfold LamX.CodeO at z; cases z))]
    exact e2
theorem Tabs.keep {T : List (Addr × Str)} {H H' : Hp} {a : Addr} {xs : List V} (h : LamX.Tabs T H) (ha : H a = some (.lst xs)) (k : Keep a H H') : LamX.Tabs T H' := by
  intro p hp
  obtain ⟨ps, h1, h2, h3⟩ := h p hp
  refine ⟨ps, k _ _ (ne_of h1 ha (fun z => nomatch z)) h1, h2, fun pos cv e => ?_⟩
  obtain ⟨c, e1, e2⟩ := h3 pos cv e
  exact ⟨c, e1, k _ _ (ne_of e2 ha (fun z => by unfold LamX.CodeO at z; cases z)) e2⟩
theorem Tabs.same {T : List (Addr × Str)} {H H' : Hp} (h : LamX.Tabs T H) (s : Same H H') : LamX.Tabs T H' := h.ext s
/-! ### the state of what is heard -/
structure Stt (p cc hl Pt : Addr) (n : Nat) (ts : List Addr) (H : Hp) : Prop where
  pen : Pen H p cc n
  tab : LamX.Tabs (TL Pt) H
  lst : H hl = some (.lst (ts.map V.ref))
  np : hl ≠ p
  nc : hl ≠ cc
section
variable {p cc hl Pt : Addr} {n : Nat} {ts : List Addr} {H H2 Hn : Hp}
theorem Stt.same (S : Stt p cc hl Pt n ts H) (s : Same H Hn) : Stt p cc hl Pt n ts Hn := ⟨S.pen.keep s, S.tab.ext s, s _ _ S.lst, S.np, S.nc⟩
theorem Stt.pick {m : Nat} (S : Stt p cc hl Pt n ts H) (k : Keep p H Hn) (pen : Pen Hn p cc m) : Stt p cc hl Pt m ts Hn := by
  obtain ⟨_, _, _, e, _⟩ := S.pen
  exact ⟨pen, Tabs.keep S.tab e k, k _ _ S.np S.lst, S.np, S.nc⟩
theorem Stt.app {t : Addr} {out : List V} (S : Stt p cc hl Pt n ts H) (e : LamX.ExtN H H2) (T2 : LamX.Tabs (TL Pt) H2) (s : Same H2 Hn) (ht : Hn t = some (.tup out)) :
    Hn hl = some (.lst (ts.map V.ref)) ∧ Stt p cc hl Pt n (ts ++ [t]) (upd Hn hl (.lst (ts.map V.ref ++ [.ref t]))) ∧ Same (core [p, hl] H) (core [p, hl] (upd Hn hl (.lst (ts.map V.ref ++ [.ref t])))) ∧ core [p, hl] (upd Hn hl (.lst (ts.map V.ref ++ [.ref t]))) t = some (.tup out) := by
  have hL := s _ _ (e _ _ S.lst (fun _ z => nomatch z))
  have pen := (Pen.ext S.pen e).keep s
  have tp : t ≠ p := by
    obtain ⟨_, _, _, q, _⟩ := pen
    exact ne_of ht q (fun z => nomatch z)
  have th : t ≠ hl := ne_of ht hL (fun z => nomatch z)
  refine ⟨hL, ⟨Pen.put pen S.np S.nc, Tabs.put (T2.ext s) hL, by rw [upd_same, List.map_append]; rfl, S.np, S.nc⟩, ?_, ?_⟩
  · exact core_mono (((KeepX.ext e).trans (KeepX.same s)).trans (KeepX.put (by simp)))
  · exact core_at (by simp [tp, th]) (fun _ z => nomatch z) ((upd_ne th).trans ht)
end
/-! ### what is heard of an error -/
section
variable {K : PySem.W.Frag} {S CL CD CW CM CU : Addr} {Q : VK} {H0 : Hp}
/-- the classes are below SumError -/
structure Hx (K : PySem.W.Frag) (S CL CD CW CM CU : Addr) : Prop where
  l : PySem.W.exmOne K (.ref CL) (.ref S) = some true
  d : PySem.W.exmOne K (.ref CD) (.ref S) = some true
  w : PySem.W.exmOne K (.ref CW) (.ref S) = some true
  m : PySem.W.exmOne K (.ref CM) (.ref S) = some true
  u : PySem.W.exmOne K (.ref CU) (.ref S) = some true
theorem rf_hears {C : Addr} {fs : List (Str × V)} {out : List V} (Ds : List PyData) (hp : Paired (fun (p : Str × V) D => Dq H0 2 false p.2 D) fs Ds) (hk : ∀ H' fs', Cpd H' fs Ds fs' → Kinds CL CD CW CM CU C fs' H' out) (hx : PySem.W.exmOne K (.ref C) (.ref S) = some true)
    (k : ∀ (t : Addr) (H1 : Hp), Same H0 H1 → H0 t = none → H1 t = some (.tup out) → Q (.ref t) H1) : Rf C fs H0 (Hears K S CL CD CW CM CU Q) := ⟨Ds, hp, fun d H' fs' s hd e c =>
  ⟨C, d, fs', out, rfl, rfl, e, hk H' fs' c, hx, fun t H1 s1 ht e1 => k t H1 (s.trans s1) (s.free ht) e1⟩⟩
theorem cpd1 {H' : Hp} {f : Str} {v : V} {D : PyData} {fs' : List (Str × V)} (c : Cpd H' [(f, v)] [D] fs') : ∃ v', fs' = [(f, v')] ∧ Dq H' 2 false v' D := by
  obtain ⟨e, p⟩ := c
  cases p with
  | cons q t =>
    cases t
    rename_i x
    obtain ⟨x1, x2⟩ := x
    simp only [List.map_cons, List.map_nil, List.cons.injEq, and_true] at e
    subst e
    exact ⟨x2, rfl, q⟩
theorem cpd2 {H' : Hp} {f g : Str} {v u : V} {D E : PyData} {fs' : List (Str × V)} (c : Cpd H' [(f, v), (g, u)] [D, E] fs') : ∃ v' u', fs' = [(f, v'), (g, u')] ∧ Dq H' 2 false v' D ∧ Dq H' 2 false u' E := by
  obtain ⟨e, p⟩ := c
  cases p with
  | cons q t =>
    cases t with
    | cons q2 t =>
      cases t
      rename_i x y
      obtain ⟨x1, x2⟩ := x
      obtain ⟨y1, y2⟩ := y
      simp only [List.map_cons, List.map_nil, List.cons.injEq, and_true] at e
      obtain ⟨e1, e2⟩ := e
      subst e1 e2
      exact ⟨x2, y2, rfl, q, q2⟩
variable {G : Hp} {v : V} {D : PyData}
theorem h_word (X : Hx K S CL CD CW CM CU) (h : Shw G v D) (s : Same G H0) (k : ∀ (t : Addr) (H1 : Hp), Same H0 H1 → H0 t = none → H1 t = some (.tup [.str "word", .str D.shown]) → Q (.ref t) H1) : Rf CW [("value", v)] H0 (Hears K S CL CD CW CM CU Q) :=
  rf_hears [D] (.cons (h.1 H0 s).1 .nil) (fun H' fs' c => let ⟨v', e, q⟩ := cpd1 c; .inr (.inr (.inl ⟨rfl, v', D, e, ⟨q, (h.1 H0 s).2⟩, rfl⟩))) X.w k
theorem h_width (X : Hx K S CL CD CW CM CU) (h : Shw G v D) (s : Same G H0) (k : ∀ (t : Addr) (H1 : Hp), Same H0 H1 → H0 t = none → H1 t = some (.tup [.str "width", .str D.shown]) → Q (.ref t) H1) : Rf CD [("value", v)] H0 (Hears K S CL CD CW CM CU Q) :=
  rf_hears [D] (.cons (h.1 H0 s).1 .nil) (fun H' fs' c => let ⟨v', e, q⟩ := cpd1 c; .inr (.inl ⟨rfl, v', D, e, ⟨q, (h.1 H0 s).2⟩, rfl⟩)) X.d k
theorem h_letter (X : Hx K S CL CD CW CM CU) (h : Shw G v D) (s : Same G H0) (k : ∀ (t : Addr) (H1 : Hp), Same H0 H1 → H0 t = none → H1 t = some (.tup [.str "letter", .str D.shown]) → Q (.ref t) H1) : Rf CL [("value", v)] H0 (Hears K S CL CD CW CM CU Q) :=
  rf_hears [D] (.cons (h.1 H0 s).1 .nil) (fun H' fs' c => let ⟨v', e, q⟩ := cpd1 c; .inl ⟨rfl, v', D, e, ⟨q, (h.1 H0 s).2⟩, rfl⟩) X.l k
theorem sh_of {H : Hp} {v : V} {D : PyData} (q : Dq H 2 false v D) (h : D.showable = true ∧ D.shown.length ≤ sizeLine ∧ D.depth ≤ 60 ∧ nice D = true) : Sh H v D := ⟨q, h⟩
theorem h_many (X : Hx K S CL CD CW CM CU) (k : ∀ (t : Addr) (H1 : Hp), Same H0 H1 → H0 t = none → H1 t = some (.tup [.str "many", .str "'words'", .str "3"]) → Q (.ref t) H1) : Rf CM [("most", .int 3), ("what", .str "words")] H0 (Hears K S CL CD CW CM CU Q) :=
  rf_hears [.int 3, .str "words"] (.cons (Dq.sc (show Sc (V.int 3) (PyData.int 3) from rfl)) (.cons (Dq.sc (show Sc (V.str "words") (PyData.str "words") from rfl)) .nil)) (fun H' fs' c => let ⟨v', u', e, q, r⟩ := cpd2 c; .inr (.inr (.inr (.inl ⟨rfl, u', .str "words", v', .int 3, e, sh_of r (by decide +kernel), sh_of q (by decide +kernel), by decide +kernel⟩)))) X.m k
theorem h_unlike (X : Hx K S CL CD CW CM CU) (k : ∀ (t : Addr) (H1 : Hp), Same H0 H1 → H0 t = none → H1 t = some (.tup [.str "unlike", .str "'length'"]) → Q (.ref t) H1) : Rf CU [("part", .str "length")] H0 (Hears K S CL CD CW CM CU Q) :=
  rf_hears [.str "length"] (.cons (Dq.sc (show Sc (V.str "length") (PyData.str "length") from rfl)) .nil) (fun H' fs' c => let ⟨v', e, q⟩ := cpd1 c; .inr (.inr (.inr (.inr ⟨rfl, v', .str "length", e, sh_of q (by decide +kernel), by decide +kernel⟩)))) X.u k
/-- reading refuses xs by the first one that is no word -/
theorem rd_word {Z : VK} {E : XK} {xs : List V} {v : V} (f : xs.find? bad4 = some v) (h : Rf CW [("value", v)] H0 E) : RdO CW CU CM xs H0 Z E := by
  unfold RdO CkW
  rw [f]
  exact h
theorem rd_unlike {Z : VK} {E : XK} {ws : List Str} (hw : ∀ x, x ∈ ws → isWd 4 (.str x) = true) (ev : even ws = false) (h : Rf CU [("part", .str "length")] H0 E) : RdO CW CU CM (ws.map V.str) H0 Z E := by
  unfold RdO CkW
  rw [no_bad hw]
  intro us e
  have := map_inj e
  subst this
  rw [ev, if_neg Bool.false_ne_true]
  exact h
theorem rd_many {Z : VK} {E : XK} {ws : List Str} (hw : ∀ x, x ∈ ws → isWd 4 (.str x) = true) (ev : even ws = true) (hl : 3 < ws.length) (h : Rf CM [("most", .int 3), ("what", .str "words")] H0 E) : RdO CW CU CM (ws.map V.str) H0 Z E := by
  unfold RdO CkW
  rw [no_bad hw]
  intro us e
  have := map_inj e
  subst this
  rw [ev, if_pos rfl]
  intro H' s
  rw [if_pos (by rw [List.length_map]; exact hl)]
  exact h.mono s
end
/-! ### the menus -/
section
variable {K : PySem.W.Frag} {G : Hp}
def Fine (D : PyData) : Prop := (D.showable = true ∧ D.shown.length ≤ sizeLine ∧ D.depth ≤ 60 ∧ nice D = true) ∧ PyData.strOk D.shown = true
theorem shw_sc {v : V} {D : PyData} (sc : Sc v D) (h : Fine D) : Shw G v D := ⟨fun H _ => ⟨.inl sc, h.1⟩, h.2⟩
theorem shw_lst {a : Addr} {xs : List V} {ds : List PyData} (e : G a = some (.lst xs)) (na : a ≠ sysModules) (pr : ∀ H, Paired (Dq H 1 false) xs ds) (h : Fine (.list ds)) (hl : xs.length ≤ 100 := by decide) : Shw G (.ref a) (.list ds) :=
  ⟨fun H s => ⟨.inr (.inl ⟨rfl, a, xs, ds, rfl, rfl, s _ _ e, pr H, hl⟩), h.1⟩, h.2⟩
theorem shw_tup {a : Addr} {xs : List V} {ds : List PyData} (e : G a = some (.tup xs)) (pr : ∀ H, Paired (Dq H 1 false) xs ds) (h : Fine (.tuple ds)) (hl : xs.length ≤ 100 := by decide) : Shw G (.ref a) (.tuple ds) :=
  ⟨fun H s => ⟨.inr (.inr (.inl ⟨a, xs, ds, rfl, rfl, s _ _ e, pr H, hl⟩)), h.1⟩, h.2⟩
theorem dq_sc {H : Hp} {v : V} {d : PyData} (h : Sc v d) : Dq H 1 false v d := .inl h
theorem vl_non {H : Hp} : Vl K H .non := ⟨knd_non, fun _ e => nomatch e⟩
theorem vl_int {H : Hp} {i : Int} : Vl K H (.int i) := ⟨knd_int, fun _ e => nomatch e⟩
theorem vl_bl {H : Hp} {b : Bool} : Vl K H (.bl b) := ⟨knd_bl, fun _ e => nomatch e⟩
theorem vl_lst {H : Hp} {a : Addr} {xs : List V} (e : H a = some (.lst xs)) : Vl K H (.ref a) := ⟨knd_lst e, fun _ e => nomatch e⟩
theorem vl_tup {H : Hp} {a : Addr} {xs : List V} (e : H a = some (.tup xs)) : Vl K H (.ref a) := ⟨knd_tup e, fun _ e => nomatch e⟩
/-- the odd words -/
theorem odd_menu {l t : Addr} (el : G l = some (.lst [.str "0"])) (nl : l ≠ sysModules) (et : G t = some (.tup [.str "0"])) {x : V} (h : x ∈ [V.non, .int 0, .str "4", .str "0 ", .str "a", .ref l, .ref t, .bl true, .str zer]) : Odd K G x := by
  simp only [List.mem_cons, List.not_mem_nil, or_false] at h
  rcases h with rfl | rfl | rfl | rfl | rfl | rfl | rfl | rfl | rfl
  · exact ⟨fun _ _ => vl_non, rfl, .none, shw_sc True.intro (by unfold Fine; decide +kernel)⟩
  · exact ⟨fun _ _ => vl_int, rfl, .int 0, shw_sc rfl (by unfold Fine; decide +kernel)⟩
  · exact ⟨fun _ _ => vl_str (by decide), by decide +kernel, .str "4", shw_sc rfl (by unfold Fine; decide +kernel)⟩
  · exact ⟨fun _ _ => vl_str (by decide), by decide +kernel, .str "0 ", shw_sc rfl (by unfold Fine; decide +kernel)⟩
  · exact ⟨fun _ _ => vl_str (by decide), by decide +kernel, .str "a", shw_sc rfl (by unfold Fine; decide +kernel)⟩
  · exact ⟨fun H s => vl_lst (s _ _ el), rfl, .list [.str "0"], shw_lst el nl (fun H => .cons (dq_sc rfl) .nil) (by unfold Fine; decide +kernel)⟩
  · exact ⟨fun H s => vl_tup (s _ _ et), rfl, .tuple [.str "0"], shw_tup et (fun H => .cons (dq_sc rfl) .nil) (by unfold Fine; decide +kernel)⟩
  · exact ⟨fun _ _ => vl_bl, rfl, .bool true, shw_sc rfl (by unfold Fine; decide +kernel)⟩
  · exact ⟨fun _ _ => vl_str (by decide +kernel), by decide +kernel, .str zer, shw_sc rfl (by unfold Fine; decide +kernel)⟩
theorem bad_menu {t : Addr} (et : G t = some (.tup [.int 1])) {x : V} (h : x ∈ [V.non, .int 0, .int 4, .bl true, .str "1", .ref t]) : Bad K G x := by
  simp only [List.mem_cons, List.not_mem_nil, or_false] at h
  rcases h with rfl | rfl | rfl | rfl | rfl | rfl
  · exact ⟨fun _ _ => knd_non, rfl, .none, shw_sc True.intro (by unfold Fine; decide +kernel)⟩
  · exact ⟨fun _ _ => knd_int, by decide, .int 0, shw_sc rfl (by unfold Fine; decide +kernel)⟩
  · exact ⟨fun _ _ => knd_int, by decide, .int 4, shw_sc rfl (by unfold Fine; decide +kernel)⟩
  · exact ⟨fun _ _ => knd_bl, rfl, .bool true, shw_sc rfl (by unfold Fine; decide +kernel)⟩
  · exact ⟨fun _ _ => knd_str, rfl, .str "1", shw_sc rfl (by unfold Fine; decide +kernel)⟩
  · exact ⟨fun H s => knd_tup (s _ _ et), rfl, .tuple [.int 1], shw_tup et (fun H => .cons (dq_sc rfl) .nil) (by unfold Fine; decide +kernel)⟩
theorem lod_menu {t : Addr} (et : G t = some (.tup [.str "0", .str "0"])) {x : V} (h : x ∈ [V.non, .str "0", .str "000", .str "04", .str "", .int 0, .ref t, .str "a0"]) : Lod K G x := by
  simp only [List.mem_cons, List.not_mem_nil, or_false] at h
  rcases h with rfl | rfl | rfl | rfl | rfl | rfl | rfl | rfl
  · exact ⟨fun _ _ => vl_non, rfl, .none, shw_sc True.intro (by unfold Fine; decide +kernel)⟩
  · exact ⟨fun _ _ => vl_str (by decide), by decide +kernel, .str "0", shw_sc rfl (by unfold Fine; decide +kernel)⟩
  · exact ⟨fun _ _ => vl_str (by decide), by decide +kernel, .str "000", shw_sc rfl (by unfold Fine; decide +kernel)⟩
  · exact ⟨fun _ _ => vl_str (by decide), by decide +kernel, .str "04", shw_sc rfl (by unfold Fine; decide +kernel)⟩
  · exact ⟨fun _ _ => vl_str (by decide), by decide +kernel, .str "", shw_sc rfl (by unfold Fine; decide +kernel)⟩
  · exact ⟨fun _ _ => vl_int, rfl, .int 0, shw_sc rfl (by unfold Fine; decide +kernel)⟩
  · exact ⟨fun H s => vl_tup (s _ _ et), rfl, .tuple [.str "0", .str "0"], shw_tup et (fun H => .cons (dq_sc rfl) (.cons (dq_sc rfl) .nil)) (by unfold Fine; decide +kernel)⟩
  · exact ⟨fun _ _ => vl_str (by decide), by decide +kernel, .str "a0", shw_sc rfl (by unfold Fine; decide +kernel)⟩
theorem wro_menu {l d t : Addr} (el : G l = some (.lst [.str "00"])) (ed : G d = some (.dK [])) (et : G t = some (.tup (List.replicate 101 [V.str "00"]).flatten)) {x : V} (h : x ∈ [V.non, .str "00", .ref l, .ref d, .int 0, .ref t]) : Wro K G x := by
  simp only [List.mem_cons, List.not_mem_nil, or_false] at h
  rcases h with rfl | rfl | rfl | rfl | rfl | rfl
  · exact .inl fun _ _ => ⟨"NoneType", .base .non, by decide +kernel⟩
  · exact .inl fun _ _ => ⟨"str", .base (.str _), by decide +kernel⟩
  · exact .inl fun H s => ⟨"list", .base (.lst (s _ _ el)), by decide +kernel⟩
  · exact .inl fun H s => ⟨"dict", .base (.dK (s _ _ ed)), by decide +kernel⟩
  · exact .inl fun _ _ => ⟨"int", .base (.int _), by decide +kernel⟩
  · exact .inr ⟨t, _, rfl, et, by decide +kernel⟩
end
end Kre
namespace Kre
open PySem L2 Gd
open Kone (Pen Keep same_new)
section
variable {K : PySem.W.Frag} {CD CL : Addr} {H : Hp} {Q : VK} {E : XK} {G : Hp}
theorem wo_width {v u : V} (b : btw u 1 3 = false) (h : Rf CD [("value", u)] H E) : WoO K CD CL v u H Q E := by
  unfold WoO
  rw [b, if_neg Bool.false_ne_true]
  exact h
theorem wo_none {v : V} (wr : Wro K G v) (s : Same G H) (h : Rf CL [("value", .non)] H E) : WoO K CD CL v (.int 2) H Q E := by
  unfold WoO
  rw [if_pos (by decide)]
  intro wd e
  rcases wr with wr | ⟨a, xs, rfl, ha, hl⟩
  · exact .inl ⟨wr H s, h⟩
  · refine .inr ⟨a, xs, rfl, s _ _ ha, by omega, ?_⟩
    rw [if_pos (by omega)]
    exact h
theorem wo_letter {v : V} {a : Addr} (ha : H a = some (.tup [.str "00", .str "13", v, .non])) (hv : ∀ H', Same H H' → Vl K H' v) (b : isLet 4 2 v = false) (h : Rf CL [("value", v)] H E) : WoO K CD CL (.ref a) (.int 2) H Q E := by
  unfold WoO
  rw [if_pos (by decide)]
  intro wd e
  cases e
  refine .inr ⟨a, _, rfl, ha, by show 4 ≤ 1000; decide, ?_⟩
  rw [if_neg (by show ¬ 100 < 4; decide)]
  refine ⟨fun y hy H' s => ?_, ?_⟩
  · simp only [List.mem_cons, List.not_mem_nil, or_false] at hy
    rcases hy with rfl | rfl | rfl | rfl
    · exact vl_str (by decide)
    · exact vl_str (by decide)
    · exact hv H' s
    · exact vl_non
  · have f : [V.str "00", .str "13", v, .non].find? (badL 2) = some v := by
      have b1 : badL 2 (.str "00") = false := by decide +kernel
      have b2 : badL 2 (.str "13") = false := by decide +kernel
      have b3 : badL 2 v = true := by unfold badL; rw [b]; rfl
      simp only [List.find?, b1, b2, b3]
    rw [f]
    exact h
theorem core_grow {p hl : Addr} {H4 H7 : Hp} {o : HO} (k : KeepX [p] H4 H7) (n : H7 hl = none) : Same (core [p] H4) (core [p, hl] (upd H7 hl o)) := fun b u e => by
  obtain ⟨n1, t, h⟩ := core_of e
  have h7 := k b u n1 t h
  have nb := ne_of_none h7 n
  exact core_at (by simp at n1; simp [n1, nb]) t ((upd_ne nb).trans h7)
/-! ### what is compared at the end -/
def tupD (it : List Str) : PyData := .tuple (it.map PyData.str)
theorem dp_tups {Hn : Hp} : ∀ {ts : List Addr} {its : List (List Str)}, Paired (fun t (it : List Str) => Hn t = some (.tup (it.map V.str))) ts its → DpAll K Hn (ts.map V.ref) (its.map tupD)
  | _, _, .nil => .nil
  | _, _, .cons h r => .cons (.tup (SqT.of h) (dp_strs _)) (dp_tups r)
theorem eqv_tups : ∀ its : List (List Str), PyData.eqvAll (its.map tupD) (its.map tupD) = true
  | [] => rfl
  | it :: r => by
    show ((tupD it).eqv (tupD it) && PyData.eqvAll _ _) = true
    rw [show (tupD it).eqv (tupD it) = true from eqvt_strs it, eqv_tups r]
    rfl
theorem lay_tups : ∀ its : List (List Str), (∀ it, it ∈ its → ∀ x, x ∈ it → PyData.strOk x = true) → PyData.canLayAll0 (its.map tupD) = true
  | [], _ => rfl
  | it :: r, h => by
    have h1 := lay_strs it (h it (List.mem_cons_self ..))
    have h2 := lay_tups r fun y hy => h y (List.mem_cons_of_mem _ hy)
    simp [tupD, PyData.canLayAll0, PyData.canLay0] at h1 h2 ⊢
    exact ⟨h1, h2⟩
theorem dep_tups : ∀ its : List (List Str), PyData.depthAll (its.map tupD) ≤ 1
  | [] => Nat.zero_le _
  | it :: r => by
    have h2 := dep_tups r
    have h1 := dep_strs it
    simp [tupD, PyData.depthAll, PyData.depth] at h1 h2 ⊢
    omega
theorem sh_tups (its : List (List Str)) (h : ∀ it, it ∈ its → ∀ x, x ∈ it → PyData.strOk x = true) : SeqAt.shaped (.list (its.map tupD)) = true := by
  have h1 := lay_tups its h
  have h2 := dep_tups its
  simp [SeqAt.shaped, PyData.canLay0, PyData.depth, h1]
  omega
end
end Kre
namespace Kre
open PySem L2 Gd
open Kone (Pen Keep spPen spDraw spPick TxtD same_new)
theorem gset {i : Nat} {x : V} {σ σ2 : L2.St} {H : Hp} {K : L2.St → Hp → Prop} (e : σ.set i (some x) = σ2) (h : K σ2 H) : gName i x σ H K := by
  show K (σ.set i (some x)) H
  rw [e]
  exact h
abbrev NRf : List Str := ["_law_pen_here", "_law_heard_here", "_law_due", "_law_bad", "_law_letter", "_law_odd", "_law_wrong"]
theorem scRef : FnScope NRf ["_law_pen_here"] (defScope sRef) := ⟨rfl, rfl, rfl, by decide +kernel, rfl, by decide +kernel, by decide +kernel⟩
def spRef (Pt : Addr) : Sp := fun vs H Q _ => ∃ (p cc : Addr) (n : Nat), vs = [.ref p] ∧ Pen H p cc n ∧ n + 10 ≤ 100000 ∧ LamX.Tabs (TL Pt) H ∧ ∀ H', KeepX [p] H H' → LamX.Tabs (TL Pt) H' → Pen H' p cc (n + 10) → Q (.bl true) H'
section
variable {P : Program} {w : World} {K : PySem.W.Frag} {mg : Str → Option Value} {base : Heap} {S CB CD CW CL CU CM fI fB fH fKB fIW fIL fCW fSS fWO fR fD fP fDn fRe fTo : Addr} {dI dB dH dKB dIW dIL dCW dSS dWO dD dP dDn dRe dTo : FuncData}
theorem ok_ref (D : Lw P w K mg base S CB CD CW CL CU CM fI fB fH fKB fIW fIL fCW fSS fWO fR fD fP fDn fRe fTo dI dB dH dKB dIW dIL dCW dSS dWO dD dP dDn dRe dTo) (TH : Her K mg S CL CD CW CM CU) (HX : Hx K S CL CD CW CM CU)
    {fG fR2 c Pt : Addr} {ocG : Value} {odG anG : Option Addr} {oslG : Array (Option Value)} {kVG dcG pmG cdG ctG : Value} {oc : Value} {od an : Option Addr} {osl : Array (Option Value)} {kV dc pm ct : Value}
    (gG : mg "_law_heard" = some (.ref fG)) (kG : PySem.W.keepIn K (.ref fG) = true) (lkG : K.lookup fG = some ⟨ocG, odG, .func (PySem.W.fnOf "_law_heard" "_law_heard" (defArgs sHeard) (defBody sHeard) (defScope sHeard) .none kVG dcG pmG anG cdG ctG), oslG⟩) (hcG : PySem.W.codeIn K cdG "_law_heard" = true)
    (bG : Binds K (PySem.W.fnOf "_law_heard" "_law_heard" (defArgs sHeard) (defBody sHeard) (defScope sHeard) .none kVG dcG pmG anG cdG ctG) ["_law_ask"] [])
    (lk : K.lookup fR2 = some ⟨oc, od, .func (PySem.W.fnOf "_law_refused_right" "_law_refused_right" (defArgs sRef) (defBody sRef) (defScope sRef) .none kV dc pm an (.ref c) ct), osl⟩) (hcd : PySem.W.codeIn K (.ref c) "_law_refused_right" = true)
    (TB : LamX.TabB base mg c Pt) : FnG P w K mg base CX0 12 fR2 (PySem.W.fnOf "_law_refused_right" "_law_refused_right" (defArgs sRef) (defBody sRef) (defScope sRef) .none kV dc pm an (.ref c) ct) ["_law_pen_here"] (spRef Pt) := by
  have GP : FnOk P w K mg base CX0 2 fP dP ["_law_pen_here", "_law_some"] spPick := ok_pick D.p.F D.t D.d
  have GW : FnOk P w K mg base (L2.CX P w) 6 fWO dWO ["letters", "width"] (spWO K CD CL) := ok_WO D.r
  refine fnG_at lk hcd scRef (fun vs H Q E h => ?_) (fun A outer s H vs Q E hG hr h => ?_)
  · obtain ⟨p, cc, n, rfl, _⟩ := h
    rfl
  · obtain ⟨p, cc, n, rfl, hp, hn, hT, k⟩ := h
    have hr2 := hr.mono (show 2 ≤ 11 by decide)
    have hGd : (A.deeper (PyProof.Rows.envOfC "_law_refused_right" (defScope sRef) s.heap.objs.size fR2 (.ref c))).guards = some [] := hG
    have hud := hr.units
    refine ⟨_, (pss_cons (ps_set (i := 5) scRef.nd rfl (Or.inr rfl) (pe_call GP hr2 rfl D.p.g D.p.k D.p.b .nil pass0 (pa_cons (pv 0) (pa_cons (pe_lst (pa_cons pe_non (pa_cons pe_int (pa_cons pe_str (pa_cons pe_str (pa_cons pe_str (pa_cons (pe_lstN (pa_cons pe_str pa_nil)) (pa_cons (pe_tup (pa_cons pe_str pa_nil)) (pa_cons pe_bl (pa_cons (pe_op op_rep0 pe_str pe_int) pa_nil)))))))))) pa_nil))))
      (pss_cons (ps_set (i := 1) scRef.nd rfl (Or.inl rfl) (pe_lst (pa_cons (LamX.pe_lamcall (T := TL Pt) (TT := THeard K S CL CD CW CM CU) (P := Pt) (c := c) (k := 9) rfl gG kG lkG hcG bG scHeard rfl (Or.inl rfl) (heard_gives (X := (cxOf CX0 P w K mg base NRf "_law_refused_right" (defScope sRef) fR2 (.ref c) A outer s H E).nox) ?g1 ?u1 TH) TB rfl ?m1 ?un1 hr (LamX.lamS_by (by show LamX.lamSB (defScope sRef) _ = true; decide +kernel)) rfl (fun _ _ _ _ _ => rfl) (fun A2 outer2 s2 H2 E2 f c' hr2 => pe_callRS D.rd.F hr2 rfl D.rd.g D.rd.k (fun σ => passAt (takes_of rfl rfl rfl rfl) σ) (pa_cons pe_str (pa_cons (pv 5) (pa_cons pe_str pa_nil))))) pa_nil)))
      (pss_cons (ps_expr (pe_bm PySem.F.plainAttrs_list PySem.F.slot_list_append PySem.F.type_list_append mt_append (pv 1) (pa_cons (LamX.pe_lamcall (T := TL Pt) (TT := THeard K S CL CD CW CM CU) (P := Pt) (c := c) (k := 9) rfl gG kG lkG hcG bG scHeard rfl (Or.inl rfl) (heard_gives (X := (cxOf CX0 P w K mg base NRf "_law_refused_right" (defScope sRef) fR2 (.ref c) A outer s H E).nox) ?g2 ?u2 TH) TB rfl ?m2 ?un2 hr (LamX.lamS_by (by show LamX.lamSB (defScope sRef) _ = true; decide +kernel)) rfl (fun _ _ _ _ _ => rfl) (fun A2 outer2 s2 H2 E2 f c' hr2 => pe_callRS D.rd.F hr2 rfl D.rd.g D.rd.k (fun σ => passAt (takes_of rfl rfl rfl rfl) σ) (pa_cons pe_str (pa_cons pe_str (pa_cons pe_str (pa_cons (pv 5) pa_nil)))))) pa_nil)))
      (pss_cons (ps_expr (pe_bm PySem.F.plainAttrs_list PySem.F.slot_list_append PySem.F.type_list_append mt_append (pv 1) (pa_cons (LamX.pe_lamcall (T := TL Pt) (TT := THeard K S CL CD CW CM CU) (P := Pt) (c := c) (k := 9) rfl gG kG lkG hcG bG scHeard rfl (Or.inl rfl) (heard_gives (X := (cxOf CX0 P w K mg base NRf "_law_refused_right" (defScope sRef) fR2 (.ref c) A outer s H E).nox) ?g3 ?u3 TH) TB rfl ?m3 ?un3 hr (LamX.lamS_by (by show LamX.lamSB (defScope sRef) _ = true; decide +kernel)) rfl (fun _ _ _ _ _ => rfl) (fun A2 outer2 s2 H2 E2 f c' hr2 => pe_callRS D.rd.F hr2 rfl D.rd.g D.rd.k (fun σ => passAt (takes_of rfl rfl rfl rfl) σ) (pa_cons pe_str (pa_cons pe_str (pa_cons pe_str (pa_cons pe_str pa_nil)))))) pa_nil)))
      (pss_cons (ps_expr (pe_bm PySem.F.plainAttrs_list PySem.F.slot_list_append PySem.F.type_list_append mt_append (pv 1) (pa_cons (LamX.pe_lamcall (T := TL Pt) (TT := THeard K S CL CD CW CM CU) (P := Pt) (c := c) (k := 9) rfl gG kG lkG hcG bG scHeard rfl (Or.inl rfl) (heard_gives (X := (cxOf CX0 P w K mg base NRf "_law_refused_right" (defScope sRef) fR2 (.ref c) A outer s H E).nox) ?g4 ?u4 TH) TB rfl ?m4 ?un4 hr (LamX.lamS_by (by show LamX.lamSB (defScope sRef) _ = true; decide +kernel)) rfl (fun _ _ _ _ _ => rfl) (fun A2 outer2 s2 H2 E2 f c' hr2 => pe_callRS D.rd.F hr2 rfl D.rd.g D.rd.k (fun σ => passAt (takes_of rfl rfl rfl rfl) σ) (pa_cons pe_str (pa_cons pe_str (pa_cons pe_str (pa_cons pe_str pa_nil)))))) pa_nil)))
      (pss_cons (ps_set (i := 3) scRef.nd rfl (Or.inr rfl) (pe_call GP hr2 rfl D.p.g D.p.k D.p.b .nil pass0 (pa_cons (pv 0) (pa_cons (pe_lst (pa_cons pe_non (pa_cons pe_int (pa_cons pe_int (pa_cons pe_bl (pa_cons pe_str (pa_cons (pe_tup (pa_cons pe_int pa_nil)) pa_nil))))))) pa_nil))))
      (pss_cons (ps_set (i := 6) scRef.nd rfl (Or.inr rfl) (pe_call GP hr2 rfl D.p.g D.p.k D.p.b .nil pass0 (pa_cons (pv 0) (pa_cons (pe_lst (pa_cons pe_non (pa_cons pe_str (pa_cons (pe_lstN (pa_cons pe_str pa_nil)) (pa_cons pe_dnewK (pa_cons pe_int (pa_cons (pe_op op_repT (pe_tup (pa_cons pe_str pa_nil)) pe_int) pa_nil))))))) pa_nil))))
      (pss_cons (ps_set (i := 4) scRef.nd rfl (Or.inr rfl) (pe_call GP hr2 rfl D.p.g D.p.k D.p.b .nil pass0 (pa_cons (pv 0) (pa_cons (pe_lst (pa_cons pe_non (pa_cons pe_str (pa_cons pe_str (pa_cons pe_str (pa_cons pe_str (pa_cons pe_int (pa_cons (pe_tup (pa_cons pe_str (pa_cons pe_str pa_nil))) (pa_cons pe_str pa_nil))))))))) pa_nil))))
      (pss_cons (ps_expr (pe_bm PySem.F.plainAttrs_list PySem.F.slot_list_append PySem.F.type_list_append mt_append (pv 1) (pa_cons (LamX.pe_lamcall (T := TL Pt) (TT := THeard K S CL CD CW CM CU) (P := Pt) (c := c) (k := 9) rfl gG kG lkG hcG bG scHeard rfl (Or.inl rfl) (heard_gives (X := (cxOf CX0 P w K mg base NRf "_law_refused_right" (defScope sRef) fR2 (.ref c) A outer s H E).nox) ?g5 ?u5 TH) TB rfl ?m5 ?un5 hr (LamX.lamS_by (by show LamX.lamSB (defScope sRef) _ = true; decide +kernel)) rfl (fun _ _ _ _ _ => rfl) (fun A2 outer2 s2 H2 E2 f c' hr2 => pe_callS GW (hr2.mono (by decide)) rfl D.r.wo.g D.r.wo.k D.r.wo.b (fun σ => passAt (takes_of rfl rfl rfl rfl) σ) (pa_cons (pv 6) (pa_cons (pv 3) pa_nil)))) pa_nil)))
      (pss_cons (ps_expr (pe_bm PySem.F.plainAttrs_list PySem.F.slot_list_append PySem.F.type_list_append mt_append (pv 1) (pa_cons (LamX.pe_lamcall (T := TL Pt) (TT := THeard K S CL CD CW CM CU) (P := Pt) (c := c) (k := 9) rfl gG kG lkG hcG bG scHeard rfl (Or.inl rfl) (heard_gives (X := (cxOf CX0 P w K mg base NRf "_law_refused_right" (defScope sRef) fR2 (.ref c) A outer s H E).nox) ?g6 ?u6 TH) TB rfl ?m6 ?un6 hr (LamX.lamS_by (by show LamX.lamSB (defScope sRef) _ = true; decide +kernel)) rfl (fun _ _ _ _ _ => rfl) (fun A2 outer2 s2 H2 E2 f c' hr2 => pe_callS GW (hr2.mono (by decide)) rfl D.r.wo.g D.r.wo.k D.r.wo.b (fun σ => passAt (takes_of rfl rfl rfl rfl) σ) (pa_cons (pv 6) (pa_cons pe_int pa_nil)))) pa_nil)))
      (pss_cons (ps_expr (pe_bm PySem.F.plainAttrs_list PySem.F.slot_list_append PySem.F.type_list_append mt_append (pv 1) (pa_cons (LamX.pe_lamcall (T := TL Pt) (TT := THeard K S CL CD CW CM CU) (P := Pt) (c := c) (k := 9) rfl gG kG lkG hcG bG scHeard rfl (Or.inl rfl) (heard_gives (X := (cxOf CX0 P w K mg base NRf "_law_refused_right" (defScope sRef) fR2 (.ref c) A outer s H E).nox) ?g7 ?u7 TH) TB rfl ?m7 ?un7 hr (LamX.lamS_by (by show LamX.lamSB (defScope sRef) _ = true; decide +kernel)) rfl (fun _ _ _ _ _ => rfl) (fun A2 outer2 s2 H2 E2 f c' hr2 => pe_callS GW (hr2.mono (by decide)) rfl D.r.wo.g D.r.wo.k D.r.wo.b (fun σ => passAt (takes_of rfl rfl rfl rfl) σ) (pa_cons (pe_tup (pa_cons pe_str (pa_cons pe_str (pa_cons (pv 4) (pa_cons pe_non pa_nil))))) (pa_cons pe_int pa_nil)))) pa_nil)))
      (pss_cons (ps_set (i := 2) scRef.nd rfl (Or.inl rfl) (pe_lst (pa_cons (pe_tup (pa_cons pe_str (pa_cons (pe_callB (call_repr hGd hud) (by rfl) TH.rp (by decide +kernel) (pa_cons (pv 5) pa_nil)) pa_nil))) (pa_cons (pe_tup (pa_cons pe_str (pa_cons (pe_callB (call_repr hGd hud) (by rfl) TH.rp (by decide +kernel) (pa_cons (pv 5) pa_nil)) pa_nil))) (pa_cons (pe_tup (pa_cons pe_str (pa_cons pe_str pa_nil))) (pa_cons (pe_tup (pa_cons pe_str (pa_cons pe_str (pa_cons pe_str pa_nil)))) pa_nil))))))
      (pss_one (ps_ret (pe_cmpR (op_eqD hr.units) (pv 1) (pe_op op_cat (pv 2) (pe_lst (pa_cons (pe_tup (pa_cons pe_str (pa_cons (pe_callB (call_repr hGd hud) (by rfl) TH.rp (by decide +kernel) (pa_cons (pv 3) pa_nil)) pa_nil))) (pa_cons (pe_tup (pa_cons pe_str (pa_cons pe_str pa_nil))) (pa_cons (pe_tup (pa_cons pe_str (pa_cons (pe_callB (call_repr hGd hud) (by rfl) TH.rp (by decide +kernel) (pa_cons (pv 4) pa_nil)) pa_nil))) pa_nil))))) (nomark _)))))))))))))))), ?_⟩
    case g1 => exact hG
    case u1 => exact (hr.deeper _).units
    case m1 => exact List.mem_singleton.mpr rfl
    case un1 =>
      intro p hp _
      rw [List.mem_singleton.mp hp]
      rfl
    case g2 => exact hG
    case u2 => exact (hr.deeper _).units
    case m2 => exact List.mem_singleton.mpr rfl
    case un2 =>
      intro p hp _
      rw [List.mem_singleton.mp hp]
      rfl
    case g3 => exact hG
    case u3 => exact (hr.deeper _).units
    case m3 => exact List.mem_singleton.mpr rfl
    case un3 =>
      intro p hp _
      rw [List.mem_singleton.mp hp]
      rfl
    case g4 => exact hG
    case u4 => exact (hr.deeper _).units
    case m4 => exact List.mem_singleton.mpr rfl
    case un4 =>
      intro p hp _
      rw [List.mem_singleton.mp hp]
      rfl
    case g5 => exact hG
    case u5 => exact (hr.deeper _).units
    case m5 => exact List.mem_singleton.mpr rfl
    case un5 =>
      intro p hp _
      rw [List.mem_singleton.mp hp]
      rfl
    case g6 => exact hG
    case u6 => exact (hr.deeper _).units
    case m6 => exact List.mem_singleton.mpr rfl
    case un6 =>
      intro p hp _
      rw [List.mem_singleton.mp hp]
      rfl
    case g7 => exact hG
    case u7 => exact (hr.deeper _).units
    case m7 => exact List.mem_singleton.mpr rfl
    case un7 =>
      intro p hp _
      rw [List.mem_singleton.mp hp]
      rfl
    have hpp : ∃ xs, H p = some (.lst xs) := by
      obtain ⟨_, _, _, e, _⟩ := hp
      exact ⟨_, e⟩
    obtain ⟨xp, hpp⟩ := hpp
    refine ⟨_, rfl, by show 1 ≤ sizeLine; decide, fun l1 hl1 nl1 => ?_⟩
    have s1 : Same H (upd H l1 (.lst [.str "0"])) := same_new hl1
    have e1 : upd H l1 (.lst [.str "0"]) l1 = some (.lst [.str "0"]) := upd_same
    generalize upd H l1 (.lst [.str "0"]) = H1 at s1 e1
    refine ⟨by show 1 ≤ sizeLine; decide, fun t1 ht1 => ?_⟩
    have s2 : Same H1 (upd H1 t1 (.tup [.str "0"])) := same_new ht1
    have e2 : upd H1 t1 (.tup [.str "0"]) t1 = some (.tup [.str "0"]) := upd_same
    generalize upd H1 t1 (.tup [.str "0"]) = H2 at s2 e2
    refine ⟨rfl, rfl, by show 9 ≤ sizeLine; decide, fun l hl => ?_⟩
    have s3 : Same H2 (upd H2 l (.lst [.non, .int 0, .str "4", .str "0 ", .str "a", .ref l1, .ref t1, .bl true, .str zer])) := same_new hl
    have lp : l ≠ p := (ne_of_none (s2 _ _ (s1 _ _ hpp)) hl).symm
    have s13 := (s1.trans s2).trans s3
    refine ⟨p, cc, l, n, _, rfl, hp.keep s13, by omega, upd_same, lp, by show 0 < 9; decide, by show 9 < 1000; decide, fun H4 odd kp4 pen4 hx => ?_⟩
    have f1 : l1 ≠ p := (ne_of_none hpp hl1).symm
    have f2 : t1 ≠ p := (ne_of_none (s1 _ _ hpp) ht1).symm
    have hoA : Odd K (core [p] H4) odd := odd_menu (core_at (by simp [f1]) (fun _ z => nomatch z) (kp4 _ _ f1 (s3 _ _ (s2 _ _ e1)))) nl1 (core_at (by simp [f2]) (fun _ z => nomatch z) (kp4 _ _ f2 (s3 _ _ e2))) hx
    have hT4 : LamX.Tabs (TL Pt) H4 := Tabs.keep (hT.ext s13) (s13 _ _ hpp) kp4
    have kx4 : KeepX [p] H H4 := (KeepX.same s13).trans (KeepX.keep (by simp) kp4)
    refine gset (σ2 := [some (.ref p), none, none, none, none, some odd, none]) rfl ?_
    obtain ⟨kvo, wo1, Do, so⟩ := hoA
    have hbo : bad4 odd = true := by unfold bad4; rw [wo1]; rfl
    have hb00 : bad4 (.str "00") = false := by decide +kernel
    have hb0 : bad4 (.str "0") = false := by decide +kernel
    refine ⟨hT4, fun H5 x5 T5 H6 Z s6 want => ?_⟩
    have g6 : Same (core [p] H4) H6 := (core_mono ((KeepX.ext x5).trans (KeepX.same s6))).trans core_sub
    refine ⟨_, rfl, by show 3 ≤ 100; decide, fun v hv H' s' => ?_, rd_word (v := odd) (by simp only [List.find?, hb00, hbo]) (h_word HX so g6 (fun a1 H7 s7 na1 ha1 => ?_))⟩
    · simp only [List.mem_cons, List.not_mem_nil, or_false] at hv
      rcases hv with rfl | rfl | rfl
      · exact vl_str (by decide)
      · exact kvo H' (g6.trans s')
      · exact vl_str (by decide)
    refine ⟨by show 1 ≤ sizeLine; decide, fun hl0 hhl => ?_⟩
    have pen7 : Pen H7 p cc (n + 1) := ((Pen.ext pen4 x5).keep s6).keep s7
    have p7 : ∃ xs, H7 p = some (.lst xs) := by
      obtain ⟨_, _, _, e, _⟩ := pen7
      exact ⟨_, e⟩
    obtain ⟨xp7, p7⟩ := p7
    have c7 : ∃ xs, H7 cc = some (.lst xs) := by
      obtain ⟨_, _, _, _, e, _⟩ := pen7
      exact ⟨_, e⟩
    obtain ⟨xc7, c7⟩ := c7
    have s8 := same_new (o := .lst [.ref a1]) hhl
    have S8 : Stt p cc hl0 Pt (n + 1) [a1] (upd H7 hl0 (.lst [.ref a1])) := ⟨pen7.keep s8, ((T5.ext s6).ext s7).ext s8, upd_same, (ne_of_none p7 hhl).symm, (ne_of_none c7 hhl).symm⟩
    have g8 : Same (core [p] H4) (core [p, hl0] (upd H7 hl0 (.lst [.ref a1]))) := core_grow (((KeepX.ext x5).trans (KeepX.same s6)).trans (KeepX.same s7)) hhl
    have A1 : core [p, hl0] (upd H7 hl0 (.lst [.ref a1])) a1 = some (.tup [.str "word", .str Do.shown]) := core_at (by simp [ne_of ha1 p7 (fun z => nomatch z), ne_of_none ha1 hhl]) (fun _ z => nomatch z) ((upd_ne (ne_of_none ha1 hhl)).trans ha1)
    have gH : Same (core [p] H) (core [p, hl0] (upd H7 hl0 (.lst [.ref a1]))) := core_grow (((kx4.trans (KeepX.ext x5)).trans (KeepX.same s6)).trans (KeepX.same s7)) hhl
    generalize upd H7 hl0 (.lst [.ref a1]) = H8 at S8 g8 A1 gH
    have hoG : Odd K (core [p, hl0] H8) odd := Odd.mono ⟨kvo, wo1, Do, so⟩ g8
    have so2 : Shw (core [p, hl0] H8) odd Do := so.mono g8
    refine gset (σ2 := [some (.ref p), some (.ref hl0), none, none, none, some odd, none]) rfl ?_
    refine ⟨_, rfl, .inl ⟨rfl, _, SqL.of S8.lst⟩, S8.tab, fun X8 x8 T8 HA8 Z8 sA8 want8 => ?_⟩
    have gA8 : Same (core [p, hl0] H8) HA8 := (core_mono ((KeepX.ext x8).trans (KeepX.same sA8))).trans core_sub
    refine ⟨_, rfl, by show 4 ≤ 100; decide, fun v hv H' s' => ?_, rd_word (v := odd) (by simp only [List.find?, hb0, hb00, hbo]) (h_word HX so2 gA8 (fun a9 HB8 sB8 na9 ha9 => ?_))⟩
    · simp only [List.mem_cons, List.not_mem_nil, or_false] at hv
      rcases hv with rfl | rfl | rfl | rfl
      · exact vl_str (by decide)
      · exact vl_str (by decide)
      · exact vl_str (by decide)
      · exact hoG.1 H' (gA8.trans s')
    obtain ⟨hL8, S9, m8, A9⟩ := S8.app x8 T8 (sA8.trans sB8) ha9
    refine ⟨hl0, _, _, rfl, rfl, hL8, by show 1 < sizeLine; decide, ?_⟩
    generalize upd HB8 hl0 (.lst (([a1].map V.ref) ++ [.ref a9])) = H9 at S9 m8 A9
    replace S9 : Stt p cc hl0 Pt _ [a1, a9] H9 := S9
    replace A1 := m8 _ _ A1
    replace gH := gH.trans m8
    replace hoG := hoG.mono m8
    replace so2 := so2.mono m8
    refine ⟨_, rfl, .inl ⟨rfl, _, SqL.of S9.lst⟩, S9.tab, fun X9 x9 T9 HA9 Z9 sA9 want9 => ?_⟩
    have gA9 : Same (core [p, hl0] H9) HA9 := (core_mono ((KeepX.ext x9).trans (KeepX.same sA9))).trans core_sub
    refine ⟨by show 4 ≤ 100; decide, fun v hv H' s' => ?_, rd_unlike (ws := ["0", "00", "0", "0"]) (by decide +kernel) (by decide +kernel) (h_unlike HX (fun a10 HB9 sB9 na10 ha10 => ?_))⟩
    · simp only [List.mem_cons, List.not_mem_nil, or_false] at hv
      rcases hv with rfl | rfl | rfl | rfl <;> exact vl_str (by decide)
    obtain ⟨hL9, S10, m9, A10⟩ := S9.app x9 T9 (sA9.trans sB9) ha10
    refine ⟨hl0, _, _, rfl, rfl, hL9, by show 2 < sizeLine; decide, ?_⟩
    generalize upd HB9 hl0 (.lst (([a1, a9].map V.ref) ++ [.ref a10])) = H10 at S10 m9 A10
    replace S10 : Stt p cc hl0 Pt _ [a1, a9, a10] H10 := S10
    replace A1 := m9 _ _ A1
    replace A9 := m9 _ _ A9
    replace gH := gH.trans m9
    replace hoG := hoG.mono m9
    replace so2 := so2.mono m9
    refine ⟨_, rfl, .inl ⟨rfl, _, SqL.of S10.lst⟩, S10.tab, fun X10 x10 T10 HA10 Z10 sA10 want10 => ?_⟩
    have gA10 : Same (core [p, hl0] H10) HA10 := (core_mono ((KeepX.ext x10).trans (KeepX.same sA10))).trans core_sub
    refine ⟨by show 4 ≤ 100; decide, fun v hv H' s' => ?_, rd_many (ws := ["0", "1", "2", "3"]) (by decide +kernel) (by decide +kernel) (by decide) (h_many HX (fun a11 HB10 sB10 na11 ha11 => ?_))⟩
    · simp only [List.mem_cons, List.not_mem_nil, or_false] at hv
      rcases hv with rfl | rfl | rfl | rfl <;> exact vl_str (by decide)
    obtain ⟨hL10, S11, m10, A11⟩ := S10.app x10 T10 (sA10.trans sB10) ha11
    refine ⟨hl0, _, _, rfl, rfl, hL10, by show 3 < sizeLine; decide, ?_⟩
    generalize upd HB10 hl0 (.lst (([a1, a9, a10].map V.ref) ++ [.ref a11])) = H11 at S11 m10 A11
    replace S11 : Stt p cc hl0 Pt _ [a1, a9, a10, a11] H11 := S11
    replace A1 := m10 _ _ A1
    replace A9 := m10 _ _ A9
    replace A10 := m10 _ _ A10
    replace gH := gH.trans m10
    replace hoG := hoG.mono m10
    replace so2 := so2.mono m10
    have hpp11 : ∃ xs, H11 p = some (.lst xs) := by
      obtain ⟨_, _, _, e, _⟩ := S11.pen
      exact ⟨_, e⟩
    obtain ⟨xp11, hpp11⟩ := hpp11
    refine ⟨_, rfl, by show 1 ≤ sizeLine; decide, fun t2 ht2 => ?_⟩
    have st2 : Same H11 (upd H11 t2 (.tup [.int 1])) := same_new ht2
    have et2 : upd H11 t2 (.tup [.int 1]) t2 = some (.tup [.int 1]) := upd_same
    generalize upd H11 t2 (.tup [.int 1]) = H11t2 at st2 et2
    have pt2 : t2 ≠ p := (ne_of_none hpp11 ht2).symm
    have qt2 : t2 ≠ hl0 := (ne_of_none S11.lst ht2).symm
    refine ⟨by show 6 ≤ sizeLine; decide, fun l12 hl12 => ?_⟩
    have sl12 : Same H11t2 (upd H11t2 l12 (.lst [.non, .int 0, .int 4, .bl true, .str "1", .ref t2])) := same_new hl12
    have lp12 : l12 ≠ p := (ne_of_none ((st2) _ _ hpp11) hl12).symm
    have sc12 := (st2).trans sl12
    refine ⟨p, cc, l12, n + 1, _, rfl, S11.pen.keep sc12, by omega, upd_same, lp12, by show 0 < 6; decide, by show 6 < 1000; decide, fun H12 bad kp12 pen12 hx12 => ?_⟩
    have S12 := (S11.same sc12).pick kp12 pen12
    have m11 : Same (core [p, hl0] H11) (core [p, hl0] H12) := core_mono ((KeepX.same sc12).trans (KeepX.keep (by simp) kp12))
    have ct2 : core [p, hl0] H12 t2 = some (.tup [.int 1]) := core_at (ex := [p, hl0]) (by simp [pt2, qt2]) (fun _ z => nomatch z) (kp12 _ _ pt2 (sl12 _ _ et2))
    have hbG := bad_menu (K := K) ct2 hx12
    replace A1 := m11 _ _ A1
    replace A9 := m11 _ _ A9
    replace A10 := m11 _ _ A10
    replace A11 := m11 _ _ A11
    replace gH := gH.trans m11
    replace hoG := hoG.mono m11
    replace so2 := so2.mono m11
    refine gset (σ2 := [some (.ref p), some (.ref hl0), none, some bad, none, some odd, none]) rfl ?_
    have hpp12 : ∃ xs, H12 p = some (.lst xs) := by
      obtain ⟨_, _, _, e, _⟩ := S12.pen
      exact ⟨_, e⟩
    obtain ⟨xp12, hpp12⟩ := hpp12
    refine ⟨_, rfl, by show 1 ≤ sizeLine; decide, fun l3 hl3 nl3 => ?_⟩
    have sl3 : Same H12 (upd H12 l3 (.lst [.str "00"])) := same_new hl3
    have el3 : upd H12 l3 (.lst [.str "00"]) l3 = some (.lst [.str "00"]) := upd_same
    generalize upd H12 l3 (.lst [.str "00"]) = H12l3 at sl3 el3
    have pl3 : l3 ≠ p := (ne_of_none hpp12 hl3).symm
    have ql3 : l3 ≠ hl0 := (ne_of_none S12.lst hl3).symm
    intro d3 hd3
    have sd3 : Same H12l3 (upd H12l3 d3 (.dK [])) := same_new hd3
    have ed3 : upd H12l3 d3 (.dK []) d3 = some (.dK []) := upd_same
    generalize upd H12l3 d3 (.dK []) = H12d3 at sd3 ed3
    replace el3 := sd3 _ _ el3
    have pd3 : d3 ≠ p := (ne_of_none ((sl3) _ _ hpp12) hd3).symm
    have qd3 : d3 ≠ hl0 := (ne_of_none ((sl3) _ _ S12.lst) hd3).symm
    refine ⟨by show 1 ≤ sizeLine; decide, fun t3 ht3 => ?_⟩
    have st3 : Same H12d3 (upd H12d3 t3 (.tup [.str "00"])) := same_new ht3
    have et3 : upd H12d3 t3 (.tup [.str "00"]) t3 = some (.tup [.str "00"]) := upd_same
    generalize upd H12d3 t3 (.tup [.str "00"]) = H12t3 at st3 et3
    replace el3 := st3 _ _ el3
    replace ed3 := st3 _ _ ed3
    have pt3 : t3 ≠ p := (ne_of_none (((sl3).trans sd3) _ _ hpp12) ht3).symm
    have qt3 : t3 ≠ hl0 := (ne_of_none (((sl3).trans sd3) _ _ S12.lst) ht3).symm
    refine ⟨t3, 101, [.str "00"], rfl, rfl, SqT.of (et3), (fun z => nomatch z), by decide, by decide, by decide, fun t4 ht4 => ?_⟩
    have st4 : Same H12t3 (upd H12t3 t4 (.tup (List.replicate (Int.toNat 101) [V.str "00"]).flatten)) := same_new ht4
    have et4 : upd H12t3 t4 (.tup (List.replicate (Int.toNat 101) [V.str "00"]).flatten) t4 = some (.tup (List.replicate (Int.toNat 101) [V.str "00"]).flatten) := upd_same
    generalize upd H12t3 t4 (.tup (List.replicate (Int.toNat 101) [V.str "00"]).flatten) = H12t4 at st4 et4
    replace el3 := st4 _ _ el3
    replace ed3 := st4 _ _ ed3
    replace et3 := st4 _ _ et3
    have pt4 : t4 ≠ p := (ne_of_none ((((sl3).trans sd3).trans st3) _ _ hpp12) ht4).symm
    have qt4 : t4 ≠ hl0 := (ne_of_none ((((sl3).trans sd3).trans st3) _ _ S12.lst) ht4).symm
    refine ⟨by show 6 ≤ sizeLine; decide, fun l13 hl13 => ?_⟩
    have sl13 : Same H12t4 (upd H12t4 l13 (.lst [.non, .str "00", .ref l3, .ref d3, .int 0, .ref t4])) := same_new hl13
    have lp13 : l13 ≠ p := (ne_of_none (((((sl3).trans sd3).trans st3).trans st4) _ _ hpp12) hl13).symm
    have sc13 := ((((sl3).trans sd3).trans st3).trans st4).trans sl13
    refine ⟨p, cc, l13, n + 2, _, rfl, S12.pen.keep sc13, by omega, upd_same, lp13, by show 0 < 6; decide, by show 6 < 1000; decide, fun H13 wrong kp13 pen13 hx13 => ?_⟩
    have S13 := (S12.same sc13).pick kp13 pen13
    have m12 : Same (core [p, hl0] H12) (core [p, hl0] H13) := core_mono ((KeepX.same sc13).trans (KeepX.keep (by simp) kp13))
    have cl3 : core [p, hl0] H13 l3 = some (.lst [.str "00"]) := core_at (ex := [p, hl0]) (by simp [pl3, ql3]) (fun _ z => nomatch z) (kp13 _ _ pl3 (sl13 _ _ el3))
    have cd3 : core [p, hl0] H13 d3 = some (.dK []) := core_at (ex := [p, hl0]) (by simp [pd3, qd3]) (fun _ z => nomatch z) (kp13 _ _ pd3 (sl13 _ _ ed3))
    have ct3 : core [p, hl0] H13 t3 = some (.tup [.str "00"]) := core_at (ex := [p, hl0]) (by simp [pt3, qt3]) (fun _ z => nomatch z) (kp13 _ _ pt3 (sl13 _ _ et3))
    have ct4 : core [p, hl0] H13 t4 = some (.tup (List.replicate (Int.toNat 101) [V.str "00"]).flatten) := core_at (ex := [p, hl0]) (by simp [pt4, qt4]) (fun _ z => nomatch z) (kp13 _ _ pt4 (sl13 _ _ et4))
    have hwG := wro_menu (K := K) cl3 cd3 ct4 hx13
    replace A1 := m12 _ _ A1
    replace A9 := m12 _ _ A9
    replace A10 := m12 _ _ A10
    replace A11 := m12 _ _ A11
    replace gH := gH.trans m12
    replace hoG := hoG.mono m12
    replace so2 := so2.mono m12
    replace hbG := hbG.mono m12
    refine gset (σ2 := [some (.ref p), some (.ref hl0), none, some bad, none, some odd, some wrong]) rfl ?_
    have hpp13 : ∃ xs, H13 p = some (.lst xs) := by
      obtain ⟨_, _, _, e, _⟩ := S13.pen
      exact ⟨_, e⟩
    obtain ⟨xp13, hpp13⟩ := hpp13
    refine ⟨_, rfl, by show 2 ≤ sizeLine; decide, fun t5 ht5 => ?_⟩
    have st5 : Same H13 (upd H13 t5 (.tup [.str "0", .str "0"])) := same_new ht5
    have et5 : upd H13 t5 (.tup [.str "0", .str "0"]) t5 = some (.tup [.str "0", .str "0"]) := upd_same
    generalize upd H13 t5 (.tup [.str "0", .str "0"]) = H13t5 at st5 et5
    have pt5 : t5 ≠ p := (ne_of_none hpp13 ht5).symm
    have qt5 : t5 ≠ hl0 := (ne_of_none S13.lst ht5).symm
    refine ⟨by show 8 ≤ sizeLine; decide, fun l14 hl14 => ?_⟩
    have sl14 : Same H13t5 (upd H13t5 l14 (.lst [.non, .str "0", .str "000", .str "04", .str "", .int 0, .ref t5, .str "a0"])) := same_new hl14
    have lp14 : l14 ≠ p := (ne_of_none ((st5) _ _ hpp13) hl14).symm
    have sc14 := (st5).trans sl14
    refine ⟨p, cc, l14, n + 3, _, rfl, S13.pen.keep sc14, by omega, upd_same, lp14, by show 0 < 8; decide, by show 8 < 1000; decide, fun H14 letter kp14 pen14 hx14 => ?_⟩
    have S14 := (S13.same sc14).pick kp14 pen14
    have m13 : Same (core [p, hl0] H13) (core [p, hl0] H14) := core_mono ((KeepX.same sc14).trans (KeepX.keep (by simp) kp14))
    have ct5 : core [p, hl0] H14 t5 = some (.tup [.str "0", .str "0"]) := core_at (ex := [p, hl0]) (by simp [pt5, qt5]) (fun _ z => nomatch z) (kp14 _ _ pt5 (sl14 _ _ et5))
    have hlG := lod_menu (K := K) ct5 hx14
    replace A1 := m13 _ _ A1
    replace A9 := m13 _ _ A9
    replace A10 := m13 _ _ A10
    replace A11 := m13 _ _ A11
    replace gH := gH.trans m13
    replace hoG := hoG.mono m13
    replace so2 := so2.mono m13
    replace hbG := hbG.mono m13
    replace hwG := hwG.mono m13
    refine gset (σ2 := [some (.ref p), some (.ref hl0), none, some bad, some letter, some odd, some wrong]) rfl ?_
    refine ⟨_, rfl, .inl ⟨rfl, _, SqL.of S14.lst⟩, S14.tab, fun X14 x14 T14 HA14 Z14 sA14 want14 => ?_⟩
    have gA14 : Same (core [p, hl0] H14) HA14 := (core_mono ((KeepX.ext x14).trans (KeepX.same sA14))).trans core_sub
    obtain ⟨kb8, b8, Db, sb⟩ := id hbG
    refine ⟨_, rfl, _, rfl, wrong, bad, rfl, kb8 _ gA14, wo_width b8 (h_width HX sb gA14 (fun a15 HB14 sB14 na15 ha15 => ?_))⟩
    obtain ⟨hL14, S15, m14, A15⟩ := S14.app x14 T14 (sA14.trans sB14) ha15
    refine ⟨hl0, _, _, rfl, rfl, hL14, by show 4 < sizeLine; decide, ?_⟩
    generalize upd HB14 hl0 (.lst (([a1, a9, a10, a11].map V.ref) ++ [.ref a15])) = H15 at S15 m14 A15
    replace S15 : Stt p cc hl0 Pt _ [a1, a9, a10, a11, a15] H15 := S15
    replace A1 := m14 _ _ A1
    replace A9 := m14 _ _ A9
    replace A10 := m14 _ _ A10
    replace A11 := m14 _ _ A11
    replace gH := gH.trans m14
    replace hoG := hoG.mono m14
    replace so2 := so2.mono m14
    replace hbG := hbG.mono m14
    replace hwG := hwG.mono m14
    replace hlG := hlG.mono m14
    replace sb := sb.mono m14
    refine ⟨_, rfl, .inl ⟨rfl, _, SqL.of S15.lst⟩, S15.tab, fun X15 x15 T15 HA15 Z15 sA15 want15 => ?_⟩
    have gA15 : Same (core [p, hl0] H15) HA15 := (core_mono ((KeepX.ext x15).trans (KeepX.same sA15))).trans core_sub
    refine ⟨_, rfl, wrong, .int 2, rfl, knd_int, wo_none hwG gA15 (h_letter HX (shw_sc (v := .non) (D := .none) True.intro (by unfold Fine; decide +kernel)) gA15 (fun a16 HB15 sB15 na16 ha16 => ?_))⟩
    obtain ⟨hL15, S16, m15, A16⟩ := S15.app x15 T15 (sA15.trans sB15) ha16
    refine ⟨hl0, _, _, rfl, rfl, hL15, by show 5 < sizeLine; decide, ?_⟩
    generalize upd HB15 hl0 (.lst (([a1, a9, a10, a11, a15].map V.ref) ++ [.ref a16])) = H16 at S16 m15 A16
    replace S16 : Stt p cc hl0 Pt _ [a1, a9, a10, a11, a15, a16] H16 := S16
    replace A1 := m15 _ _ A1
    replace A9 := m15 _ _ A9
    replace A10 := m15 _ _ A10
    replace A11 := m15 _ _ A11
    replace A15 := m15 _ _ A15
    replace gH := gH.trans m15
    replace hoG := hoG.mono m15
    replace so2 := so2.mono m15
    replace hbG := hbG.mono m15
    replace hwG := hwG.mono m15
    replace hlG := hlG.mono m15
    replace sb := sb.mono m15
    refine ⟨_, rfl, .inl ⟨rfl, _, SqL.of S16.lst⟩, S16.tab, fun X16 x16 T16 HA16 Z16 sA16 want16 => ?_⟩
    have gA16 : Same (core [p, hl0] H16) HA16 := (core_mono ((KeepX.ext x16).trans (KeepX.same sA16))).trans core_sub
    refine ⟨_, rfl, by show 4 ≤ sizeLine; decide, fun t6 ht6 => ?_⟩
    have s6t : Same HA16 (upd HA16 t6 (.tup [.str "00", .str "13", letter, .non])) := same_new ht6
    have gt6 := gA16.trans s6t
    obtain ⟨kl8, b9, Dl, sd⟩ := id hlG
    refine ⟨.ref t6, .int 2, rfl, knd_int, wo_letter upd_same (fun H' s' => kl8 H' (gt6.trans s')) b9 (h_letter HX sd gt6 (fun a17 HB16 sB16 na17 ha17 => ?_))⟩
    obtain ⟨hL16, S17, m16, A17⟩ := S16.app x16 T16 ((sA16.trans s6t).trans sB16) ha17
    refine ⟨hl0, _, _, rfl, rfl, hL16, by show 6 < sizeLine; decide, ?_⟩
    generalize upd HB16 hl0 (.lst (([a1, a9, a10, a11, a15, a16].map V.ref) ++ [.ref a17])) = H17 at S17 m16 A17
    replace S17 : Stt p cc hl0 Pt _ [a1, a9, a10, a11, a15, a16, a17] H17 := S17
    replace A1 := m16 _ _ A1
    replace A9 := m16 _ _ A9
    replace A10 := m16 _ _ A10
    replace A11 := m16 _ _ A11
    replace A15 := m16 _ _ A15
    replace A16 := m16 _ _ A16
    replace gH := gH.trans m16
    replace hoG := hoG.mono m16
    replace so2 := so2.mono m16
    replace hbG := hbG.mono m16
    replace hwG := hwG.mono m16
    replace hlG := hlG.mono m16
    replace sb := sb.mono m16
    replace sd := sd.mono m16
    have hN : PyData.none.shown = "None" := by decide +kernel
    rw [hN] at A16
    refine ⟨_, rfl, 2, odd, Do, rfl, (so2.1 _ core_sub).1, .inl (so2.1 _ core_sub).2.2.2.2, (so2.1 _ core_sub).2.1, (so2.1 _ core_sub).2.2.1, (so2.1 _ core_sub).2.2.2.1, by show 2 ≤ sizeLine; decide, fun u1 hu1 => ?_⟩
    have su1 : Same H17 (upd H17 u1 (.tup [.str "word", .str Do.shown])) := same_new hu1
    have eu1 : upd H17 u1 (.tup [.str "word", .str Do.shown]) u1 = some (.tup [.str "word", .str Do.shown]) := upd_same
    generalize upd H17 u1 (.tup [.str "word", .str Do.shown]) = Uu1 at su1 eu1
    refine ⟨_, rfl, 2, odd, Do, rfl, (so2.1 _ (core_sub.trans (su1))).1, .inl (so2.1 _ (core_sub.trans (su1))).2.2.2.2, (so2.1 _ (core_sub.trans (su1))).2.1, (so2.1 _ (core_sub.trans (su1))).2.2.1, (so2.1 _ (core_sub.trans (su1))).2.2.2.1, by show 2 ≤ sizeLine; decide, fun u2 hu2 => ?_⟩
    have su2 : Same Uu1 (upd Uu1 u2 (.tup [.str "word", .str Do.shown])) := same_new hu2
    have eu2 : upd Uu1 u2 (.tup [.str "word", .str Do.shown]) u2 = some (.tup [.str "word", .str Do.shown]) := upd_same
    generalize upd Uu1 u2 (.tup [.str "word", .str Do.shown]) = Uu2 at su2 eu2
    replace eu1 := su2 _ _ eu1
    refine ⟨by show 2 ≤ sizeLine; decide, fun u3 hu3 => ?_⟩
    have su3 : Same Uu2 (upd Uu2 u3 (.tup [.str "unlike", .str "'length'"])) := same_new hu3
    have eu3 : upd Uu2 u3 (.tup [.str "unlike", .str "'length'"]) u3 = some (.tup [.str "unlike", .str "'length'"]) := upd_same
    generalize upd Uu2 u3 (.tup [.str "unlike", .str "'length'"]) = Uu3 at su3 eu3
    replace eu1 := su3 _ _ eu1
    replace eu2 := su3 _ _ eu2
    refine ⟨by show 3 ≤ sizeLine; decide, fun u4 hu4 => ?_⟩
    have su4 : Same Uu3 (upd Uu3 u4 (.tup [.str "many", .str "'words'", .str "3"])) := same_new hu4
    have eu4 : upd Uu3 u4 (.tup [.str "many", .str "'words'", .str "3"]) u4 = some (.tup [.str "many", .str "'words'", .str "3"]) := upd_same
    generalize upd Uu3 u4 (.tup [.str "many", .str "'words'", .str "3"]) = Uu4 at su4 eu4
    replace eu1 := su4 _ _ eu1
    replace eu2 := su4 _ _ eu2
    replace eu3 := su4 _ _ eu3
    refine ⟨by show 4 ≤ sizeLine; decide, fun ld hld => ?_⟩
    have sld : Same Uu4 (upd Uu4 ld (.lst [.ref u1, .ref u2, .ref u3, .ref u4])) := same_new hld
    have eld : upd Uu4 ld (.lst [.ref u1, .ref u2, .ref u3, .ref u4]) ld = some (.lst [.ref u1, .ref u2, .ref u3, .ref u4]) := upd_same
    generalize upd Uu4 ld (.lst [.ref u1, .ref u2, .ref u3, .ref u4]) = Uld at sld eld
    replace eu1 := sld _ _ eu1
    replace eu2 := sld _ _ eu2
    replace eu3 := sld _ _ eu3
    replace eu4 := sld _ _ eu4
    refine gset (σ2 := [some (.ref p), some (.ref hl0), some (.ref ld), some bad, some letter, some odd, some wrong]) rfl ?_
    refine ⟨_, rfl, _, rfl, _, rfl, 2, bad, Db, rfl, (sb.1 _ (core_sub.trans (((((su1).trans su2).trans su3).trans su4).trans sld))).1, .inl (sb.1 _ (core_sub.trans (((((su1).trans su2).trans su3).trans su4).trans sld))).2.2.2.2, (sb.1 _ (core_sub.trans (((((su1).trans su2).trans su3).trans su4).trans sld))).2.1, (sb.1 _ (core_sub.trans (((((su1).trans su2).trans su3).trans su4).trans sld))).2.2.1, (sb.1 _ (core_sub.trans (((((su1).trans su2).trans su3).trans su4).trans sld))).2.2.2.1, by show 2 ≤ sizeLine; decide, fun u5 hu5 => ?_⟩
    have su5 : Same Uld (upd Uld u5 (.tup [.str "width", .str Db.shown])) := same_new hu5
    have eu5 : upd Uld u5 (.tup [.str "width", .str Db.shown]) u5 = some (.tup [.str "width", .str Db.shown]) := upd_same
    generalize upd Uld u5 (.tup [.str "width", .str Db.shown]) = Uu5 at su5 eu5
    replace eu1 := su5 _ _ eu1
    replace eu2 := su5 _ _ eu2
    replace eu3 := su5 _ _ eu3
    replace eu4 := su5 _ _ eu4
    replace eld := su5 _ _ eld
    refine ⟨by show 2 ≤ sizeLine; decide, fun u6 hu6 => ?_⟩
    have su6 : Same Uu5 (upd Uu5 u6 (.tup [.str "letter", .str "None"])) := same_new hu6
    have eu6 : upd Uu5 u6 (.tup [.str "letter", .str "None"]) u6 = some (.tup [.str "letter", .str "None"]) := upd_same
    generalize upd Uu5 u6 (.tup [.str "letter", .str "None"]) = Uu6 at su6 eu6
    replace eu1 := su6 _ _ eu1
    replace eu2 := su6 _ _ eu2
    replace eu3 := su6 _ _ eu3
    replace eu4 := su6 _ _ eu4
    replace eld := su6 _ _ eld
    replace eu5 := su6 _ _ eu5
    refine ⟨_, rfl, 2, letter, Dl, rfl, (sd.1 _ (core_sub.trans (((((((su1).trans su2).trans su3).trans su4).trans sld).trans su5).trans su6))).1, .inl (sd.1 _ (core_sub.trans (((((((su1).trans su2).trans su3).trans su4).trans sld).trans su5).trans su6))).2.2.2.2, (sd.1 _ (core_sub.trans (((((((su1).trans su2).trans su3).trans su4).trans sld).trans su5).trans su6))).2.1, (sd.1 _ (core_sub.trans (((((((su1).trans su2).trans su3).trans su4).trans sld).trans su5).trans su6))).2.2.1, (sd.1 _ (core_sub.trans (((((((su1).trans su2).trans su3).trans su4).trans sld).trans su5).trans su6))).2.2.2.1, by show 2 ≤ sizeLine; decide, fun u7 hu7 => ?_⟩
    have su7 : Same Uu6 (upd Uu6 u7 (.tup [.str "letter", .str Dl.shown])) := same_new hu7
    have eu7 : upd Uu6 u7 (.tup [.str "letter", .str Dl.shown]) u7 = some (.tup [.str "letter", .str Dl.shown]) := upd_same
    generalize upd Uu6 u7 (.tup [.str "letter", .str Dl.shown]) = Uu7 at su7 eu7
    replace eu1 := su7 _ _ eu1
    replace eu2 := su7 _ _ eu2
    replace eu3 := su7 _ _ eu3
    replace eu4 := su7 _ _ eu4
    replace eld := su7 _ _ eld
    replace eu5 := su7 _ _ eu5
    replace eu6 := su7 _ _ eu6
    refine ⟨by show 3 ≤ sizeLine; decide, fun le hle => ?_⟩
    have sle : Same Uu7 (upd Uu7 le (.lst [.ref u5, .ref u6, .ref u7])) := same_new hle
    have ele : upd Uu7 le (.lst [.ref u5, .ref u6, .ref u7]) le = some (.lst [.ref u5, .ref u6, .ref u7]) := upd_same
    generalize upd Uu7 le (.lst [.ref u5, .ref u6, .ref u7]) = Ule at sle ele
    replace eu1 := sle _ _ eu1
    replace eu2 := sle _ _ eu2
    replace eu3 := sle _ _ eu3
    replace eu4 := sle _ _ eu4
    replace eld := sle _ _ eld
    replace eu5 := sle _ _ eu5
    replace eu6 := sle _ _ eu6
    replace eu7 := sle _ _ eu7
    refine ⟨ld, le, _, _, rfl, rfl, eld, ele, by show 7 ≤ sizeLine; decide, fun lz hlz => ?_⟩
    have slz : Same Ule (upd Ule lz (.lst ([.ref u1, .ref u2, .ref u3, .ref u4] ++ [.ref u5, .ref u6, .ref u7]))) := same_new hlz
    have elz : upd Ule lz (.lst ([.ref u1, .ref u2, .ref u3, .ref u4] ++ [.ref u5, .ref u6, .ref u7])) lz = some (.lst (([u1, u2, u3, u4, u5, u6, u7] : List Addr).map V.ref)) := upd_same
    generalize upd Ule lz (.lst ([.ref u1, .ref u2, .ref u3, .ref u4] ++ [.ref u5, .ref u6, .ref u7])) = HZ at slz elz
    have all : Same H17 HZ := (((((((((su1).trans su2).trans su3).trans su4).trans sld).trans su5).trans su6).trans su7).trans sle).trans slz
    have allc : Same (core [p, hl0] H17) HZ := core_sub.trans all
    have P1 : Paired (fun t (it : List Str) => HZ t = some (.tup (it.map V.str))) [a1, a9, a10, a11, a15, a16, a17] [["word", Do.shown], ["word", Do.shown], ["unlike", "'length'"], ["many", "'words'", "3"], ["width", Db.shown], ["letter", "None"], ["letter", Dl.shown]] := .cons (allc _ _ A1) (.cons (allc _ _ A9) (.cons (allc _ _ A10) (.cons (allc _ _ A11) (.cons (allc _ _ A15) (.cons (allc _ _ A16) (.cons (allc _ _ A17) .nil))))))
    have P2 : Paired (fun t (it : List Str) => HZ t = some (.tup (it.map V.str))) [u1, u2, u3, u4, u5, u6, u7] [["word", Do.shown], ["word", Do.shown], ["unlike", "'length'"], ["many", "'words'", "3"], ["width", Db.shown], ["letter", "None"], ["letter", Dl.shown]] := .cons (slz _ _ eu1) (.cons (slz _ _ eu2) (.cons (slz _ _ eu3) (.cons (slz _ _ eu4) (.cons (slz _ _ eu5) (.cons (slz _ _ eu6) (.cons (slz _ _ eu7) .nil))))))
    have oks : ∀ it, it ∈ ([["word", Do.shown], ["word", Do.shown], ["unlike", "'length'"], ["many", "'words'", "3"], ["width", Db.shown], ["letter", "None"], ["letter", Dl.shown]] : List (List Str)) → ∀ x, x ∈ it → PyData.strOk x = true := by
      intro it hit x hxi
      have c1 : PyData.strOk "word" = true := by decide +kernel
      have c2 : PyData.strOk "unlike" = true := by decide +kernel
      have c3 : PyData.strOk "'length'" = true := by decide +kernel
      have c4 : PyData.strOk "many" = true := by decide +kernel
      have c5 : PyData.strOk "'words'" = true := by decide +kernel
      have c6 : PyData.strOk "3" = true := by decide +kernel
      have c7 : PyData.strOk "width" = true := by decide +kernel
      have c8 : PyData.strOk "letter" = true := by decide +kernel
      have c9 : PyData.strOk "None" = true := by decide +kernel
      simp only [List.mem_cons, List.not_mem_nil, or_false] at hit
      rcases hit with rfl | rfl | rfl | rfl | rfl | rfl | rfl <;> simp only [List.mem_cons, List.not_mem_nil, or_false] at hxi
      · rcases hxi with rfl | rfl
        · exact c1
        · exact so2.2
      · rcases hxi with rfl | rfl
        · exact c1
        · exact so2.2
      · rcases hxi with rfl | rfl
        · exact c2
        · exact c3
      · rcases hxi with rfl | rfl | rfl
        · exact c4
        · exact c5
        · exact c6
      · rcases hxi with rfl | rfl
        · exact c7
        · exact sb.2
      · rcases hxi with rfl | rfl
        · exact c8
        · exact c9
      · rcases hxi with rfl | rfl
        · exact c8
        · exact sd.2
    refine ⟨.list (([["word", Do.shown], ["word", Do.shown], ["unlike", "'length'"], ["many", "'words'", "3"], ["width", Db.shown], ["letter", "None"], ["letter", Dl.shown]] : List (List Str)).map tupD), .list (([["word", Do.shown], ["word", Do.shown], ["unlike", "'length'"], ["many", "'words'", "3"], ["width", Db.shown], ["letter", "None"], ["letter", Dl.shown]] : List (List Str)).map tupD), .lst (SqL.of (all _ _ S17.lst)) (dp_tups P1), .lst (SqL.of elz) (dp_tups P2), sh_tups _ oks, sh_tups _ oks, ?_⟩
    rw [show (PyData.list (([["word", Do.shown], ["word", Do.shown], ["unlike", "'length'"], ["many", "'words'", "3"], ["width", Db.shown], ["letter", "None"], ["letter", Dl.shown]] : List (List Str)).map tupD)).eqv (.list (([["word", Do.shown], ["word", Do.shown], ["unlike", "'length'"], ["many", "'words'", "3"], ["width", Db.shown], ["letter", "None"], ["letter", Dl.shown]] : List (List Str)).map tupD)) = true from eqv_tups _]
    exact k HZ (fun b o n1 t1 e1 => allc _ _ (gH _ _ (core_at n1 t1 e1))) (S17.tab.ext all) ((S17.pen.keep all).mono (by omega))
end
end Kre
namespace Kre
open PySem L2 Gd
open Kone (Pen Keep spPen spDraw spPick TxtD same_new)
/-! ### x >= y of data -/
def rGeD : R2 := fun x y H Q => ∃ (n : Nat) (d1 d2 : PyData), Dq H n false x d1 ∧ Dq H n false y d2 ∧ PySem.W.alike d1 d2 = true ∧ d1 ≠ .none ∧ d1.depth ≤ 60 ∧ Q (.bl (!PySem.W.dataLt d1 d2)) H
theorem op_geD {X : Cx} (hu : X.A.units + 64 < cLine) : OpR X (compareOp .GtE) rGeD := by
  intro pins s σ H x y v u Q I rx ry h
  obtain ⟨n, d1, d2, h1, h2, al, ne, dp, q⟩ := h
  obtain ⟨as, r1, _⟩ := dq_reads I n false x d1 v h1 rx
  obtain ⟨bs, r2, _⟩ := dq_reads I n false y d2 u h2 ry
  exact PySem.W.ge_data r1 r2 al ne (by have := Nat.min_le_left d1.depth d2.depth; omega) ⟨.bl (!PySem.W.dataLt d1 d2), H, I, rfl, q⟩
abbrev NL : List Str := ["_law_script", "_law_pen_here", "_law_lap", "_law_some"]
theorem scLaw : FnScope NL ["_law_script"] (defScope sLaw) := ⟨rfl, rfl, rfl, by decide +kernel, rfl, by decide +kernel, by decide +kernel⟩
def spLaw (K : PySem.W.Frag) (Pt : Addr) : Sp := fun vs H Q _ => ∃ (a : Addr) (ns : List Int), vs = [.ref a] ∧ SqL K H a (ns.map V.int) ∧ LamX.Tabs (TL Pt) H ∧ ∀ H', Q (.bl true) H'
section
variable {P : Program} {w : World} {K : PySem.W.Frag} {mg : Str → Option Value} {base : Heap} {S CB CD CW CL CU CM fI fB fH fKB fIW fIL fCW fSS fWO fR fD fP fDn fRe fTo : Addr} {dI dB dH dKB dIW dIL dCW dSS dWO dD dP dDn dRe dTo : FuncData}
theorem ok_law (D : Lw P w K mg base S CB CD CW CL CU CM fI fB fH fKB fIW fIL fCW fSS fWO fR fD fP fDn fRe fTo dI dB dH dKB dIW dIL dCW dSS dWO dD dP dDn dRe dTo) {f fN fG fF Pt : Addr} {fd dN dG dF : FuncData} (F : Fun K "law" "law" sLaw f fd)
    (UN : Def K mg "_law_pen" sPen ["_law_script"] fN dN) (UG : Def K mg "_law_right" sRight ["_law_pen_here"] fG dG)
    (gF : mg "_law_refused_right" = some (.ref fF)) (kF : PySem.W.keepIn K (.ref fF) = true) (bF : Binds K dF ["_law_pen_here"] []) (GF : FnG P w K mg base CX0 12 fF dF ["_law_pen_here"] (spRef Pt)) :
    FnG P w K mg base CX0 13 f fd ["_law_script"] (spLaw K Pt) := by
  have T := D.r.d.t
  have GN : FnOk P w K mg base CX0 1 fN dN ["_law_script"] (spPen K) := ok_pen UN.F D.t
  have GR : FnOk P w K mg base CX0 11 fG dG ["_law_pen_here"] spRight := ok_right D UG.F
  have GW : FnOk P w K mg base (L2.CX P w) 6 fWO dWO ["letters", "width"] (spWO K CD CL) := ok_WO D.r
  refine Fun.okG F scLaw (fun vs H Q E h => ?_) (fun cdv A outer s H vs Q E hG hr h => ?_)
  · obtain ⟨a, ns, rfl, _⟩ := h
    rfl
  · obtain ⟨a, ns, rfl, hS, hT, k⟩ := h
    have hG2 : (A.deeper (PyProof.Rows.envOfC "law" (defScope sLaw) s.heap.objs.size f cdv)).guards = some [] := hG
    refine ⟨_, pss_cons (ps_set (i := 1) scLaw.nd rfl (Or.inl rfl) (pe_call GN (hr.mono (by decide)) rfl UN.g UN.k UN.b .nil pass0 (pa_cons (pv 0) pa_nil)))
      (pss_cons (ps_for PassesOwn.never rfl (pi_range1 rfl T.range (pa_cons pe_int pa_nil)) (pg_name (i := 2) scLaw.nd rfl (Or.inl rfl)) (pss_one (ps_if (PW.pt (pw_or (pt_not (pt_val (pe_call GR (hr.mono (by decide)) rfl UG.g UG.k UG.b .nil pass0 (pa_cons (pv 1) pa_nil)))) (pw_or1 (pt_not (pt_val (pe_callG GF hG2 hr rfl gF kF bF pass0 (pa_cons (pv 1) pa_nil))))))) (pss_one (ps_ret pe_bl)) pss_nil)))
      (pss_cons (ps_set (i := 3) scLaw.nd rfl (Or.inl rfl) (pe_lst (pa_cons (pe_callRS (E := EN) D.rd.F (hr.mono (by decide)) rfl D.rd.g D.rd.k passN (pa_cons pe_str (pa_cons pe_str pa_nil))) (pa_cons (pe_callRS (E := EN) D.rd.F (hr.mono (by decide)) rfl D.rd.g D.rd.k passN (pa_cons pe_str (pa_cons pe_str pa_nil))) (pa_cons (pe_callRS (E := EN) D.rd.F (hr.mono (by decide)) rfl D.rd.g D.rd.k passN (pa_cons pe_str (pa_cons pe_str pa_nil))) pa_nil)))))
      (pss_cons (ps_if (PW.pt (pw_or (pt_cmpR (op_geD hr.units) (pe_ix ix_list (pv 3) pe_int (fun _ _ => rfl)) (pe_ix ix_list (pv 3) pe_int (fun _ _ => rfl)) (nomark _)) (pw_or1 (pt_cmpR (op_neD hr.units) (pv 3) (pe_lst (pa_cons (pe_tup (pa_cons pe_str (pa_cons pe_str pa_nil))) (pa_cons (pe_tup (pa_cons pe_str (pa_cons pe_str pa_nil))) (pa_cons (pe_tup (pa_cons pe_str pa_nil)) pa_nil)))) (nomark _))))) (pss_one (ps_ret pe_bl)) pss_nil)
      (pss_one (ps_ret (pe_cmpR op_eq (pe_callB call_len_str (by rfl) T.len PySem.boot_len (pa_cons (pe_ix ix_tup (pe_callS (E := EN) GW (hr.mono (by decide)) rfl D.r.wo.g D.r.wo.k D.r.wo.b passN (pa_cons (pe_op op_repT (pe_tup (pa_cons pe_str pa_nil)) pe_int) (pa_cons pe_int pa_nil))) pe_int (fun _ _ => rfl)) pa_nil)) pe_int (nomark _))))))), ?_⟩
    refine ⟨_, rfl, a, ns, rfl, hS, fun H1 p c s1 pen1 => ?_⟩
    refine gset (σ2 := [some (.ref a), some (.ref p), none, none]) rfl ?_
    refine ⟨8, rfl, by decide, by decide, for_range (n := 8) (fun i σ G => Pen G p c (i * 500) ∧ LamX.Tabs (TL Pt) G ∧ ∃ v, σ = [some (.ref a), some (.ref p), v, none]) ?_ ?_ ?_⟩
    · exact ⟨pen1, hT.ext s1, none, rfl⟩
    · rintro i σ G hi ⟨pen, tab, v, rfl⟩
      refine gset (σ2 := [some (.ref a), some (.ref p), some (.int (0 + (i : Int))), none]) rfl ?_
      refine ⟨_, rfl, p, c, i * 500, rfl, pen, by omega, fun H2 kp2 pen2 => ⟨_, rfl, ?_⟩⟩
      obtain ⟨_, _, _, e, _⟩ := id pen
      refine noB rfl ?_
      refine ⟨_, rfl, p, c, i * 500 + 400, rfl, pen2, by omega, Tabs.keep tab e kp2, fun H3 kx3 tab3 pen3 => ⟨_, rfl, ?_⟩⟩
      refine noB rfl ?_
      exact ⟨pen3.mono (by omega), tab3, _, rfl⟩
    · rintro σ G ⟨pen, tab, v, rfl⟩
      refine rd_ok (ws := ["00", "11"]) (by decide +kernel) (by decide +kernel) (by decide) (fun t1 G1 s1 ht1 h1 => ?_)
      refine rd_ok (ws := ["01", "00"]) (by decide +kernel) (by decide +kernel) (by decide) (fun t2 G2 s2 ht2 h2 => ?_)
      refine rd_ok (ws := ["0", "1"]) (by decide +kernel) (by decide +kernel) (by decide) (fun t3 G3 s3 ht3 h3 => ?_)
      refine ⟨by show 3 ≤ sizeLine; decide, fun l hl => ?_⟩
      rw [lets_eq, show lts ["00", "11"] = (["01", "01"] : List Str) by decide +kernel] at h1
      rw [lets_eq, show lts ["01", "00"] = (["00", "10"] : List Str) by decide +kernel] at h2
      rw [lets_eq, show lts ["0", "1"] = (["01"] : List Str) by decide +kernel] at h3
      have s4 : Same G3 (upd G3 l (.lst [.ref t1, .ref t2, .ref t3])) := same_new hl
      have e4 : upd G3 l (.lst [.ref t1, .ref t2, .ref t3]) l = some (.lst [.ref t1, .ref t2, .ref t3]) := upd_same
      replace h1 := s4 _ _ (s3 _ _ (s2 _ _ h1))
      replace h2 := s4 _ _ (s3 _ _ h2)
      replace h3 := s4 _ _ h3
      generalize upd G3 l (.lst [.ref t1, .ref t2, .ref t3]) = G4 at e4 h1 h2 h3
      refine gset (σ2 := [some (.ref a), some (.ref p), v, some (.ref l)]) rfl ?_
      refine ⟨_, rfl, l, _, 1, _, rfl, rfl, SqL.of e4, at_one, _, rfl, l, _, 0, _, rfl, rfl, SqL.of e4, at_zero, 2, .tuple [.str "00", .str "10"], .tuple [.str "01", .str "01"], .inr (.inr (.inl ⟨t2, _, _, rfl, rfl, h2, .cons (.inl rfl) (.cons (.inl rfl) .nil), by show 2 ≤ 100; decide⟩)), .inr (.inr (.inl ⟨t1, _, _, rfl, rfl, h1, .cons (.inl rfl) (.cons (.inl rfl) .nil), by show 2 ≤ 100; decide⟩)), by decide +kernel, (fun z => nomatch z), by decide +kernel, _, rfl, ?_⟩
      refine noB (by decide +kernel) ?_
      refine ⟨_, rfl, by show 2 ≤ sizeLine; decide, fun u1 hu1 => ?_⟩
      have r1 : Same G4 (upd G4 u1 (.tup [.str "01", .str "01"])) := same_new hu1
      have f1 : upd G4 u1 (.tup [.str "01", .str "01"]) u1 = some (.tup [.str "01", .str "01"]) := upd_same
      generalize upd G4 u1 (.tup [.str "01", .str "01"]) = G5 at r1 f1
      refine ⟨by show 2 ≤ sizeLine; decide, fun u2 hu2 => ?_⟩
      have r2 : Same G5 (upd G5 u2 (.tup [.str "00", .str "10"])) := same_new hu2
      have f2 : upd G5 u2 (.tup [.str "00", .str "10"]) u2 = some (.tup [.str "00", .str "10"]) := upd_same
      generalize upd G5 u2 (.tup [.str "00", .str "10"]) = G6 at r2 f2
      refine ⟨by show 1 ≤ sizeLine; decide, fun u3 hu3 => ?_⟩
      have r3 : Same G6 (upd G6 u3 (.tup [.str "01"])) := same_new hu3
      have f3 : upd G6 u3 (.tup [.str "01"]) u3 = some (.tup [.str "01"]) := upd_same
      generalize upd G6 u3 (.tup [.str "01"]) = G7 at r3 f3
      refine ⟨by show 3 ≤ sizeLine; decide, fun l2 hl2 => ?_⟩
      have r4 : Same G7 (upd G7 l2 (.lst [.ref u1, .ref u2, .ref u3])) := same_new hl2
      have f4 : upd G7 l2 (.lst [.ref u1, .ref u2, .ref u3]) l2 = some (.lst (([u1, u2, u3] : List Addr).map V.ref)) := upd_same
      generalize upd G7 l2 (.lst [.ref u1, .ref u2, .ref u3]) = G8 at r4 f4
      have all := ((r1.trans r2).trans r3).trans r4
      have P1 : Paired (fun t (it : List Str) => G8 t = some (.tup (it.map V.str))) [t1, t2, t3] ([["01", "01"], ["00", "10"], ["01"]] : List (List Str)) := .cons (all _ _ h1) (.cons (all _ _ h2) (.cons (all _ _ h3) .nil))
      have P2 : Paired (fun t (it : List Str) => G8 t = some (.tup (it.map V.str))) [u1, u2, u3] ([["01", "01"], ["00", "10"], ["01"]] : List (List Str)) := .cons (((r2.trans r3).trans r4) _ _ f1) (.cons ((r3.trans r4) _ _ f2) (.cons (r4 _ _ f3) .nil))
      have oks : ∀ it, it ∈ ([["01", "01"], ["00", "10"], ["01"]] : List (List Str)) → ∀ x, x ∈ it → PyData.strOk x = true := by decide +kernel
      refine ⟨.list (([["01", "01"], ["00", "10"], ["01"]] : List (List Str)).map tupD), .list (([["01", "01"], ["00", "10"], ["01"]] : List (List Str)).map tupD), .lst (SqL.of (all _ _ e4)) (dp_tups P1), .lst (SqL.of f4) (dp_tups P2), sh_tups _ oks, sh_tups _ oks, _, rfl, ?_⟩
      refine noB (by rw [show (PyData.list (([["01", "01"], ["00", "10"], ["01"]] : List (List Str)).map tupD)).eqv (.list (([["01", "01"], ["00", "10"], ["01"]] : List (List Str)).map tupD)) = true from eqv_tups _]; rfl) ?_
      refine ⟨by show 1 ≤ sizeLine; decide, fun v1 hv1 => ?_⟩
      refine ⟨v1, 100, [.str "123"], rfl, rfl, SqT.of upd_same, (fun z => nomatch z), by decide, by decide, by decide, fun v2 hv2 => ?_⟩
      have hus : (List.replicate (Int.toNat 100) [V.str "123"]).flatten = (List.replicate 100 ("123" : Str)).map V.str := by rfl
      rw [hus]
      refine ⟨.ref v2, .int 3, rfl, knd_int, wo_ok (us := List.replicate 100 ("123" : Str)) (m := 3) upd_same (by decide) (by decide) (by decide +kernel) (fun y hy => by rw [List.eq_of_mem_replicate hy]; decide +kernel) (fun v3 G9 s9 hv3 h9 => ?_)⟩
      refine ⟨v3, _, 2, .str (lett (List.replicate 100 ("123" : Str)) 2), rfl, rfl, SqT.of h9, at_two, lett (List.replicate 100 ("123" : Str)) 2, rfl, by decide +kernel, rfl, ?_⟩
      rw [show (lett (List.replicate 100 ("123" : Str)) 2).length = 100 by decide +kernel]
      exact k _
end
end Kre
namespace Gd
open PySem PySem.Spec PyProof.Rows L2
section
variable {P : Program} {w : World} {K : PySem.W.Frag} {mg mb : Str → Option Value} {CX : CXT} {k : Nat} {fa a c T : Addr} {fd : FuncData} {x : Str} {sp : Sp} {s : Shared} {vs : List Value} {ns : List Int}
/-- what an empty table of codes is -/
abbrev tab0 : Obj := { cls := .none, data := .fields #[] }
/-- where at most the script's list is tracked, and the table at T -/
structure LoneT (K : PySem.W.Frag) (H : Hp) (a T : Addr) : Prop where
  tb : H T = some (.tbl #[])
  only : ∀ b, H b = none ∨ b = T ∨ ∃ o xs, H b = some (.frz o (.lst xs))
  just : ∀ b u, H b = some u → b = a ∨ b = T
  free : ∀ u, H a = some u → K.lookup a = none
  nT : K.lookup T = none
theorem LoneT.base {H : Hp} (L : LoneT K H a T) (KX : K.In s.heap) : K.In (hidT s.heap H) := by
  intro b o e
  apply hidT_get (KX b o e)
  match q : H b with
  | none => rfl
  | some u =>
    rcases L.just b u q with eb | eb
    · subst eb
      rw [L.free u q] at e
      exact nomatch e
    · subst eb
      rw [L.nT] at e
      exact nomatch e
theorem LoneT.get {H : Hp} (L : LoneT K H a T) {oa : Obj} (ha : s.heap.get? a = some oa) (hT : s.heap.get? T = some tab0) {b : Addr} {o : Obj} (e : s.heap.get? b = some o) (n1 : o ≠ oa) (n2 : o ≠ tab0) : (hidT s.heap H).get? b = some o := by
  refine hidT_get e ?_
  match q : H b with
  | none => rfl
  | some u =>
    rcases L.just b u q with eb | eb
    · subst eb
      rw [ha] at e
      exact absurd (Option.some.inj e).symm n1
    · subst eb
      rw [hT] at e
      exact absurd (Option.some.inj e).symm n2
theorem LoneT.names {H : Hp} (L : LoneT K H a T) (ha : s.heap.get? a = some { cls := .type "list", data := .seq vs.toArray }) (hT : s.heap.get? T = some tab0) {b : Addr} {m : Str → Option Value} (h : s.heap.Ns b m) : (hidT s.heap H).Ns b m := by
  obtain ⟨ob, es, ep, e, d, r⟩ := h
  refine ⟨ob, es, ep, L.get ha hT e (fun z => ?_) (fun z => ?_), d, r⟩
  · rw [z] at d
    exact nomatch d
  · rw [z] at d
    exact nomatch d
end
end Gd
namespace Gd
open PySem PySem.Spec PyProof.Rows L2
section
variable {P : Program} {w : World} {K : PySem.W.Frag} {mg mb : Str → Option Value} {CX : CXT} {k : Nat} {fa a c T : Addr} {fd : FuncData} {x : Str} {sp : Sp} {s : Shared} {vs : List Value} {ns : List Int}
theorem law_atT (KX : K.In s.heap) (hns : s.heap.Ns mainGlobals mg) (hb : s.heap.Ns builtinsNs mb) (hbb : ∀ x : Str, x ≠ "__name__" → mb x = bootBuiltins x) (hlim : s.heap.NoLimit) (hg : s.gens = #[])
    (hT : s.heap.get? T = some tab0) (C : PySem.W.CodeHd s.heap c T)
    (hbm : ∃ (bm : Addr) (ob : Obj), mg "__builtins__" = some (.ref bm) ∧ bm ≠ builtinsNs ∧ s.heap.get? bm = some ob ∧ ob.cls = .type "module" ∧ ob.dict = some builtinsNs ∧ ob.data = .plain)
    (ha : s.heap.get? a = some { cls := .type "list", data := .seq vs.toArray }) (hr : Room k callerA)
    (F : ∀ base : Heap, K.In base → base.Ns mainGlobals mg → LamX.TabB base mg c T → FnG P w K mg base CX k fa fd [x] sp) (hbind : ∀ (s : Shared) (u : Value), BindsTo s fd ⟨[u], []⟩ [(x, u)])
    (hCX : ∀ H e s', CX [] H s (fun _ _ _ => False) e s' → False) {H : Hp} (L : LoneT K H a T) (hok : HOk P w H s.heap) (hsp : sp [.ref a] H (fun v _ => v = .bl true) fun _ _ _ => False) :
    codeAny (model P w) callerA (.call (.ref fa) ⟨[.ref a], []⟩) (fun r s' => r = .ok (.ret (.bool true)) ∧ OldK s.heap s'.heap ∧ s'.os = s.os ∧ AllBare s'.gens) s := by
  have KB := L.base KX
  have NB := L.names ha hT hns
  have lim : (hidT s.heap H).NoLimit := by
    obtain ⟨m, h1, h2⟩ := hlim
    exact ⟨m, L.names ha hT h1, h2⟩
  have none_in : ∀ b : Addr, b ∉ frs ([] : List Env) := fun b z => nomatch (show b ∈ ([] : List Addr) from z)
  have gT : mainGlobals ≠ T := fun z => by
    obtain ⟨o, es, ep, e, d, _⟩ := hns
    rw [z, hT] at e
    rw [← Option.some.inj e] at d
    exact nomatch d
  have TB : LamX.TabB (hidT s.heap H) mg c T := by
    refine ⟨?_, ?_, gT⟩
    · obtain ⟨o, us, q⟩ := C
      obtain ⟨file, tf, flags, tg, inF, text, tt, e1, e2, e3, e4, rest⟩ := q
      refine ⟨o, us, file, tf, flags, tg, inF, text, tt, L.get ha hT e1 (fun z => ?_) (fun z => ?_), e2, e3, e4, rest⟩
      · rw [z] at e3
        exact nomatch e3
      · rw [z] at e2
        exact nomatch e2
    · obtain ⟨bm, ob, b1, b2, b3, b4, b5, b6⟩ := hbm
      refine ⟨bm, ob, b1, b2, fun z => ?_, fun z => ?_, L.get ha hT b3 (fun z => ?_) (fun z => ?_), b4, b5, b6⟩
      · obtain ⟨o, es, ep, e, d, _⟩ := hns
        rw [z, e] at b3
        rw [← Option.some.inj b3, d] at b6
        exact nomatch b6
      · rw [z, hT] at b3
        rw [← Option.some.inj b3] at b6
        exact nomatch b6
      · rw [z] at b6
        exact nomatch b6
      · rw [z] at b6
        exact nomatch b6
  have e0 : Env0 P w K mg (hidT s.heap H) callerA [] s H :=
    { frames := rfl, mod := ⟨KB, NB, ⟨mb, L.names ha hT hb, hbb⟩, lim⟩, bs := fun _ _ e => of_hidT e, bsz := Nat.le_of_eq (hidT_size _ _), funs := trivial, frf := fun b z => absurd z (none_in b), hok := hok, bare := .of_eq hg }
  have go := (F _ KB NB TB).run callerA [] s H ⟨[.ref a], []⟩ [.ref a] [.ref a] _ _ rfl hr e0 (hbind s (.ref a)) (.cons rfl .nil) hsp
  apply codeAny_mono go
  intro r s' h
  match r, h with
  | .error e, h => exact (hCX H e s' h).elim
  | .ok (.ret u), ⟨v, H', os, bare, un, hok', rv, q⟩ =>
    cases (show v = V.bl true from q)
    cases (show u = Value.bool true from rv)
    have other : ∀ b o, b ≠ T → s.heap.get? b = some o → s'.heap.get? b = some o := fun b o nb e => by
      rcases L.only b with n | n | ⟨ob, xs, z⟩
      · exact un.keep b o e n (none_in b) (fun z => nomatch z)
      · exact absurd n nb
      · have e1 : s.heap.get? b = some ob := (show ObjOk P w H s.heap b (.frz ob (.lst xs)) from hok b _ z).1
        have e2 : s'.heap.get? b = some ob := (show ObjOk P w H' s'.heap b (.frz ob (.lst xs)) from hok' b _ (un.frzs b ob _ z)).1
        rw [e1] at e
        rw [e2, ← Option.some.inj e]
    obtain ⟨more, grown⟩ : ∃ more : Array Value, s'.heap.get? T = some { cls := .none, data := .fields more } := by
      obtain ⟨more, z⟩ := un.tbls T #[] L.tb
      exact ⟨_, hok' T _ z⟩
    refine ⟨rfl, ⟨fun b o e => ?_, fun b o e => ?_⟩, os, bare⟩
    · by_cases eb : b = T
      · rw [eb] at e ⊢
        rw [hT] at e
        rw [← Option.some.inj e]
        exact .inr (.inl ⟨(C.tab hT).isCodeTable, rfl, #[], more, rfl, by rw [Array.empty_append]; exact grown⟩)
      · exact .inl (other b o eb e)
    · by_cases eb : b = T
      · rw [eb]
        exact ⟨_, grown⟩
      · exact ⟨o, other b o eb e⟩
  | .ok .next, h => exact (h : False).elim
  | .ok .brk, h => exact (h : False).elim
  | .ok .cont, h => exact (h : False).elim
end
open Classical in
theorem walk_atT {l : PySem.W.OpenLaw} {n k : Nat} {q : Program} {loose : List Str} {XP : (Str → Option Value) → Heap → Prop} {YP : World → Heap → Prop} {d : DefRec} {K : Params → PySem.W.Frag} {CX : CXT} {sp : PySem.W.Frag → Sp} {x : Str} {c T : Addr}
    (hn : l.most = some n) (hn2 : n ≤ sizeLine) (hdf : d.params.defaults = []) (hr : Room k callerA) (hY : ∀ (w : World) (h : Heap), YP w h → (K w.params).In h) (hYT : ∀ (w : World) (h : Heap), YP w h → h.get? T = some tab0)
    (nT : ∀ w : World, (K w.params).lookup T = none) (hC : ∀ w : World, PySem.W.codeHdIn (K w.params) c T = true)
    (F : ∀ (w : World) (mg : Str → Option Value) (fa : Addr) (h : Heap), (K w.params).In h → h.Ns mainGlobals mg → mg d.name = some (.ref fa) →
      ∃ fd : FuncData, (∀ (s : Shared) (u : Value), BindsTo s fd ⟨[u], []⟩ [(x, u)]) ∧
        ∀ base : Heap, (K w.params).In base → base.Ns mainGlobals mg → LamX.TabB base mg c T → FnG l.prog w (K w.params) mg base CX k fa fd [x] (sp (K w.params)))
    (hsp : ∀ (K : PySem.W.Frag) (H : Hp) (a : Addr) (ns : List Int), ns.length ≤ n → H T = some (.tbl #[]) → SqL K H a (ns.map V.int) → sp K [.ref a] H (fun v _ => v = .bl true) fun _ _ _ => False)
    (hCX : ∀ (H : Hp) (s : Shared) (e : Value) (s' : Shared), CX [] H s (fun _ _ _ => False) e s' → False) :
    PySem.W.WalkO q loose XP YP l.row.toRowW d [] (fun f vs => PySem.call f vs) := by
  refine Att.attach_call hn hdf fun w s₀ s₁ mg mb fa o pm cd doc a vs ns G Y ho hd hcd hmg hobj hints hlen hg => ?_
  have KX := hY w _ Y
  have hT := hYT w _ Y
  have C := PySem.W.codeHd_of_K KX (hC w)
  obtain ⟨fd, hb, hF⟩ := F w mg fa _ KX G.T.g hmg
  have rv := vals_ints hints
  have lv : vs.length = ns.length := hints.length
  have aT : a ≠ T := fun z => by
    rw [z, hT] at hobj
    exact nomatch hobj
  by_cases hk : (K w.params).lookup a = none
  · let sc : HO := .frz { cls := .type "list", data := .seq vs.toArray } (.lst (ns.map V.int))
    let H : Hp := fun b => if b = a then some sc else if b = T then some (.tbl #[]) else none
    have ea : H a = some sc := if_pos rfl
    have eT : H T = some (.tbl #[]) := (if_neg aT.symm).trans (if_pos rfl)
    have eo : ∀ b, b ≠ a → b ≠ T → H b = none := fun b n1 n2 => (if_neg n1).trans (if_neg n2)
    have l1 : ∀ b, H b = none ∨ b = T ∨ ∃ ob xs, H b = some (.frz ob (.lst xs)) := fun b => by
      by_cases e : b = a
      · exact .inr (.inr ⟨_, _, by rw [e]; exact ea⟩)
      · by_cases e2 : b = T
        · exact .inr (.inl e2)
        · exact .inl (eo b e e2)
    have l2 : ∀ b u, H b = some u → b = a ∨ b = T := fun b u z => by
      by_cases e : b = a
      · exact .inl e
      · by_cases e2 : b = T
        · exact .inr e2
        · rw [eo b e e2] at z
          exact nomatch z
    have L : LoneT (K w.params) H a T := ⟨eT, l1, l2, fun u z => hk, nT w⟩
    refine law_atT KX G.T.g G.T.b G.T.builtins G.T.nolimit hg hT C G.T.bmain hobj hr hF hb (fun H e s' => hCX H s₁ e s') L (fun b u z => ?_) (hsp _ _ a ns hlen eT (.inl (.inr ⟨_, ea⟩)))
    by_cases e : b = a
    · subst e
      rw [ea] at z
      rw [← Option.some.inj z]
      exact ⟨hobj, by rw [List.length_map]; omega, vs, _, rv, hobj⟩
    · by_cases e2 : b = T
      · subst e2
        rw [eT] at z
        rw [← Option.some.inj z]
        exact hT
      · rw [eo b e e2] at z
        exact nomatch z
  · obtain ⟨ob, hk⟩ := Option.ne_none_iff_exists'.mp hk
    have e := KX a ob hk
    rw [hobj] at e
    cases e
    let H : Hp := fun b => if b = T then some (.tbl #[]) else none
    have eT : H T = some (.tbl #[]) := if_pos rfl
    have eo : ∀ b, b ≠ T → H b = none := fun b n2 => if_neg n2
    have l1 : ∀ b, H b = none ∨ b = T ∨ ∃ ob xs, H b = some (.frz ob (.lst xs)) := fun b => by
      by_cases e2 : b = T
      · exact .inr (.inl e2)
      · exact .inl (eo b e2)
    have l2 : ∀ b u, H b = some u → b = a ∨ b = T := fun b u z => by
      by_cases e2 : b = T
      · exact .inr e2
      · rw [eo b e2] at z
        exact nomatch z
    have l3 : ∀ u, H a = some u → (K w.params).lookup a = none := fun u z => by
      rw [eo a aT] at z
      exact nomatch z
    have L : LoneT (K w.params) H a T := ⟨eT, l1, l2, l3, nT w⟩
    refine law_atT KX G.T.g G.T.b G.T.builtins G.T.nolimit hg hT C G.T.bmain hobj hr hF hb (fun H e s' => hCX H s₁ e s') L (fun b u z => ?_)
      (hsp _ _ a ns hlen eT (.inr ⟨_, vs.toArray, _, hk, rfl, rfl, rfl, by rw [List.size_toArray]; omega, by simpa using rv⟩))
    by_cases e2 : b = T
    · subst e2
      rw [eT] at z
      rw [← Option.some.inj z]
      exact hT
    · rw [eo b e2] at z
      exact nomatch z
end Gd
namespace Kre
open PySem L2 Gd
theorem d_mk {K : PySem.W.Frag} {x : Str} {st : Stmt} {ps : List Str} {f : Addr} {oc : Value} {od an : Option Addr} {sl : Array (Option Value)} {kV dc pm cd ct : Value}
    (b : ∀ (kV dc pm : Value) (an : Option Addr) (cd ct : Value) (us : List Value), us.length = ps.length → bindArgs (PySem.W.fnOf x x (defArgs st) (defBody st) (defScope st) .none kV dc pm an cd ct) ⟨us, []⟩ = pure (ps.zip us))
    (a : PySem.W.nsIn K mainGlobals x = some (some (.ref f))) (l : K.lookup f = some ⟨oc, od, .func (PySem.W.fnOf x x (defArgs st) (defBody st) (defScope st) .none kV dc pm an cd ct), sl⟩) (c : PySem.W.codeIn K cd x = true) (k : PySem.W.keepIn K (.ref f) = true) :
    ∀ (mg : Str → Option Value) (h : Heap), K.In h → h.Ns mainGlobals mg → ∃ fd, Def K mg x st ps f fd := fun mg h X G => by
  have F := fun_mk (st := st) l c k
  exact ⟨_, PySem.W.mg_of X G a, k, F.binds b, F⟩
theorem dl_mk {K : PySem.W.Frag} {f : Addr} {oc : Value} {od an : Option Addr} {sl : Array (Option Value)} {kV dc pm cd ct : Value}
    (a : PySem.W.nsIn K mainGlobals "law" = some (some (.ref f))) (l : K.lookup f = some ⟨oc, od, .func (PySem.W.fnOf "law" "law" (defArgs sLaw) (defBody sLaw) (defScope sLaw) .none kV dc pm an cd ct), sl⟩) (c : PySem.W.codeIn K cd "law" = true) (k : PySem.W.keepIn K (.ref f) = true) :
    ∀ (mg : Str → Option Value) (h : Heap), K.In h → h.Ns mainGlobals mg → ∃ fd, Def K mg "law" sLaw ["_law_script"] f fd ∧ ∀ (s : Shared) (u : Value), BindsTo s fd ⟨[u], []⟩ [(("_law_script" : Str), u)] := fun mg h X G => by
  have F := fun_mk (st := sLaw) l c k
  exact ⟨_, ⟨PySem.W.mg_of X G a, k, F.binds (fun _ _ _ _ _ _ us hl => match us, hl with | [_], _ => rfl), F⟩, fun s u => .of_eq rfl⟩
theorem kb_sw {K : PySem.W.Frag} {fd : FuncData} {a b : Str} (h : ∀ u w : Value, bindArgs fd ⟨[], [(b, u), (a, w)]⟩ = pure [(a, w), (b, u)]) : KBinds K fd [a, b] [b, a] gSw gSw := by
  constructor
  · intro s us ws X hl
    match us, ws, hl with
    | [], [u, w], _ => exact .of_eq (h u w)
    | [], [], hl => exact nomatch hl
    | [], [_], hl => exact nomatch hl
    | [], _ :: _ :: _ :: _, hl => exact nomatch hl
    | _ :: _, _, hl => exact nomatch hl
  · intro vs us zs ws r q
    match r, q with
    | .nil, .cons q1 (.cons q2 .nil) => exact .cons q2 (.cons q1 .nil)
    | .nil, .nil => exact .nil
    | .nil, .cons _ .nil => exact .nil
    | .nil, .cons _ (.cons _ (.cons _ _)) => exact .nil
    | .cons _ _, _ => exact .nil
theorem dw_mk {K : PySem.W.Frag} {f : Addr} {oc : Value} {od an : Option Addr} {sl : Array (Option Value)} {kV dc pm cd ct : Value}
    (a : PySem.W.nsIn K mainGlobals "words_of" = some (some (.ref f))) (l : K.lookup f = some ⟨oc, od, .func (PySem.W.fnOf "words_of" "words_of" (defArgs sWordsOf) (defBody sWordsOf) (defScope sWordsOf) .none kV dc pm an cd ct), sl⟩) (c : PySem.W.codeIn K cd "words_of" = true) (k : PySem.W.keepIn K (.ref f) = true) :
    ∀ (mg : Str → Option Value) (h : Heap), K.In h → h.Ns mainGlobals mg → ∃ fd, Def K mg "words_of" sWordsOf ["letters", "width"] f fd ∧ KBinds K fd ["letters", "width"] ["width", "letters"] gSw gSw := fun mg h X G => by
  have F := fun_mk (st := sWordsOf) l c k
  exact ⟨_, ⟨PySem.W.mg_of X G a, k, F.binds (fun _ _ _ _ _ _ us hl => match us, hl with | [_, _], _ => rfl), F⟩, kb_sw (fun u w => rfl)⟩
theorem b_of {K : PySem.W.Frag} {fd : FuncData} {ps : List Str} (k : KBinds K fd ps [] Kone.gPos Kone.gPos) : Binds K fd ps [] := fun s us X hl => by
  rw [List.append_nil] at hl ⊢
  exact k.to s us [] X hl
section
variable {P : Program} {w : World} {K : PySem.W.Frag} {mg : Str → Option Value} {base : Heap} {S C : Addr} {x : Str}
theorem er_of (c : Kone.XC K mg S x C) (i : Kone.I1 P w K mg base C "value") : Er P w K mg base S x C := by
  obtain ⟨⟨fI, fd, a, t, F, kb, _⟩, no⟩ := i
  exact ⟨c, ⟨fI, fd, a, t, F, b_of kb⟩, no⟩
theorem erf_of {f : Str} (c : Kone.XC K mg S x C) (i : Kone.I1 P w K mg base C f) : ErF P w K mg base S x f C := by
  obtain ⟨⟨fI, fd, a, t, F, kb, _⟩, no⟩ := i
  exact ⟨c, ⟨fI, fd, a, t, F, b_of kb⟩, no⟩
theorem er2_of {f1 f2 : Str} (c : Kone.XC K mg S x C) (i : Kone.I2 P w K mg base C f1 f2) : Er2 P w K mg base S x f1 f2 C := by
  obtain ⟨⟨fI, fd, a, t, F, kb, _⟩, n1, n2⟩ := i
  exact ⟨c, ⟨fI, fd, a, t, F, b_of kb⟩, n1, n2⟩
end
theorem all_mk {P : Program} {w : World} {K : PySem.W.Frag} {h : Heap} {mg : Str → Option Value} {fa S CB CD CW CL CU CM fI fB fH fKB fIW fIL fCW fSS fWO fR fD fP fDn fRe fTo fN fG fHd fF fLaw c Pt f_kept f_pl : Addr} {td : Tok}
    {oc1 oc2 oc3 : Value} {od1 od2 od3 an1 an2 an3 : Option Addr} {sl1 sl2 sl3 : Array (Option Value)} {kV1 dc1 pm1 cd1 ct1 kV2 dc2 pm2 cd2 ct2 kV3 dc3 pm3 ct3 : Value} (X : K.In h) (G : h.Ns mainGlobals mg) (hfa : mg "law" = some (.ref fa))
    (aS : PySem.W.nsIn K mainGlobals "SumError" = some (some (.ref S)))
    (cB : Kone.CK K S "BadBase" CB)
    (cD : Kone.CK K S "BadWidth" CD)
    (cW : Kone.CK K S "BadWord" CW)
    (cL : Kone.CK K S "BadLetter" CL)
    (cU : Kone.CK K S "Unlike" CU)
    (cM : Kone.CK K S "TooMany" CM)
    (iB : ∀ (P : Program) (w : World) (mg : Str → Option Value) (base : Heap), Kone.TxtK mg → ∀ {fK : Addr} {fdK : FuncData}, Kone.Def K mg "kept" Kone.sKept ["value"] fK fdK → Kone.I1 P w K mg base CB "value")
    (iD : ∀ (P : Program) (w : World) (mg : Str → Option Value) (base : Heap), Kone.TxtK mg → ∀ {fK : Addr} {fdK : FuncData}, Kone.Def K mg "kept" Kone.sKept ["value"] fK fdK → Kone.I1 P w K mg base CD "value")
    (iW : ∀ (P : Program) (w : World) (mg : Str → Option Value) (base : Heap), Kone.TxtK mg → ∀ {fK : Addr} {fdK : FuncData}, Kone.Def K mg "kept" Kone.sKept ["value"] fK fdK → Kone.I1 P w K mg base CW "value")
    (iL : ∀ (P : Program) (w : World) (mg : Str → Option Value) (base : Heap), Kone.TxtK mg → ∀ {fK : Addr} {fdK : FuncData}, Kone.Def K mg "kept" Kone.sKept ["value"] fK fdK → Kone.I1 P w K mg base CL "value")
    (iU : ∀ (P : Program) (w : World) (mg : Str → Option Value) (base : Heap), Kone.TxtK mg → ∀ {fK : Addr} {fdK : FuncData}, Kone.Def K mg "kept" Kone.sKept ["value"] fK fdK → Kone.I1 P w K mg base CU "part")
    (iM : ∀ (P : Program) (w : World) (mg : Str → Option Value) (base : Heap), Kone.TxtK mg → ∀ {fK : Addr} {fdK : FuncData}, Kone.Def K mg "kept" Kone.sKept ["value"] fK fdK → Kone.I2 P w K mg base CM "what" "most")
    (nLD : CL ≠ CD)
    (nLW : CL ≠ CW)
    (nLM : CL ≠ CM)
    (nLU : CL ≠ CU)
    (nDW : CD ≠ CW)
    (nDM : CD ≠ CM)
    (nDU : CD ≠ CU)
    (nWM : CW ≠ CM)
    (nWU : CW ≠ CU)
    (nMU : CM ≠ CU)
    (sL : CL ≠ S)
    (sD : CD ≠ S)
    (sW : CW ≠ S)
    (sM : CM ≠ S)
    (sU : CU ≠ S)
    (xL : PySem.W.exmOne K (.ref CL) (.ref S) = some true)
    (xD : PySem.W.exmOne K (.ref CD) (.ref S) = some true)
    (xW : PySem.W.exmOne K (.ref CW) (.ref S) = some true)
    (xM : PySem.W.exmOne K (.ref CM) (.ref S) = some true)
    (xU : PySem.W.exmOne K (.ref CU) (.ref S) = some true)
    (z_int : PySem.W.nsIn K mainGlobals "int" = some none)
    (z_bool : PySem.W.nsIn K mainGlobals "bool" = some none)
    (z_str : PySem.W.nsIn K mainGlobals "str" = some none)
    (z_len : PySem.W.nsIn K mainGlobals "len" = some none)
    (z_range : PySem.W.nsIn K mainGlobals "range" = some none)
    (z_isinstance : PySem.W.nsIn K mainGlobals "isinstance" = some none)
    (z_list : PySem.W.nsIn K mainGlobals "list" = some none)
    (z_all : PySem.W.nsIn K mainGlobals "all" = some none)
    (z_tuple : PySem.W.nsIn K mainGlobals "tuple" = some none)
    (z_zip : PySem.W.nsIn K mainGlobals "zip" = some none)
    (z_abs : PySem.W.nsIn K mainGlobals "abs" = some none)
    (z_dict : PySem.W.nsIn K mainGlobals "dict" = some none)
    (z_any : PySem.W.nsIn K mainGlobals "any" = some none)
    (d_kept : ∀ (mg : Str → Option Value) (h : Heap), K.In h → h.Ns mainGlobals mg → ∃ fd, Kone.Def K mg "kept" Kone.sKept ["value"] f_kept fd)
    (d_pl : ∀ (mg : Str → Option Value) (h : Heap), K.In h → h.Ns mainGlobals mg → ∃ fd, Def K mg "parted_letters" sParted ["letters", "width"] f_pl fd)
    (z_repr : PySem.W.nsIn K mainGlobals "repr" = some none)
    (z_ValueError : PySem.W.nsIn K mainGlobals "ValueError" = some none)
    (aDg : PySem.W.nsIn K mainGlobals "DIGITS" = some (some (.str dgs td)))
    (d_i : ∀ (mg : Str → Option Value) (h : Heap), K.In h → h.Ns mainGlobals mg → ∃ fd, Def K mg "is_integer" sIsInt ["value"] fI fd)
    (d_b : ∀ (mg : Str → Option Value) (h : Heap), K.In h → h.Ns mainGlobals mg → ∃ fd, Def K mg "is_between" sBetw ["value", "low", "high"] fB fd)
    (d_h : ∀ (mg : Str → Option Value) (h : Heap), K.In h → h.Ns mainGlobals mg → ∃ fd, Def K mg "has_digits" sHas ["text", "base"] fH fd)
    (d_kb : ∀ (mg : Str → Option Value) (h : Heap), K.In h → h.Ns mainGlobals mg → ∃ fd, Def K mg "check_base" sCkBase ["base"] fKB fd)
    (d_iw : ∀ (mg : Str → Option Value) (h : Heap), K.In h → h.Ns mainGlobals mg → ∃ fd, Def K mg "is_word" sIsWord ["value", "base"] fIW fd)
    (d_il : ∀ (mg : Str → Option Value) (h : Heap), K.In h → h.Ns mainGlobals mg → ∃ fd, Def K mg "is_letter" sIsLet ["value", "base", "width"] fIL fd)
    (d_cw : ∀ (mg : Str → Option Value) (h : Heap), K.In h → h.Ns mainGlobals mg → ∃ fd, Def K mg "check_words" sCkWords ["words", "base"] fCW fd)
    (d_ss : ∀ (mg : Str → Option Value) (h : Heap), K.In h → h.Ns mainGlobals mg → ∃ fd, Def K mg "side_by_side" sSide ["words"] fSS fd)
    (d_ldraw : ∀ (mg : Str → Option Value) (h : Heap), K.In h → h.Ns mainGlobals mg → ∃ fd, Def K mg "_law_draw" sDraw ["_law_pen_here", "_law_many"] fD fd)
    (d_lpick : ∀ (mg : Str → Option Value) (h : Heap), K.In h → h.Ns mainGlobals mg → ∃ fd, Def K mg "_law_pick" sPick ["_law_pen_here", "_law_some"] fP fd)
    (d_ldrawn : ∀ (mg : Str → Option Value) (h : Heap), K.In h → h.Ns mainGlobals mg → ∃ fd, Def K mg "_law_drawn" sDrawn ["_law_pen_here", "_law_many"] fDn fd)
    (d_lread : ∀ (mg : Str → Option Value) (h : Heap), K.In h → h.Ns mainGlobals mg → ∃ fd, Def K mg "_law_read" sRead ["_law_some"] fRe fd)
    (d_ltold : ∀ (mg : Str → Option Value) (h : Heap), K.In h → h.Ns mainGlobals mg → ∃ fd, Def K mg "_law_told" sTold ["_law_some"] fTo fd)
    (d_lpen : ∀ (mg : Str → Option Value) (h : Heap), K.In h → h.Ns mainGlobals mg → ∃ fd, Def K mg "_law_pen" sPen ["_law_script"] fN fd)
    (d_lright : ∀ (mg : Str → Option Value) (h : Heap), K.In h → h.Ns mainGlobals mg → ∃ fd, Def K mg "_law_right" sRight ["_law_pen_here"] fG fd)
    (d_wo : ∀ (mg : Str → Option Value) (h : Heap), K.In h → h.Ns mainGlobals mg → ∃ fd, Def K mg "words_of" sWordsOf ["letters", "width"] fWO fd ∧ KBinds K fd ["letters", "width"] ["width", "letters"] gSw gSw)
    (d_law : ∀ (mg : Str → Option Value) (h : Heap), K.In h → h.Ns mainGlobals mg → ∃ fd, Def K mg "law" sLaw ["_law_script"] fLaw fd ∧ ∀ (s : Shared) (u : Value), BindsTo s fd ⟨[u], []⟩ [(("_law_script" : Str), u)])
    (aR : PySem.W.nsIn K mainGlobals "reading" = some (some (.ref fR))) (kR : PySem.W.keepIn K (.ref fR) = true) (lR : K.lookup fR = some ⟨oc1, od1, .func (PySem.W.fnOf "reading" "reading" (defArgs sReading) (defBody sReading) (defScope sReading) .none kV1 dc1 pm1 an1 cd1 ct1), sl1⟩) (cR : PySem.W.codeIn K cd1 "reading" = true)
    (aHd : PySem.W.nsIn K mainGlobals "_law_heard" = some (some (.ref fHd))) (kHd : PySem.W.keepIn K (.ref fHd) = true) (lHd : K.lookup fHd = some ⟨oc2, od2, .func (PySem.W.fnOf "_law_heard" "_law_heard" (defArgs sHeard) (defBody sHeard) (defScope sHeard) .none kV2 dc2 pm2 an2 cd2 ct2), sl2⟩) (cHd : PySem.W.codeIn K cd2 "_law_heard" = true)
    (aF : PySem.W.nsIn K mainGlobals "_law_refused_right" = some (some (.ref fF))) (kF : PySem.W.keepIn K (.ref fF) = true) (lF : K.lookup fF = some ⟨oc3, od3, .func (PySem.W.fnOf "_law_refused_right" "_law_refused_right" (defArgs sRef) (defBody sRef) (defScope sRef) .none kV3 dc3 pm3 an3 (.ref c) ct3), sl3⟩) (cF : PySem.W.codeIn K (.ref c) "_law_refused_right" = true) :
    ∃ fd : FuncData, (∀ (s : Shared) (u : Value), BindsTo s fd ⟨[u], []⟩ [(("_law_script" : Str), u)]) ∧ ∀ base : Heap, K.In base → base.Ns mainGlobals mg → LamX.TabB base mg c Pt → FnG P w K mg base CX0 13 fa fd ["_law_script"] (spLaw K Pt) := by
  obtain ⟨fdl, Ul, hbl⟩ := d_law mg h X G
  have e := hfa.symm.trans Ul.g
  cases e
  obtain ⟨dI, u_i⟩ := d_i mg h X G
  obtain ⟨dB, u_b⟩ := d_b mg h X G
  obtain ⟨dH, u_h⟩ := d_h mg h X G
  obtain ⟨dKB, u_kb⟩ := d_kb mg h X G
  obtain ⟨dIW, u_iw⟩ := d_iw mg h X G
  obtain ⟨dIL, u_il⟩ := d_il mg h X G
  obtain ⟨dCW, u_cw⟩ := d_cw mg h X G
  obtain ⟨dSS, u_ss⟩ := d_ss mg h X G
  obtain ⟨dD, u_ldraw⟩ := d_ldraw mg h X G
  obtain ⟨dP, u_lpick⟩ := d_lpick mg h X G
  obtain ⟨dDn, u_ldrawn⟩ := d_ldrawn mg h X G
  obtain ⟨dRe, u_lread⟩ := d_lread mg h X G
  obtain ⟨dTo, u_ltold⟩ := d_ltold mg h X G
  obtain ⟨dN, u_lpen⟩ := d_lpen mg h X G
  obtain ⟨dG, u_lright⟩ := d_lright mg h X G
  obtain ⟨dWO, u_wo, wk⟩ := d_wo mg h X G
  have T : Txw mg := {
    int := PySem.W.mg_none_of X G z_int
    bool := PySem.W.mg_none_of X G z_bool
    str := PySem.W.mg_none_of X G z_str
    len := PySem.W.mg_none_of X G z_len
    range := PySem.W.mg_none_of X G z_range
    isi := PySem.W.mg_none_of X G z_isinstance
    list := PySem.W.mg_none_of X G z_list
    all := PySem.W.mg_none_of X G z_all
    tuple := PySem.W.mg_none_of X G z_tuple
    zip := PySem.W.mg_none_of X G z_zip
    dict := PySem.W.mg_none_of X G z_dict
    any := PySem.W.mg_none_of X G z_any }
  obtain ⟨f0, U0⟩ := d_kept mg h X G
  obtain ⟨dPL, u_pl⟩ := d_pl mg h X G
  have TD : Kone.TxtD mg fD := { int := T.int, len := T.len, abs := PySem.W.mg_none_of X G z_abs, list := T.list }
  have sS := PySem.W.mg_of X G aS
  refine ⟨fdl, hbl, fun base KB GB TB => ?_⟩
  have D0 : Wds P w K mg base S CB CD CW CL CU CM fI fB fH fKB fIW fIL fCW fSS fWO dI dB dH dKB dIW dIL dCW dSS dWO := {
    t := T, dg := ⟨td, PySem.W.mg_of X G aDg⟩, eb := er_of (cB mg h X G) (iB P w mg base T.k U0), i := u_i, b := u_b, h := u_h, kb := u_kb, iw := u_iw }
  have D1 : Wr P w K mg base S CB CD CW CL CU CM fI fB fH fKB fIW fIL fCW fSS fWO dI dB dH dKB dIW dIL dCW dSS dWO := {
    d := D0, ed := erf_of (cD mg h X G) (iD P w mg base T.k U0), ew := erf_of (cW mg h X G) (iW P w mg base T.k U0), el := erf_of (cL mg h X G) (iL P w mg base T.k U0), eu := erf_of (cU mg h X G) (iU P w mg base T.k U0),
    em := er2_of (cM mg h X G) (iM P w mg base T.k U0), il := u_il, cw := u_cw, ss := u_ss, wo := u_wo, pl := ⟨_, _, u_pl⟩ }
  have R : Rdg P w K mg base CW CU CM fR := ⟨PySem.W.mg_of X G aR, kR, ok_Rd D1 lR cR (fun us rest hl => match us, rest, hl with | [], [], _ => rfl | [], _ :: _, _ => rfl)⟩
  have D : Lw P w K mg base S CB CD CW CL CU CM fI fB fH fKB fIW fIL fCW fSS fWO fR fD fP fDn fRe fTo dI dB dH dKB dIW dIL dCW dSS dWO dD dP dDn dRe dTo := {
    r := D1, rd := R, wk := wk, t := TD, d := u_ldraw, p := u_lpick, dn := u_ldrawn, re := u_lread, to := u_ltold }
  have TH : Her K mg S CL CD CW CM CU := {
    s := sS, cL := cL mg h X G, cD := cD mg h X G, cW := cW mg h X G, cM := cM mg h X G, cU := cU mg h X G,
    fL_value := (iL P w mg base T.k U0).no, fD_value := (iD P w mg base T.k U0).no, fW_value := (iW P w mg base T.k U0).no, fM_what := (iM P w mg base T.k U0).n1, fM_most := (iM P w mg base T.k U0).n2, fU_part := (iU P w mg base T.k U0).no,
    nLD := nLD, nLW := nLW, nLM := nLM, nLU := nLU, nDW := nDW, nDM := nDM, nDU := nDU, nWM := nWM, nWU := nWU, nMU := nMU, sL := sL, sD := sD, sW := sW, sM := sM, sU := sU,
    isi := T.isi, ve := PySem.W.mg_none_of X G z_ValueError, rp := PySem.W.mg_none_of X G z_repr, len := T.len }
  have HX : Hx K S CL CD CW CM CU := ⟨xL, xD, xW, xM, xU⟩
  have bHd : Binds K (PySem.W.fnOf "_law_heard" "_law_heard" (defArgs sHeard) (defBody sHeard) (defScope sHeard) .none kV2 dc2 pm2 an2 cd2 ct2) ["_law_ask"] [] := .all (fun us hl => match us, hl with | [_], _ => rfl)
  have bF : Binds K (PySem.W.fnOf "_law_refused_right" "_law_refused_right" (defArgs sRef) (defBody sRef) (defScope sRef) .none kV3 dc3 pm3 an3 (.ref c) ct3) ["_law_pen_here"] [] := .all (fun us hl => match us, hl with | [_], _ => rfl)
  exact ok_law D Ul.F u_lpen u_lright (PySem.W.mg_of X G aF) kF bF (ok_ref D TH HX (PySem.W.mg_of X G aHd) kHd lHd cHd bHd lF cF TB)
end Kre
open PySem PySem.W PyProof.Rows L2 Gd in
set_option maxRecDepth 100000 in
set_option maxHeartbeats 0 in
theorem PySem.Challenge.cw_sumdigits_k04_whole_readings_of_words_holds : PySem.Challenge.rw_sumdigits_k04_whole_readings_of_words.Holds := by
  w_on; o_law; k_head; (case hw => w_witness2)
  k_fill
  refine Gd.walk_atT (l := PySem.Challenge.rw_sumdigits_k04_whole_readings_of_words) (n := 63) (k := 13) (CX := L2.CX0) (sp := fun K => Kre.spLaw K 271) (x := "_law_script") (c := ?cc) (T := 271) rfl (by decide) rfl ⟨rfl, by decide, by decide⟩ (fun w h Y => PySem.W.km_in_of Y) (fun w h Y => PySem.W.km_tabs_of Y 271 (List.mem_singleton.mpr rfl)) (fun w => ?nT) (fun w => ?hC) ?F
    (fun K H a ns hl hT hS => ⟨a, ns, rfl, hS, fun p m => by (rw [List.mem_singleton.mp m]); exact LamX.TabS.nil hT, fun _ => rfl⟩) (fun _ _ _ _ z => z)
  case F =>
    intro w mg fa h KX G hmg
    refine' Kre.all_mk KX G hmg ?aS ?cB ?cD ?cW ?cL ?cU ?cM ?iB ?iD ?iW ?iL ?iU ?iM ?nLD ?nLW ?nLM ?nLU ?nDW ?nDM ?nDU ?nWM ?nWU ?nMU ?sL ?sD ?sW ?sM ?sU ?xL ?xD ?xW ?xM ?xU ?z_int ?z_bool ?z_str ?z_len ?z_range ?z_isinstance ?z_list ?z_all ?z_tuple ?z_zip ?z_abs ?z_dict ?z_any ?d_kept ?d_pl ?z_repr ?z_ValueError ?aDg ?d_i ?d_b ?d_h ?d_kb ?d_iw ?d_il ?d_cw ?d_ss ?d_ldraw ?d_lpick ?d_ldrawn ?d_lread ?d_ltold ?d_lpen ?d_lright ?d_wo ?d_law ?aR ?kR ?lR ?cR ?aHd ?kHd ?lHd ?cHd ?aF ?kF ?lF ?cF
    (case aS => k_is)
    (case cB => refine' Kone.ck_mk ?a ?l ?sa ?exC ?tyC ?kC ?hg ?hk ?hd ?ha ?hn ?ht ?hm; (case a => k_is); (case l => k_is); (case sa => k_is); (case exC => k_is); (case tyC => k_is); (case kC => k_is); (case hg => k_is); (case hk => k_is); (case hd => k_is); (case ha => k_is); (case hn => k_is); (case ht => k_is); (case hm => k_is))
    (case cD => refine' Kone.ck_mk ?a ?l ?sa ?exC ?tyC ?kC ?hg ?hk ?hd ?ha ?hn ?ht ?hm; (case a => k_is); (case l => k_is); (case sa => k_is); (case exC => k_is); (case tyC => k_is); (case kC => k_is); (case hg => k_is); (case hk => k_is); (case hd => k_is); (case ha => k_is); (case hn => k_is); (case ht => k_is); (case hm => k_is))
    (case cW => refine' Kone.ck_mk ?a ?l ?sa ?exC ?tyC ?kC ?hg ?hk ?hd ?ha ?hn ?ht ?hm; (case a => k_is); (case l => k_is); (case sa => k_is); (case exC => k_is); (case tyC => k_is); (case kC => k_is); (case hg => k_is); (case hk => k_is); (case hd => k_is); (case ha => k_is); (case hn => k_is); (case ht => k_is); (case hm => k_is))
    (case cL => refine' Kone.ck_mk ?a ?l ?sa ?exC ?tyC ?kC ?hg ?hk ?hd ?ha ?hn ?ht ?hm; (case a => k_is); (case l => k_is); (case sa => k_is); (case exC => k_is); (case tyC => k_is); (case kC => k_is); (case hg => k_is); (case hk => k_is); (case hd => k_is); (case ha => k_is); (case hn => k_is); (case ht => k_is); (case hm => k_is))
    (case cU => refine' Kone.ck_mk ?a ?l ?sa ?exC ?tyC ?kC ?hg ?hk ?hd ?ha ?hn ?ht ?hm; (case a => k_is); (case l => k_is); (case sa => k_is); (case exC => k_is); (case tyC => k_is); (case kC => k_is); (case hg => k_is); (case hk => k_is); (case hd => k_is); (case ha => k_is); (case hn => k_is); (case ht => k_is); (case hm => k_is))
    (case cM => refine' Kone.ck_mk ?a ?l ?sa ?exC ?tyC ?kC ?hg ?hk ?hd ?ha ?hn ?ht ?hm; (case a => k_is); (case l => k_is); (case sa => k_is); (case exC => k_is); (case tyC => k_is); (case kC => k_is); (case hg => k_is); (case hk => k_is); (case hd => k_is); (case ha => k_is); (case hn => k_is); (case ht => k_is); (case hm => k_is))
    (case iB => refine' Kone.i1_mk (st := inClass (Kre.top 4) 0) ⟨rfl, rfl, rfl, by decide +kernel, rfl, by decide +kernel, by decide +kernel⟩ rfl (Or.inl rfl) (Or.inl rfl) rfl (by decide) (by decide) (fun _ _ _ _ _ _ us hl => match us, hl with | [_, _], _ => rfl) (fun _ _ _ _ _ _ _ _ => rfl) ?a ?t ?l ?c ?k ?no; (case a => k_is); (case t => k_is); (case l => k_is); (case c => k_is); (case k => k_is); (case no => k_is))
    (case iD => refine' Kone.i1_mk (st := inClass (Kre.top 5) 0) ⟨rfl, rfl, rfl, by decide +kernel, rfl, by decide +kernel, by decide +kernel⟩ rfl (Or.inl rfl) (Or.inl rfl) rfl (by decide) (by decide) (fun _ _ _ _ _ _ us hl => match us, hl with | [_, _], _ => rfl) (fun _ _ _ _ _ _ _ _ => rfl) ?a ?t ?l ?c ?k ?no; (case a => k_is); (case t => k_is); (case l => k_is); (case c => k_is); (case k => k_is); (case no => k_is))
    (case iW => refine' Kone.i1_mk (st := inClass (Kre.top 6) 0) ⟨rfl, rfl, rfl, by decide +kernel, rfl, by decide +kernel, by decide +kernel⟩ rfl (Or.inl rfl) (Or.inl rfl) rfl (by decide) (by decide) (fun _ _ _ _ _ _ us hl => match us, hl with | [_, _], _ => rfl) (fun _ _ _ _ _ _ _ _ => rfl) ?a ?t ?l ?c ?k ?no; (case a => k_is); (case t => k_is); (case l => k_is); (case c => k_is); (case k => k_is); (case no => k_is))
    (case iL => refine' Kone.i1_mk (st := inClass (Kre.top 7) 0) ⟨rfl, rfl, rfl, by decide +kernel, rfl, by decide +kernel, by decide +kernel⟩ rfl (Or.inl rfl) (Or.inl rfl) rfl (by decide) (by decide) (fun _ _ _ _ _ _ us hl => match us, hl with | [_, _], _ => rfl) (fun _ _ _ _ _ _ _ _ => rfl) ?a ?t ?l ?c ?k ?no; (case a => k_is); (case t => k_is); (case l => k_is); (case c => k_is); (case k => k_is); (case no => k_is))
    (case iU => refine' Kone.i1_mk (st := inClass (Kre.top 8) 0) ⟨rfl, rfl, rfl, by decide +kernel, rfl, by decide +kernel, by decide +kernel⟩ rfl (Or.inl rfl) (Or.inl rfl) rfl (by decide) (by decide) (fun _ _ _ _ _ _ us hl => match us, hl with | [_, _], _ => rfl) (fun _ _ _ _ _ _ _ _ => rfl) ?a ?t ?l ?c ?k ?no; (case a => k_is); (case t => k_is); (case l => k_is); (case c => k_is); (case k => k_is); (case no => k_is))
    (case iM => refine' Kone.i2_mk (st := inClass (Kre.top 9) 0) ⟨rfl, rfl, rfl, by decide +kernel, rfl, by decide +kernel, by decide +kernel⟩ rfl (Or.inl rfl) (Or.inl rfl) (Or.inl rfl) rfl (by decide) (by decide) (by decide) (by decide) (fun _ _ _ _ _ _ us hl => match us, hl with | [_, _, _], _ => rfl) (fun _ _ _ _ _ _ _ _ _ => rfl) ?a ?t ?l ?c ?k ?n1 ?n2; (case a => k_is); (case t => k_is); (case l => k_is); (case c => k_is); (case k => k_is); (case n1 => k_is); (case n2 => k_is))
    (case nLD => decide)
    (case nLW => decide)
    (case nLM => decide)
    (case nLU => decide)
    (case nDW => decide)
    (case nDM => decide)
    (case nDU => decide)
    (case nWM => decide)
    (case nWU => decide)
    (case nMU => decide)
    (case sL => decide)
    (case sD => decide)
    (case sW => decide)
    (case sM => decide)
    (case sU => decide)
    (case xL => kernel_rfl)
    (case xD => kernel_rfl)
    (case xW => kernel_rfl)
    (case xM => kernel_rfl)
    (case xU => kernel_rfl)
    (case z_int => k_is)
    (case z_bool => k_is)
    (case z_str => k_is)
    (case z_len => k_is)
    (case z_range => k_is)
    (case z_isinstance => k_is)
    (case z_list => k_is)
    (case z_all => k_is)
    (case z_tuple => k_is)
    (case z_zip => k_is)
    (case z_abs => k_is)
    (case z_dict => k_is)
    (case z_any => k_is)
    (case d_kept => refine' Kone.d_mk (st := Kone.sKept) (fun _ _ _ _ _ _ us hl => match us, hl with | [_], _ => rfl) ?a ?l ?c ?k; (case a => k_is); (case l => k_is); (case c => k_is); (case k => k_is))
    (case d_pl => refine' Kre.d_mk (st := Kre.sParted) (fun _ _ _ _ _ _ us hl => match us, hl with | [_, _], _ => rfl) ?a ?l ?c ?k; (case a => k_is); (case l => k_is); (case c => k_is); (case k => k_is))
    (case z_repr => k_is)
    (case z_ValueError => k_is)
    (case aDg => k_is)
    (case d_i => refine' Kre.d_mk (st := Kre.sIsInt) (fun _ _ _ _ _ _ us hl => match us, hl with | [_], _ => rfl) ?a ?l ?c ?k; (case a => k_is); (case l => k_is); (case c => k_is); (case k => k_is))
    (case d_b => refine' Kre.d_mk (st := Kre.sBetw) (fun _ _ _ _ _ _ us hl => match us, hl with | [_, _, _], _ => rfl) ?a ?l ?c ?k; (case a => k_is); (case l => k_is); (case c => k_is); (case k => k_is))
    (case d_h => refine' Kre.d_mk (st := Kre.sHas) (fun _ _ _ _ _ _ us hl => match us, hl with | [_, _], _ => rfl) ?a ?l ?c ?k; (case a => k_is); (case l => k_is); (case c => k_is); (case k => k_is))
    (case d_kb => refine' Kre.d_mk (st := Kre.sCkBase) (fun _ _ _ _ _ _ us hl => match us, hl with | [_], _ => rfl) ?a ?l ?c ?k; (case a => k_is); (case l => k_is); (case c => k_is); (case k => k_is))
    (case d_iw => refine' Kre.d_mk (st := Kre.sIsWord) (fun _ _ _ _ _ _ us hl => match us, hl with | [_, _], _ => rfl) ?a ?l ?c ?k; (case a => k_is); (case l => k_is); (case c => k_is); (case k => k_is))
    (case d_il => refine' Kre.d_mk (st := Kre.sIsLet) (fun _ _ _ _ _ _ us hl => match us, hl with | [_, _, _], _ => rfl) ?a ?l ?c ?k; (case a => k_is); (case l => k_is); (case c => k_is); (case k => k_is))
    (case d_cw => refine' Kre.d_mk (st := Kre.sCkWords) (fun _ _ _ _ _ _ us hl => match us, hl with | [_, _], _ => rfl) ?a ?l ?c ?k; (case a => k_is); (case l => k_is); (case c => k_is); (case k => k_is))
    (case d_ss => refine' Kre.d_mk (st := Kre.sSide) (fun _ _ _ _ _ _ us hl => match us, hl with | [_], _ => rfl) ?a ?l ?c ?k; (case a => k_is); (case l => k_is); (case c => k_is); (case k => k_is))
    (case d_ldraw => refine' Kre.d_mk (st := Kre.sDraw) (fun _ _ _ _ _ _ us hl => match us, hl with | [_, _], _ => rfl) ?a ?l ?c ?k; (case a => k_is); (case l => k_is); (case c => k_is); (case k => k_is))
    (case d_lpick => refine' Kre.d_mk (st := Kre.sPick) (fun _ _ _ _ _ _ us hl => match us, hl with | [_, _], _ => rfl) ?a ?l ?c ?k; (case a => k_is); (case l => k_is); (case c => k_is); (case k => k_is))
    (case d_ldrawn => refine' Kre.d_mk (st := Kre.sDrawn) (fun _ _ _ _ _ _ us hl => match us, hl with | [_, _], _ => rfl) ?a ?l ?c ?k; (case a => k_is); (case l => k_is); (case c => k_is); (case k => k_is))
    (case d_lread => refine' Kre.d_mk (st := Kre.sRead) (fun _ _ _ _ _ _ us hl => match us, hl with | [_], _ => rfl) ?a ?l ?c ?k; (case a => k_is); (case l => k_is); (case c => k_is); (case k => k_is))
    (case d_ltold => refine' Kre.d_mk (st := Kre.sTold) (fun _ _ _ _ _ _ us hl => match us, hl with | [_], _ => rfl) ?a ?l ?c ?k; (case a => k_is); (case l => k_is); (case c => k_is); (case k => k_is))
    (case d_lpen => refine' Kre.d_mk (st := Kre.sPen) (fun _ _ _ _ _ _ us hl => match us, hl with | [_], _ => rfl) ?a ?l ?c ?k; (case a => k_is); (case l => k_is); (case c => k_is); (case k => k_is))
    (case d_lright => refine' Kre.d_mk (st := Kre.sRight) (fun _ _ _ _ _ _ us hl => match us, hl with | [_], _ => rfl) ?a ?l ?c ?k; (case a => k_is); (case l => k_is); (case c => k_is); (case k => k_is))
    (case d_wo => refine' Kre.dw_mk ?a ?l ?c ?k; (case a => k_is); (case l => k_is); (case c => k_is); (case k => k_is))
    (case d_law => refine' Kre.dl_mk ?a ?l ?c ?k; (case a => k_is); (case l => k_is); (case c => k_is); (case k => k_is))
    (case aR => k_is)
    (case kR => k_is)
    (case lR => k_is)
    (case cR => k_is)
    (case aHd => k_is)
    (case kHd => k_is)
    (case lHd => k_is)
    (case cHd => k_is)
    (case aF => k_is)
    (case kF => k_is)
    (case lF => k_is)
    (case cF => k_is)
  case nT => kernel_rfl
  case hC => kernel_rfl
