import PyProof.Rows.All
import Wide.All
import OpenK.AllK
import Wide.FinOn
import HandS.ForMost
import HandS.Exc
import HandS.ExcInit
import HandS.ExcIs
import HandS.IsInst
import HandS.MakeKw
import HandS.MakeKwOnly
import KE.KEqSeq
import KE.KIsAll
import KE.KTryMore
import HandS.ExcValue
import HandS.WordsExc
import HandS.ExcOwn
import HandS.DictComp
import HandS.Zip
import HandS.Star
import KE.GoesMore
import KE.KDictZip
import HandS.Wide
import HandS.Text
import HandS.Flow
import HandS.Walk
import HandS.StrMore
import PyProof.StrLaws
import HandS.WrittenGet
import HandS.Replace
import HandS.Lambda
import PyProof.StrLawsRepr
import PyProof.ReprLen
import HandS.TupMul
import HandS.TupAny
import PyProof.StrOps2
import HandS.EndTab
import HandS.HeadWalk
import KE.KNestM
import KE.KLam
import PySem.Challenge.RW_sumdigits_k76_words_that_are_paired
set_option Elab.async false
set_option linter.all false
set_option maxRecDepth 100000
set_option maxHeartbeats 4000000
namespace Gd
open PySem PySem.Spec PyProof.Rows L2
/-! A promise that is kept where no repr is under way (A.guards = some []). -/
structure FnG (P : Program) (w : World) (K : PySem.W.Frag) (mg : Str → Option Value) (base : Heap) (CX : CXT) (k : Nat) (f : Addr) (fd : FuncData) (ps : List Str) (sp : Sp) : Prop where
  len : ∀ vs H Q E, sp vs H Q E → vs.length = ps.length
  run : ∀ (A : Around) (outer : List Env) (s : Shared) (H : Hp) (args : Args) (us : List Value) (vs : List V) (Q : VK) (E : XK), A.guards = some [] → Room k A → Env0 P w K mg base A outer s H →
    BindsTo s fd args (ps.zip us) → Vals vs us → sp vs H Q E → codeAny (model P w) A (.call (.ref f) args) (CR CX outer P w H s Q E) s
theorem deeper_guards {A : Around} {env : Env} (h : A.guards = some []) : (A.deeper env).guards = some [] := h
section
variable {P : Program} {w : World} {K : PySem.W.Frag} {mg : Str → Option Value} {base : Heap} {CX : CXT}
theorem fnG_of {x qual : Str} {st : Stmt} {f : Addr} {fd : FuncData} {N ps : List Str} {k : Nat} {sp : Sp} (F : Fun K x qual st f fd) (S : FnScope N ps (defScope st))
    (len : ∀ vs H Q E, sp vs H Q E → vs.length = ps.length)
    (body : ∀ (cdv : Value) (A : Around) (outer : List Env) (s : Shared) (H : Hp) (vs : List V) (Q : VK) (E : XK), A.guards = some [] → Room k (A.deeper (envOfC qual (defScope st) s.heap.objs.size f cdv)) → sp vs H Q E →
      ∃ t, PSs (cxOf CX P w K mg base N qual (defScope st) f cdv A outer s H E) (defBody st) t ∧ t { nx := fun _ H' => Q .non H', rt := Q } (start N vs) H) : FnG P w K mg base CX (k + 1) f fd ps sp := by
  obtain ⟨oc, od, kV, doc, pm, an, cdv, ct, osl, rfl, lk, hcd⟩ := F.ex
  constructor
  · exact len
  · intro A outer s H args us vs Q E hG hr e0 hb r hsp
    obtain ⟨t, ht, hq⟩ := body cdv A outer s H vs Q E hG (hr.deeper _) hsp
    have KX : K.In s.heap := e0.mod.kin.keeps fun b o e => (e0.bs b o e).1
    have places : ∀ y ∈ ps.zip us, (defScope st).names.lookup y.1 = some .local ∨ ((defScope st).names.lookup y.1 = some .cell ∧ ((cellsFrom (s.heap.objs.size + 1) (defScope st).names []).lookup y.1).isSome = true) := by
      rintro ⟨n, v⟩ hy
      cases S.par n (List.of_mem_zip hy).1 with
      | inl q => exact .inl q
      | inr q => exact .inr ⟨q, PySem.W.cellsFrom_some _ _ _ (.inl q)⟩
    apply codeAny_call_function hr.depth (KX _ _ lk) rfl S.co S.gen rfl (PySem.W.codeRec_of KX hcd)
    apply hb
    apply wpAny_newFunctionEnv_cells S.kind places
    intro env he s1 x
    subst he
    refine ⟨(e0.mod.nolimit.keeps fun b o e => (e0.bs b o e).1).keeps x.toInCall.keep, codeAny_func ?_⟩
    have I := inv_start (CX := CX) (E := E) S hr.hd e0 (len _ _ _ _ hsp) r x
    apply wpAny_mono (ht.run [] s1 (start N vs) H _ I hq)
    · intro fl s' hs
      cases fl with
      | ret u =>
        obtain ⟨v, σ', H', J, rv, q⟩ := hs
        exact ⟨v, H', J.os, J.bare, J.base, J.hok, rv, q⟩
      | next =>
        obtain ⟨σ', H', J, q⟩ := hs
        exact ⟨.non, H', J.os, J.bare, J.base, J.hok, rfl, q⟩
      | brk => exact (hs.choose_spec.choose_spec.2 : False).elim
      | cont => exact (hs.choose_spec.choose_spec.2 : False).elim
    · intro e s' hs
      exact hs
/-- in the form of the layer's own rule -/
theorem Fun.okG {x qual : Str} {st : Stmt} {f : Addr} {fd : FuncData} {N ps : List Str} {k : Nat} {sp : Sp} (F : Fun K x qual st f fd) (S : FnScope N ps (defScope st)) (len : ∀ vs H Q E, sp vs H Q E → vs.length = ps.length)
    (body : ∀ (cdv : Value) (A : Around) (outer : List Env) (s : Shared) (H : Hp) (vs : List V) (Q : VK) (E : XK), A.guards = some [] → Room k (A.deeper (envOfC qual (defScope st) s.heap.objs.size f cdv)) → sp vs H Q E →
      ∃ t, PSs (cxOf CX0 P w K mg base N qual (defScope st) f cdv A outer s H E).nox (defBody st) t ∧ t { nx := fun _ H' => Q .non H', rt := Q } (start N vs) H) : FnG P w K mg base CX0 (k + 1) f fd ps sp :=
  fnG_of F S len fun cdv A outer s H vs Q E hG hr hsp => by
    obtain ⟨t, h, q⟩ := body cdv A outer s H vs Q E hG hr hsp
    exact ⟨t, h.nox, q⟩
end

/-! ### the law itself, called at the outermost place -/
section
variable {P : Program} {w : World} {K : PySem.W.Frag} {mg mb : Str → Option Value} {CX : CXT} {k : Nat} {fa a : Addr} {fd : FuncData} {x : Str} {sp : Sp} {s : Shared} {vs : List Value} {ns : List Int}
/-- where at most the script's list is tracked, and no written thing is -/
structure Lone (K : PySem.W.Frag) (H : Hp) (a : Addr) : Prop where
  only : Only H
  just : ∀ b u, H b = some u → b = a
  free : ∀ u, H a = some u → K.lookup a = none
theorem Lone.base {H : Hp} (L : Lone K H a) (KX : K.In s.heap) : K.In (hidT s.heap H) := by
  intro b o e
  apply hidT_get (KX b o e)
  match q : H b with
  | none => rfl
  | some u =>
    have eb := L.just b u q
    subst eb
    rw [L.free u q] at e
    exact nomatch e
theorem Lone.names {H : Hp} (L : Lone K H a) {o : Obj} (ha : s.heap.get? a = some o) (hd : ∀ es ep, o.data ≠ .dict es ep) {b : Addr} {m : Str → Option Value} (h : s.heap.Ns b m) : (hidT s.heap H).Ns b m := by
  obtain ⟨ob, es, ep, e, d, r⟩ := h
  refine ⟨ob, es, ep, hidT_get e ?_, d, r⟩
  match q : H b with
  | none => rfl
  | some u =>
    have eb := L.just b u q
    subst eb
    rw [ha] at e
    exact (hd es ep (Option.some.inj e ▸ d)).elim
theorem law_at (KX : K.In s.heap) (hns : s.heap.Ns mainGlobals mg) (hb : s.heap.Ns builtinsNs mb) (hbb : ∀ x : Str, x ≠ "__name__" → mb x = bootBuiltins x) (hlim : s.heap.NoLimit) (hg : s.gens = #[])
    (ha : s.heap.get? a = some { cls := .type "list", data := .seq vs.toArray }) (hr : Room k callerA)
    (F : ∀ base : Heap, K.In base → base.Ns mainGlobals mg → FnG P w K mg base CX k fa fd [x] sp) (hbind : ∀ (s : Shared) (u : Value), BindsTo s fd ⟨[u], []⟩ [(x, u)])
    (hCX : ∀ H e s', CX [] H s (fun _ _ _ => False) e s' → False) {H : Hp} (L : Lone K H a) (hok : HOk P w H s.heap) (hsp : sp [.ref a] H (fun v _ => v = .bl true) fun _ _ _ => False) :
    codeAny (model P w) callerA (.call (.ref fa) ⟨[.ref a], []⟩) (fun r s' => r = .ok (.ret (.bool true)) ∧ OldK s.heap s'.heap ∧ s'.os = s.os ∧ AllBare s'.gens) s := by
  have nd : ∀ (es : Array DictEntry) (ep : Nat), ({ cls := .type "list", data := .seq vs.toArray } : Obj).data ≠ .dict es ep := fun es ep z => nomatch z
  have KB := L.base KX
  have NB := L.names ha nd hns
  have lim : (hidT s.heap H).NoLimit := by
    obtain ⟨m, h1, h2⟩ := hlim
    exact ⟨m, L.names ha nd h1, h2⟩
  have none_in : ∀ b : Addr, b ∉ frs ([] : List Env) := fun b z => nomatch (show b ∈ ([] : List Addr) from z)
  have e0 : Env0 P w K mg (hidT s.heap H) callerA [] s H :=
    { frames := rfl, mod := ⟨KB, NB, ⟨mb, L.names ha nd hb, hbb⟩, lim⟩, bs := fun _ _ e => of_hidT e, bsz := Nat.le_of_eq (hidT_size _ _), funs := trivial, frf := fun b z => absurd z (none_in b), hok := hok, bare := .of_eq hg }
  have go := (F _ KB NB).run callerA [] s H ⟨[.ref a], []⟩ [.ref a] [.ref a] _ _ rfl hr e0 (hbind s (.ref a)) (.cons rfl .nil) hsp
  apply codeAny_mono go
  intro r s' h
  match r, h with
  | .error e, h => exact (hCX H e s' h).elim
  | .ok (.ret u), ⟨v, H', os, bare, un, hok', rv, q⟩ =>
    cases (show v = V.bl true from q)
    cases (show u = Value.bool true from rv)
    refine ⟨rfl, OldK.of_keep fun b o e => ?_, os, bare⟩
    cases L.only b with
    | inl n => exact un.keep b o e n (none_in b) (fun z => nomatch z)
    | inr z =>
      obtain ⟨ob, xs, z⟩ := z
      have e1 : s.heap.get? b = some ob := (show ObjOk P w H s.heap b (.frz ob (.lst xs)) from hok b _ z).1
      have e2 : s'.heap.get? b = some ob := (show ObjOk P w H' s'.heap b (.frz ob (.lst xs)) from hok' b _ (un.frzs b ob _ z)).1
      rw [e1] at e
      rw [e2, ← Option.some.inj e]
  | .ok .next, h => exact (h : False).elim
  | .ok .brk, h => exact (h : False).elim
  | .ok .cont, h => exact (h : False).elim
end
open Classical in
theorem walk_at {l : PySem.W.OpenLaw} {n k : Nat} {q : Program} {loose : List Str} {XP : (Str → Option Value) → Heap → Prop} {YP : World → Heap → Prop} {d : DefRec} {K : Params → PySem.W.Frag} {CX : CXT} {sp : PySem.W.Frag → Sp} {x : Str}
    (hn : l.most = some n) (hn2 : n ≤ sizeLine) (hdf : d.params.defaults = []) (hr : Room k callerA) (hY : ∀ (w : World) (h : Heap), YP w h → (K w.params).In h)
    (F : ∀ (w : World) (mg : Str → Option Value) (fa : Addr) (h : Heap), (K w.params).In h → h.Ns mainGlobals mg → mg d.name = some (.ref fa) →
      ∃ fd : FuncData, (∀ (s : Shared) (u : Value), BindsTo s fd ⟨[u], []⟩ [(x, u)]) ∧
        ∀ base : Heap, (K w.params).In base → base.Ns mainGlobals mg → FnG l.prog w (K w.params) mg base CX k fa fd [x] (sp (K w.params)))
    (hsp : ∀ (K : PySem.W.Frag) (H : Hp) (a : Addr) (ns : List Int), ns.length ≤ n → SqL K H a (ns.map V.int) → sp K [.ref a] H (fun v _ => v = .bl true) fun _ _ _ => False)
    (hCX : ∀ (H : Hp) (s : Shared) (e : Value) (s' : Shared), CX [] H s (fun _ _ _ => False) e s' → False) :
    PySem.W.WalkO q loose XP YP l.row.toRowW d [] (fun f vs => PySem.call f vs) := by
  refine Att.attach_call hn hdf fun w s₀ s₁ mg mb fa o pm cd doc a vs ns G Y ho hd hcd hmg hobj hints hlen hg => ?_
  have KX := hY w _ Y
  obtain ⟨fd, hb, hF⟩ := F w mg fa _ KX G.T.g hmg
  have rv := vals_ints hints
  have lv : vs.length = ns.length := hints.length
  by_cases hk : (K w.params).lookup a = none
  · let sc : HO := .frz { cls := .type "list", data := .seq vs.toArray } (.lst (ns.map V.int))
    have at_a : ∀ {b : Addr} {u : HO}, (if b = a then some sc else none) = some u → b = a ∧ u = sc := by
      intro b u z
      by_cases e : b = a
      · rw [if_pos e] at z
        exact ⟨e, (Option.some.inj z).symm⟩
      · rw [if_neg e] at z
        exact nomatch z
    refine law_at KX G.T.g G.T.b G.T.builtins G.T.nolimit hg hobj hr hF hb (fun H e s' => hCX H s₁ e s') (H := fun b => if b = a then some sc else none) ⟨fun b => ?_, fun b u z => (at_a z).1, fun u z => hk⟩ (fun b u z => ?_) (hsp _ _ a ns hlen (.inl (.inr ⟨_, if_pos rfl⟩)))
    · by_cases e : b = a
      · exact .inr ⟨_, _, if_pos e⟩
      · exact .inl (if_neg e)
    · obtain ⟨e1, e2⟩ := at_a z
      subst e1 e2
      exact ⟨hobj, by rw [List.length_map]; omega, vs, _, rv, hobj⟩
  · obtain ⟨ob, hk⟩ := Option.ne_none_iff_exists'.mp hk
    have e := KX a ob hk
    rw [hobj] at e
    cases e
    have no : ∀ {u : HO}, (none : Option HO) = some u → False := fun z => nomatch z
    exact law_at KX G.T.g G.T.b G.T.builtins G.T.nolimit hg hobj hr hF hb (fun H e s' => hCX H s₁ e s') (H := fun _ => none) ⟨fun b => .inl rfl, fun b u z => (no z).elim, fun u z => (no z).elim⟩ (fun b u z => (no z).elim)
      (hsp _ _ a ns hlen (.inr ⟨_, vs.toArray, _, hk, rfl, rfl, rfl, by rw [List.size_toArray]; omega, by simpa using rv⟩))
end Gd
namespace Gd
open PySem PySem.Spec PyProof.Rows L2
/-! ### repr of data of small depth, dicts among them -/
def Sc : V → PyData → Prop
  | .non, .none => True
  | .bl b, .bool c => b = c
  | .int i, .int j => i = j
  | .str x, .str y => x = y
  | _, _ => False
/-- of depth n at most, v is data d; with true tuples alone -/
def Dq (H : Hp) : Nat → Bool → V → PyData → Prop
  | 0, _, v, d => Sc v d
  | n + 1, b, v, d => Sc v d ∨ (b = false ∧ ∃ (a : Addr) (xs : List V) (ds : List PyData), v = .ref a ∧ d = .list ds ∧ H a = some (.lst xs) ∧ Paired (Dq H n b) xs ds ∧ xs.length ≤ 100) ∨
      (∃ (a : Addr) (xs : List V) (ds : List PyData), v = .ref a ∧ d = .tuple ds ∧ H a = some (.tup xs) ∧ Paired (Dq H n b) xs ds ∧ xs.length ≤ 100) ∨
      (b = false ∧ ∃ (a : Addr) (kvs : List (Key × V)) (kds : List (PyData × PyData)), v = .ref a ∧ d = .dict kds ∧ H a = some (.dK kvs) ∧ Paired (fun (p : Key × V) (q : PyData × PyData) => Sc (kV p.1) q.1 ∧ Dq H n true p.2 q.2) kvs kds ∧ kvs.length ≤ 100 ∧ (kvs.map (·.1)).Nodup)
/-- things that hold nothing -/
def flat : PyData → Bool
  | .none => true
  | .bool _ => true
  | .int _ => true
  | .str _ => true
  | _ => false
/-- data whose lists and tuples hold flat things alone -/
def nice : PyData → Bool
  | .list ds => ds.all flat
  | .tuple ds => ds.all flat
  | .dict _ => true
  | _ => true
theorem flat_noDict : ∀ {ds : List PyData}, ds.all flat = true → PyData.hasDictAll ds = false
  | [], _ => rfl
  | d :: ds, h => by
    rw [List.all_cons, Bool.and_eq_true] at h
    rw [PyData.hasDictAll, flat_noDict h.2]
    cases d <;> first | rfl | (exact absurd h.1 (by decide)) | (exact nomatch h.1)
theorem sc_reads {h : Heap} : ∀ {v : V} {d : PyData} {u : Value}, Sc v d → RelV v u → Reads h u d []
  | .non, .none, u, _, r => by cases (show u = Value.none from r); exact .none
  | .bl b, .bool c, u, e, r => by cases (show u = Value.bool b from r); cases (show b = c from e); exact .bool b
  | .int i, .int j, u, e, r => by obtain ⟨t, q⟩ := (show ∃ t, u = Value.int i t from r); cases q; cases (show i = j from e); exact .int i t
  | .str x, .str y, u, e, r => by obtain ⟨t, q⟩ := (show ∃ t, u = Value.str x t from r); cases q; cases (show x = y from e); exact .str x t
theorem readsAll_of {h : Heap} {R : V → PyData → Prop} {Z : List Addr → Prop} (z0 : Z []) (za : ∀ as bs, Z as → Z bs → Z (as ++ bs)) (f : ∀ v d u, R v d → RelV v u → ∃ as, Reads h u d as ∧ Z as) : ∀ {vs : List V} {ds : List PyData} {us : List Value}, Paired R vs ds → Vals vs us → ∃ as, ReadsAll h us ds as ∧ Z as
  | _, _, _, .nil, .nil => ⟨[], .nil, z0⟩
  | _, _, _, .cons r1 r2, .cons q1 q2 => by
    obtain ⟨as, x, n⟩ := f _ _ _ r1 q1
    obtain ⟨bs, y, m⟩ := readsAll_of z0 za f r2 q2
    exact ⟨_, .cons x y, za _ _ n m⟩
theorem key_reads {h : Heap} {k : Key} {d : PyData} {u : Value} (e : Sc (kV k) d) (q : keyIs k u = true) : Reads h u d [] := by
  rcases keyIs_shape q with ⟨i, t, rfl, rfl⟩ | ⟨x, t, rfl, rfl⟩
  · exact sc_reads e ⟨t, rfl⟩
  · exact sc_reads e ⟨t, rfl⟩
theorem pairs_reads {P : Program} {w : World} {h : Heap} {R : V → PyData → Prop} (f : ∀ v d u, R v d → RelV v u → ∃ as, Reads h u d as ∧ as = []) : ∀ {es : List DictEntry} {vs : List (Key × Value)} {kvs : List (Key × V)} {kds : List (PyData × PyData)},
    Pairs (mixKind P w) es vs → KV kvs vs → Paired (fun (p : Key × V) (q : PyData × PyData) => Sc (kV p.1) q.1 ∧ R p.2 q.2) kvs kds → ReadsAll h (es.map (·.key)) (kds.map (·.1)) [] ∧ ReadsAll h (es.map (·.val)) (kds.map (·.2)) []
  | _, _, _, _, .nil, .nil, .nil => ⟨.nil, .nil⟩
  | _, _, _, _, .cons k1 k2 k3, .cons r1 r2, .cons q1 q2 => by
    obtain ⟨x, y⟩ := pairs_reads f k3 r2 q2
    obtain ⟨e1, e2⟩ := r1
    obtain ⟨cs, z, ec⟩ := f _ _ _ q1.2 e2
    subst ec
    exact ⟨.cons (as := []) (key_reads (k := _) q1.1 (by rw [e1]; exact k1)) x, .cons (as := []) (by dsimp only; rw [k2]; exact z) y⟩
section
variable {X : Cx} {pins : List (Addr × Obj)} {σ : L2.St} {H : Hp} {s : Shared}
theorem dq_reads (I : Inv X pins σ H s) : ∀ (n : Nat) (b : Bool) (v : V) (d : PyData) (u : Value), Dq H n b v d → RelV v u → ∃ as, Reads s.heap u d as ∧ (b = true → as = [])
  | 0, b, v, d, u, e, r => ⟨[], sc_reads e r, fun _ => rfl⟩
  | n + 1, b, v, d, u, e, r => by
    have ih := fun b v d u => dq_reads I n b v d u
    have za : ∀ (b : Bool) (as bs : List Addr), (b = true → as = []) → (b = true → bs = []) → b = true → as ++ bs = [] := fun b as bs h1 h2 e => by rw [h1 e, h2 e]; rfl
    rcases e with e | ⟨e0, a, xs, ds, rfl, rfl, ha, hp, _⟩ | ⟨a, xs, ds, rfl, rfl, ha, hp, _⟩ | ⟨e0, a, kvs, kds, rfl, rfl, ha, hp, _⟩
    · exact ⟨[], sc_reads e r, fun _ => rfl⟩
    · cases (show u = Value.ref a from r)
      obtain ⟨_, its, m, rv, hg⟩ := (show ObjOk X.prog X.w H s.heap a (.lst xs) from I.hok a _ ha)
      obtain ⟨as, x, o⟩ := readsAll_of (fun _ => rfl) (za b) (ih b) hp rv
      exact ⟨_, .list hg rfl rfl x, fun z => by rw [e0] at z; cases z⟩
    · cases (show u = Value.ref a from r)
      obtain ⟨_, its, rv, ob, hg, hc, m, hd⟩ := (show ObjOk X.prog X.w H s.heap a (.tup xs) from I.hok a _ ha)
      obtain ⟨as, x, o⟩ := readsAll_of (fun _ => rfl) (za b) (ih b) hp rv
      exact ⟨_, .tuple hg hc hd x, o⟩
    · cases (show u = Value.ref a from r)
      obtain ⟨_, hs, vs, kv, ob, es, ep, hg, hx, hd, _, hpr, _⟩ := (show ObjOk X.prog X.w H s.heap a (.dK kvs) from I.hok a _ ha)
      obtain ⟨x, y⟩ := pairs_reads (fun v d u q r => let ⟨as, z, e⟩ := ih true v d u q r; ⟨as, z, e rfl⟩) hpr kv hp
      exact ⟨_, .dict hg hx.1 hd x y, fun z => by rw [e0] at z; cases z⟩
/-- nice data: no place of sys.modules among the dicts -/
theorem dq_nice (I : Inv X pins σ H s) {n : Nat} {v : V} {d : PyData} {u : Value} (hn : nice d = true) (e : Dq H n false v d) (r : RelV v u) : ∃ as, Reads s.heap u d as ∧ (d.hasDict = true → sysModules ∉ as) := by
  match n, e with
  | 0, e => exact ⟨[], sc_reads e r, fun _ z => nomatch z⟩
  | n + 1, e =>
    have gen := dq_reads I (n + 1) false v d u e r
    rcases e with e | ⟨e0, a, xs, ds, rfl, rfl, ha, hp, _⟩ | ⟨a, xs, ds, rfl, rfl, ha, hp, _⟩ | ⟨e0, a, kvs, kds, rfl, rfl, ha, hp, _⟩
    · exact ⟨[], sc_reads e r, fun _ z => nomatch z⟩
    · obtain ⟨as, x, _⟩ := gen
      exact ⟨as, x, fun z => by rw [PyData.hasDict, flat_noDict hn] at z; cases z⟩
    · obtain ⟨as, x, _⟩ := gen
      exact ⟨as, x, fun z => by rw [PyData.hasDict, flat_noDict hn] at z; cases z⟩
    · cases (show u = Value.ref a from r)
      obtain ⟨_, hs, vs, kv, ob, es, ep, hg, hx, hd, _, hpr, _⟩ := (show ObjOk X.prog X.w H s.heap a (.dK kvs) from I.hok a _ ha)
      obtain ⟨x, y⟩ := pairs_reads (fun v d u q r => let ⟨as, z, e⟩ := dq_reads I n true v d u q r; ⟨as, z, e rfl⟩) hpr kv hp
      refine ⟨_, .dict hg hx.1 hd x y, fun _ z => ?_⟩
      rcases List.mem_cons.mp z with z | z
      · rw [← z] at hs
        exact absurd hs (by decide)
      · exact nomatch z
/-- the parts of a list of nice data, each by itself -/
theorem parts_shown {P : Program} {w : World} {h : Heap} : ∀ {us : List Value} {ds : List PyData} {as : List Addr}, ReadsAll h us ds as → (∀ (i : Nat) (u : Value) (d : PyData), us[i]? = some u → ds[i]? = some d → ∃ bs, Reads h u d bs ∧ (d.hasDict = true → sysModules ∉ bs)) →
    (∀ d ∈ ds, d.showable = true ∧ d.shown.length ≤ sizeLine) → ∃ bs, ReadAtMost h (PyData.depthAll ds) bs ∧ ReprAllK P w bs h (PyData.depthAll ds) us (PyData.shownAll ds)
  | [], [], _, .nil, _, _ => ⟨[], (fun _ z => nomatch z), ReprAllK.nil⟩
  | u :: us, d :: ds, _, .cons r rs, f, g => by
    obtain ⟨as1, r1, h1⟩ := f 0 u d rfl rfl
    obtain ⟨g1, g2⟩ := g d (List.mem_cons_self ..)
    obtain ⟨b1, m1, k1⟩ := ReprK.of_reads (prog := P) (w := w) r1 g1 h1 g2
    obtain ⟨b2, m2, k2⟩ := parts_shown (P := P) (w := w) rs (fun i u d e1 e2 => f (i + 1) u d e1 e2) (fun d hd => g d (List.mem_cons_of_mem _ hd))
    have l1 : d.depth ≤ PyData.depthAll (d :: ds) := by rw [PyData.depthAll]; exact Nat.le_max_left _ _
    have l2 : PyData.depthAll ds ≤ PyData.depthAll (d :: ds) := by rw [PyData.depthAll]; exact Nat.le_max_right _ _
    refine ⟨b1 ++ b2, (m1.mono l1).append (m2.mono l2), ?_⟩
    rw [PyData.shownAll]
    exact .cons ((k1.more fun b q => List.mem_append_left _ q).level_le l1) (k2.more_le (fun b q => List.mem_append_right _ q) l2)
/-- repr(x), x nice data or a list of such -/
def rRepr : List V → Hp → VK → Prop := fun xs H Q => ∃ (n : Nat) (x : V) (d : PyData), xs = [x] ∧ Dq H n false x d ∧ (nice d = true ∨ ∃ ds, d = .list ds ∧ ds ≠ [] ∧ ∀ e ∈ ds, nice e = true ∧ e.showable = true ∧ e.shown.length ≤ sizeLine) ∧ d.showable = true ∧ d.shown.length ≤ sizeLine ∧ d.depth ≤ 60 ∧ Q (.str d.shown) H
theorem call_repr (hG : X.A.guards = some []) (hu : X.A.units + 64 < cLine) : CallR X (.builtin "repr") rRepr := by
  intro pins s σ H xs us Q I r h
  obtain ⟨n, x, d, rfl, hd, hc, hs, hz, hp, q⟩ := h
  cases r with
  | cons r1 r2 =>
    cases r2
    rename_i u
    have out : ∀ (h' : Heap) (t : Tok) (tk : Nat), (∀ b o, s.heap.get? b = some o → h'.get? b = some o) → EP X pins σ Q (.str d.shown t) { s with heap := h', toks := tk } := fun h' t tk hk => ⟨.str d.shown, H, I.kept (t' := tk) hk, ⟨t, rfl⟩, q⟩
    rcases hc with hn | ⟨ds, rfl, ne, hn⟩
    · obtain ⟨as, rd, hno⟩ := dq_nice I hn hd r1
      cases rd with
      | none => exact PySem.P.repr_of_none (out s.heap _ _ fun _ _ e => e)
      | bool b => exact PySem.P.repr_of_bool (by simpa only [PyData.shown] using out s.heap _ _ fun _ _ e => e)
      | int i t => exact PySem.P.repr_of_int (by simpa only [PyData.showable, decide_eq_true_eq] using hs) (by simpa only [PyData.shown] using out s.heap s.toks (s.toks + 1) fun _ _ e => e)
      | str z t => exact PySem.P.repr_of_str (by simpa only [PyData.shown] using out s.heap s.toks (s.toks + 1) fun _ _ e => e) (by simpa only [PyData.shown] using hz)
      | list a b c e => exact repr_of_reads' (.list a b c e) hs hno hG (by omega) (fun _ _ e => e) (fun h' t tk hk => out h' t tk hk) hz
      | tuple a b c e => exact repr_of_reads' (.tuple a b c e) hs hno hG (by omega) (fun _ _ e => e) (fun h' t tk hk => out h' t tk hk) hz
      | dict a b c e f => exact repr_of_reads' (.dict a b c e f) hs hno hG (by omega) (fun _ _ e => e) (fun h' t tk hk => out h' t tk hk) hz
    · match n, hd with
      | 0, hd => exact (show False by cases x <;> exact hd).elim
      | n + 1, hd =>
        rcases hd with e | ⟨_, a, ys, ds', rfl, e, ha, hpr, _⟩ | ⟨_, _, _, _, e, _⟩ | ⟨_, _, _, _, _, e, _⟩
        · exact (show False by cases x <;> exact e).elim
        · cases e
          cases (show u = Value.ref a from r1)
          obtain ⟨_, its, m, rv, hg⟩ := (show ObjOk X.prog X.w H s.heap a (.lst ys) from I.hok a _ ha)
          obtain ⟨as, rd, _⟩ := readsAll_of (Z := fun _ => True) True.intro (fun _ _ _ _ => True.intro) (fun v d u q r => let ⟨as, z, _⟩ := dq_reads I n false v d u q r; ⟨as, z, True.intro⟩) hpr rv
          have each : ∀ {ys : List V} {ds : List PyData} {its : List Value}, Paired (Dq H n false) ys ds → Vals ys its → (∀ e ∈ ds, nice e = true) → ∀ (i : Nat) (u : Value) (d : PyData), its[i]? = some u → ds[i]? = some d → ∃ bs, Reads s.heap u d bs ∧ (d.hasDict = true → sysModules ∉ bs) := by
            intro ys ds its p
            induction p generalizing its with
            | nil => intro _ _ i u d _ e2; simp at e2
            | cons q t ih =>
              intro rv hn i u d e1 e2
              cases rv with
              | cons w1 w2 =>
                cases i with
                | zero =>
                  cases e1
                  cases e2
                  exact dq_nice I (hn _ (List.mem_cons_self ..)) q w1
                | succ i => exact ih w2 (fun e he => hn e (List.mem_cons_of_mem _ he)) i u d (by simpa using e1) (by simpa using e2)
          obtain ⟨bs, hb, hk⟩ := parts_shown (P := X.prog) (w := X.w) rd (each hpr rv fun e he => (hn e he).1) (fun e he => (hn e he).2)
          have whole : Reads s.heap (.ref a) (.list ds) _ := .list hg rfl rfl rd
          have dp : (PyData.list ds).depth = PyData.depthAll ds + 1 := by rw [PyData.depth]
          have away : a ∉ bs := not_mem_of_deeper whole (by rw [dp]; omega) hb
          have hz2 : (listText (PyData.shownAll ds)).length ≤ sizeLine := by simpa only [PyData.shown] using hz
          have ty : s.TypeIs (.ref a) "list" := ⟨_, hg, rfl⟩
          refine call_repr_slot (by omega) ty F.slot_list_repr.toG ?_
          cases its with
          | nil =>
            cases rd
            exact absurd rfl ne
          | cons u1 its =>
            refine call_list_reprK hg rfl rfl away (by simpa using hk.length_eq) (fun i y e => hk.item i y (by simpa using e)) hG (fun b _ => Clear.nil b) (by rw [dp] at hp; show X.A.units + 1 + _ < cLine; omega) (fun _ _ e => e) (fun h' t tk hk => ?_) hz2
            refine ⟨_, _, rfl, ?_⟩
            have z := out h' t tk hk
            simpa only [PyData.shown] using z
        · cases e
        · cases e
end
end Gd
namespace Gd
open PySem PySem.Spec PyProof.Rows L2 PySem.HandSPX Builtin Builtin.ObjectAttr
/-! ### an exception class of one's own called with keywords, too -/
section
variable {prog : Program} {w : World} {A : Around} {E : Value → Shared → Prop} {R : Result → Shared → Prop} {h : Heap} {g : Array GenState} {d : Drawn} {t : Nat} {os : OsState}
variable {nm q : Str} {C N : Addr} {bs bm bmB : List Value} {hdct : Bool} {sn : List Str} {sub : List Value} {ab : Bool} {col : Option Bool} {dd : Option Addr} {k0 k1 k2 k3 k5 : Option Value} {B newId initId : String}
  {rest : List Value} {kw : List (Str × Value)}
theorem kw_check {M : Model} (F : ExcBaseFacts B newId initId bmB) (same : ∀ X : String, bm.contains (.type X) = bmB.contains (.type X)) {Q : Unit → Shared → Prop}
    (hC : h.get? C = some (excClassObj nm q C N bs bm hdct sn sub ab col dd k0 k1 k2 k3 k5 newId)) (hq : Q () ⟨h, g, d, t, os⟩) : wpAny M A (checkBuiltinCall newId ⟨.ref C :: rest, kw⟩) Q E ⟨h, g, d, t, os⟩ := by
  have below : (Value.ref C :: bm).contains (.type B) = true := by simp only [List.contains_cons, same, F.hasB, Bool.or_true]
  have star := F.noStar
  simp only [checkBuiltinCall, F.newSplit, F.newKind, F.newRow]
  repeat first
    | refine wpAny_staticBase_exc hC ?_
    | refine wpAny_madeBy_exc hC ?_
    | (refine wpAny_isSubtype_exc hC ?_; rw [below])
    | refine wpAny_loadPart_at hC ?_
    | simp only [Bool.false_eq_true, bne_self_eq_false, if_false]
    | wp_step
  exact hq
theorem kw_new (F : ExcBaseFacts B newId initId bmB) (same : ∀ X : String, bm.contains (.type X) = bmB.contains (.type X)) (hC : h.get? C = some (excClassObj nm q C N bs bm hdct sn sub ab col dd k0 k1 k2 k3 k5 newId)) (hl : rest.length ≤ sizeLine)
    (hq : R (.ok (.ret (.ref (h.objs.size + 1)))) ⟨(h.push (PySem.W.kdv_tup rest)).push (excO C h.objs.size), g, d, t, os⟩) :
    codeAny (model prog w) A (.builtin newId ⟨.ref C :: rest, kw⟩) R ⟨h, g, d, t, os⟩ := by
  have ends := F.ends
  have isB : (Value.ref C :: bm).contains (.type B) = true := by simp only [List.contains_cons, same, F.hasB, Bool.or_true]
  have notA : (Value.ref C :: bm).contains (.type "AttributeError") = false := by simp only [List.contains_cons, same, F.noAttr, Bool.or_false]; rfl
  have notN : (Value.ref C :: bm).contains (.type "NameError") = false := by simp only [List.contains_cons, same, F.noName, Bool.or_false]; rfl
  apply codeAny_builtinAt F.entry
  unfold Builtin.«BaseException.__new__»
  refine PySem.wpAt_bind ?_
  show PySem.wpAt _ _ _ (stack >>= _) _ _ _
  refine PySem.wpAt_bind ?_
  refine PySem.wpAt_stack fun p below => ?_
  apply PySem.wpAt_of_wpAny
  wp_walk
  apply PySem.wpAt_of_wpAny
  rw [F.owner]
  repeat first
    | with_reducible refine wpAny_loadPart_at hC ?_
    | with_reducible refine wpAny_madeHere_exc F.canon hC ?_
    | (with_reducible refine wpAny_isSubtype_exc hC ?_; first | rw [notN] | rw [notA] | rw [isB])
    | wp_step
  show R _ _
  rw [Heap.size_push]
  exact hq
/-- C(*rest, **kw): the new exception, then C's own __init__ over it -/
theorem kw_make (F : ExcBaseFacts B newId initId bmB) (same : ∀ X : String, bm.contains (.type X) = bmB.contains (.type X)) {fI : Addr} (hC : h.get? C = some (excClassObj nm q C N bs bm hdct sn sub ab col dd k0 k1 k2 k3 k5 newId)) (hl : rest.length ≤ sizeLine)
    (hi : PySem.W.Looks (model prog w) h (typeLookup (.ref C) "__init__") (some (.ref fI))) (hb : ∀ self, PySem.W.Looks (model prog w) h (bindSpecial (.ref fI) self) (.ref fI, [self]))
    (hq : codeAny (model prog w) (A.under (.builtin "type.__call__" ⟨.ref C :: rest, kw⟩)) (.call (.ref fI) ⟨.ref (h.objs.size + 1) :: rest, kw⟩) (PySem.W.InitBack (h.objs.size + 1) R)
      ⟨(h.push (PySem.W.kdv_tup rest)).push (excO C h.objs.size), g, d, t, os⟩) :
    codeAny (model prog w) A (.call (.ref C) ⟨rest, kw⟩) R ⟨h, g, d, t, os⟩ := by
  have f1 := tc_lookup
  have f2 := tc_bind (.ref C)
  have ty : (⟨h, g, d, t, os⟩ : Shared).TypeIs (.ref C) "type" := ⟨_, hC, rfl⟩
  have old : ∀ b o, h.get? b = some o → ((h.push (PySem.W.kdv_tup rest)).push (excO C h.objs.size)).get? b = some o := fun b o e => Heap.get?_push_of_some _ (Heap.get?_push_of_some _ e)
  have new : ((h.push (PySem.W.kdv_tup rest)).push (excO C h.objs.size)).get? (h.objs.size + 1) = some (excO C h.objs.size) := by heap_get
  have mine : (Value.ref C :: bm).contains (.ref C) = true := by simp only [List.contains_cons, beq_self_eq_true, Bool.true_or]
  apply codeAny_of_tree
  show wpAny _ _ (callAny (.ref C) _) _ _ _
  repeat any_goals first
    | assumption
    | with_reducible refine wpAny_loadPart_at hC ?_
    | wp_step
  refine ⟨rfl, ?_⟩
  apply codeAny_call_builtin_at (Code.quiet_builtin _ (by decide +kernel)) entry_typeCall
  apply wpAny_check_type_call_sub hC
  repeat first
    | with_reducible refine wpAny_madeBy_exc hC ?_
    | with_reducible refine wpAny_loadPart_at hC ?_
    | wp_step
  apply codeAny_call_builtin_code (Code.quiet_builtin _ F.quiet)
  apply kw_check F same hC
  apply kw_new F same hC hl
  show wpAny _ _ _ _ _ _
  have hC1 := old _ _ hC
  unfold isInstance
  repeat first
    | with_reducible refine wpAny_loadPart_at new ?_
    | (with_reducible refine wpAny_isSubtype_exc hC1 ?_; rw [mine])
    | wp_step
  show wpAny _ _ (typeLookup (.ref C) _) _ _ _
  apply (hi.keeps old).at
  apply wpAny_holding
  apply wpAny_bind
  apply ((hb (.ref (h.objs.size + 1))).keeps old).at
  apply wpAny_bind
  apply wpAny_call
  apply codeAny_mono hq
  intro r s' z
  match r, z with
  | .error e, z => exact z
  | .ok (.ret v), z =>
    obtain ⟨ev, y⟩ := (show v = Value.none ∧ R (.ok (.ret (.ref (h.objs.size + 1)))) s' from z)
    subst ev
    wp_walk
    exact y
  | .ok .next, z => exact (z : False).elim
  | .ok .brk, z => exact (z : False).elim
  | .ok .cont, z => exact (z : False).elim
end
end Gd
namespace Gd
open PySem PySem.Spec PyProof.Rows L2
theorem pe_weak {X : Cx} {e : Expr} {t t' : TE} (h : PE X e t) (f : ∀ σ H Q, t' σ H Q → t σ H Q) : PE X e t' := ⟨fun pins s σ H Q I q => h.run pins s σ H Q I (f σ H Q q)⟩
/-- at a: an exception of the class at C with these fields -/
def ExAt (H : Hp) (a C : Addr) (fs : List (Str × V)) : Prop := ∃ d, H a = some (exo a C (some d)) ∧ H d = some (exd d fs)
theorem ExAt.same {H H' : Hp} {a C : Addr} {fs : List (Str × V)} (x : ExAt H a C fs) (s : Same H H') : ExAt H' a C fs := by
  obtain ⟨d, h1, h2⟩ := x
  exact ⟨d, s _ _ h1, s _ _ h2⟩
/-- C(.., k = ..) as a value; C's own __init__ keeps sp -/
def tMkX (C : Addr) (sp : Sp) (gV : List V → List V → List V) (t tk : TA) : TE := fun σ H Q => t σ H fun vs H1 => tk σ H1 fun zs H2 => vs.length ≤ 1000 ∧ ∀ a, H2 a = none →
  sp (gV (.ref a :: vs) zs) (upd H2 a (exo a C none)) (fun v H3 => v = .non ∧ Q (.ref a) H3) (fun _ _ _ => False)
section
variable {X : Cx} {CX : CXT} {k : Nat} {fI C : Addr} {fd : FuncData} {ps ks : List Str} {sp : Sp} {x : Str} {p pos : Pos} {e : Expr} {es : List Expr} {kws : List Keyword} {t tk : TA} {g : List Value → List Value → List Value} {gV : List V → List V → List V}
theorem run_mkX {pins : List (Addr × Obj)} {σ : L2.St} {H : Hp} {s : Shared} {Q : VK} {us ws : List Value} {vs zs : List V} (T : OexC X.K C) (iC : PySem.W.findIn X.K (.ref C) "__init__" = some (some (.ref fI)))
    (tI : PySem.W.typeIn X.K (.ref fI) = some (.type "function")) (F1 : FnOk X.prog X.w X.K X.mg X.base CX k fI fd ps sp) (hr : Room (k + 1) X.A) (hb : KBinds X.K fd ps ks g gV) (hx : Passes CX X (fun _ _ _ => False))
    (I : Inv X pins σ H s) (r : Vals vs us) (rz : Vals zs ws) (hl : vs.length ≤ 1000)
    (h : ∀ a, H a = none → sp (gV (.ref a :: vs) zs) (upd H a (exo a C none)) (fun v H3 => v = .non ∧ Q (.ref a) H3) (fun _ _ _ => False)) :
    wpAny (model X.prog X.w) X.A (call (.ref C) us (ks.zip ws)) (EP X pins σ Q) X.xe s := by
  obtain ⟨nm, q, N, bs, bm, sn, sub, ab, col, dd, k0, k1, k2, k3, k5, hC, hbm⟩ := T.cls
  obtain ⟨hp, gs, dr, n, os⟩ := s
  have more : hp.objs.size ≤ hp.objs.size + 1 := Nat.le_succ _
  have hq := h (hp.objs.size + 1) (I.hok.fresh more)
  have new : ((hp.push (PySem.W.kdv_tup us)).push (PySem.HandSPX.excO C hp.objs.size)).get? (hp.objs.size + 1) = some (PySem.HandSPX.excO C hp.objs.size) := by heap_get
  have J : Inv X pins σ (upd H (hp.objs.size + 1) (exo (hp.objs.size + 1) C none)) ⟨(hp.push (PySem.W.kdv_tup us)).push (PySem.HandSPX.excO C hp.objs.size), gs, dr, n, os⟩ :=
    I.laid (t' := n) (a := hp.objs.size + 1) (o := exo (hp.objs.size + 1) C none) (fun b o e => Heap.get?_push_of_some _ (Heap.get?_push_of_some _ e)) more (exo_ok new)
  have r1 : Vals (V.ref (hp.objs.size + 1) :: vs) (Value.ref (hp.objs.size + 1) :: us) := .cons rfl r
  have r2 := hb.rel r1 rz
  have len : (g (Value.ref (hp.objs.size + 1) :: us) ws).length = ps.length := by rw [← r2.length]; exact F1.len _ _ _ _ hq
  have lus : us.length ≤ sizeLine := by rw [← r.length, sizeLine_eq]; omega
  apply wpAny_call
  apply kw_make PySem.F.excBase_ValueError (fun Y => PySem.HandSPX.refsVE_contains Y bm hbm) (I.kIn _ _ hC) lus (PySem.W.looks_findIn I.kIn iC) (fun self => PySem.W.bind_fn I.kIn self tI)
  apply codeAny_mono (F1.run _ X.stack _ _ ⟨Value.ref (hp.objs.size + 1) :: us, ks.zip ws⟩ _ _ _ _ (hr.make C us (ks.zip ws)) (J.env0.make C us (ks.zip ws)) (hb.to _ (Value.ref (hp.objs.size + 1) :: us) ws J.kIn len) r2 hq)
  intro z s' hz
  match z, hz with
  | .error er, hz => exact hx pins σ _ _ er s' J hz
  | .ok (.ret u), hz =>
    obtain ⟨v, H', I3, rv, ev, q3⟩ := J.after hz
    subst ev
    exact ⟨rv, .ref (hp.objs.size + 1), H', I3, rfl, q3⟩
  | .ok .next, hz => exact (hz : False).elim
  | .ok .brk, hz => exact (hz : False).elim
  | .ok .cont, hz => exact (hz : False).elim
theorem pe_mkX (T : OexC X.K C) (iC : PySem.W.findIn X.K (.ref C) "__init__" = some (some (.ref fI))) (tI : PySem.W.typeIn X.K (.ref fI) = some (.type "function")) (F1 : FnOk X.prog X.w X.K X.mg X.base CX k fI fd ps sp) (hr : Room (k + 1) X.A)
    (hb : KBinds X.K fd ps [] g gV) (hx : Passes CX X (fun _ _ _ => False)) (hg : Gl X x) (hm : X.mg x = some (.ref C)) (ha : PA X (e :: es) t)
    (hdb : (x == ("__debug__" : Str)) = false := by decide) (he : starEach (e :: es) X.env = (false, eval e X.env) :: starEach es X.env := by rfl) (hpl : (backTo pos (starEach es X.env)).any (·.1) = false := by rfl) :
    PE X (.Call (.Name x p) (e :: es) [] pos) (tMkX C sp gV t tNil) := by
  constructor
  intro pins s σ H Q I h
  apply wpAny_Call_Name_kw
  apply ld_glob I hg hm ?_ hdb
  refine PySem.W.callWith_K (h₀ := X.base) I.ok.mod.kin T.kC (thn (ha.run pos pins s σ H _ I h) ?_) he hpl
  intro us s1 ⟨vs, H1, I1, r, l, q⟩
  exact ⟨I1.kIn, run_mkX (ws := []) T iC tI F1 hr hb hx I1 r .nil l q⟩
theorem pe_mkXK (T : OexC X.K C) (iC : PySem.W.findIn X.K (.ref C) "__init__" = some (some (.ref fI))) (tI : PySem.W.typeIn X.K (.ref fI) = some (.type "function")) (F1 : FnOk X.prog X.w X.K X.mg X.base CX k fI fd ps sp) (hr : Room (k + 1) X.A)
    (hb : KBinds X.K fd ps ks g gV) (hx : Passes CX X (fun _ _ _ => False)) (hg : Gl X x) (hm : X.mg x = some (.ref C)) (hkw : PK X kws tk)
    (hall : (backToKw pos (keywordEach kws X.env)).all (·.1.isSome) = true := by rfl) (hks : (backToKw pos (keywordEach kws X.env)).filterMap (·.1) = ks := by rfl) (hdb : (x == ("__debug__" : Str)) = false := by decide)
    (hpl : ((backTo pos (starEach [] X.env)).any (·.1) || (backToKw pos (keywordEach kws X.env)).any (·.1.isNone)) = false := by rfl) :
    PE X (.Call (.Name x p) [] kws pos) (tMkX C sp gV tNil tk) := by
  constructor
  intro pins s σ H Q I h
  apply wpAny_Call_Name_kw
  apply ld_glob I hg hm ?_ hdb
  refine PySem.W.callWith_KW0 (h₀ := X.base) I.ok.mod.kin T.kC hall ?_ hpl
  refine thn (hkw.run pos pins s σ H _ I h) ?_
  intro ws s2 ⟨zs, H2, I2, rz, l, q2⟩
  refine ⟨I2.kIn, ?_⟩
  rw [hks]
  exact run_mkX (us := []) T iC tI F1 hr hb hx I2 .nil rz l q2
end
end Gd
namespace Gd
open PySem PySem.Spec PySem.Calls PyProof.Rows PySem.W
/-! ### isinstance of an exception that may have attributes -/
section
variable {prog : Program} {w : World} {A : Around} {E : Value → Shared → Prop} {s : Shared} {K : Frag} {x D : Addr} {ox : Obj} {od : Option Obj}
theorem class_found (T : L2.ExcC K D) : findObj K D od "__class__" = some (.bind (.builtin "getset_descriptor.__get__") (.builtin "object.__class__")) := by
  obtain ⟨cd, hc, _⟩ := any_some T.hd
  unfold findObj
  simp [hc, T.ha, T.hn, T.ht]
theorem class_asked (T : L2.ExcC K D) {Q : Option Value → Shared → Prop} (X : K.In s.heap) (I : InstAt s.heap x ox D od) (h : Q (some (.ref D)) { s with toks := s.toks + 1 }) : wpAny (model prog w) A (getAttr? (.ref x) "__class__") Q E s := by
  obtain ⟨hp, g, d, t, os⟩ := s
  have ty := I.type (M := model prog w)
  have found := looks_find (M := model prog w) X I (class_found T)
  have get := looks_findIn (M := model prog w) X T.hg
  have none_else := looks_findIn (M := model prog w) X T.hk
  have below : Looks (model prog w) hp (isInstance (.ref x) (.type "BaseException")) true := ty.andThen (looks_subIn X T.hs)
  have ne : (Value.builtin "BaseException.__getattribute__" == Value.builtin "object.__getattribute__") = false := by decide +kernel
  have n1 : (onTheHeap (Value.ref D) && Value.builtin "BaseException.__getattribute__" == Value.builtin "object.__getattribute__") = false := by rw [ne]; rfl
  have n2 : (false && onTheHeap (Value.builtin "BaseException.__getattribute__")) = false := rfl
  unfold getAttr? getAttrBy? getAttrBy
  apply wpAny_bind
  apply wpAny_mkText
  apply wpAny_bind
  apply wpAny_attempt
  apply wpAny_holding
  apply wpAny_bind
  apply ty.at
  apply wpAny_bind
  apply get.at
  show wpAny _ _ (if (onTheHeap (Value.ref D) && Value.builtin "BaseException.__getattribute__" == Value.builtin "object.__getattribute__") = true then _ else _) _ _ _
  rw [n1, if_neg Bool.false_ne_true]
  unfold getAttrByItsOwn hookBefore
  apply wpAny_bind
  rw [if_pos (show onTheHeap (Value.ref D) = true from rfl)]
  apply none_else.at
  apply wpAny_bind
  apply wpAny_attempt
  apply wpAny_holding
  unfold callGetattribute
  rw [n2, if_neg Bool.false_ne_true]
  unfold boundAndCalled
  rw [PySem.F.excAttr_ValueError.ga.bind (.ref x)]
  apply wpAny_bind
  apply wpAny_pure
  show wpAny _ _ (call (.builtin "BaseException.__getattribute__") [.ref x, .str "__class__" t]) _ _ _
  apply wpAny_call
  apply codeAny_call_builtin PySem.F.excAttr_ValueError.ga.plain PySem.F.entry_bexc_ga
  apply @check_slot (model prog w) _ _ ⟨hp, g, d, t + 1, os⟩ "BaseException.__getattribute__" "BaseException" "__getattribute__" (.ref x) [.str "__class__" t] [] _ (by decide +kernel) (by decide +kernel) below (PySem.F.args_bexc_ga (.ref x) (.str "__class__" t))
  unfold Builtin.«object.__getattribute__»
  apply wpAny_bind
  apply wpAny_of_eq (a := ((Value.ref x : Value), [Value.str "__class__" t])) (by first | rfl | (simp only [slotArgs]; rfl))
  apply wpAny_bind
  apply wpAny_pure
  apply wpAny_bind
  apply ty.at
  apply wpAny_bind
  apply found.at
  show wpAny _ _ (holding [Value.builtin "object.__class__"] (call (.builtin "getset_descriptor.__get__") [.builtin "object.__class__", .ref x, .ref D]) >>= ret) _ _ _
  apply wpAny_bind
  apply wpAny_holding
  apply wpAny_call
  apply class_get (s := ⟨hp, g, d, t + 1, os⟩) (ox := ox) (od := od) X I T.hm
  apply wpAny_pure
  show wpAny _ _ (handedOut (.ref D)) _ _ _
  rw [handedOut_of (v := .ref D) rfl]
  first
    | exact wpAny_pure (wpAny_pure h)
    | exact wpAny_pure h
    | exact wpAny_pure (wpAny_bind (wpAny_pure (wpAny_pure h)))
theorem kitx_of (T : L2.ExcC K D) : KitX K (.ref x) (.ref D) (fun h => ∃ (ox : Obj) (od : Option Obj), InstAt h x ox D od) := by
  have part : ∃ (c : Value) (d' : Option Addr) (cd' : ClassData) (sl' : Array (Option Value)), K.lookup D = some ⟨c, d', .cls cd', sl'⟩ := by
    obtain ⟨cd, hc, _⟩ := any_some T.hd
    unfold clsIn at hc
    split at hc
    · rename_i c' d' cd' sl' ho
      exact ⟨c', d', cd', sl', ho⟩
    · cases hc
  obtain ⟨c', d', cd', sl', ho⟩ := part
  constructor
  · intro _ _ _ ⟨ox, od, I⟩
    exact I.type
  · intro M h X _ A' Q' E' s' k q
    unfold isType loadHead
    exact wpAny_bind (wpAny_loadPart (k _ _ (X _ _ ho)) (wpAny_pure q))
  · intro h tp dd its n sl X htp
    cases e : ((Value.ref D) == .ref tp) with
    | false => rfl
    | true =>
      have e' : D = tp := Value.ref.inj (beq_iff_eq.mp e)
      subst e'
      exact nomatch (X _ _ ho).symm.trans htp
  · intro _ _ _ _ _ _ X ⟨ox, od, I⟩ q
    exact class_asked T X I q
end
end Gd
namespace Gd
open PySem PySem.Spec PyProof.Rows L2
/-- at a: an exception of the class at D -/
def XAt (H : Hp) (a D : Addr) : Prop := (∃ fs, ExAt H a D fs) ∨ H a = some (exo a D none)
theorem XAt.same {H H' : Hp} {a D : Addr} (x : XAt H a D) (s : Same H H') : XAt H' a D := by
  rcases x with ⟨fs, x⟩ | x
  · exact .inl ⟨fs, x.same s⟩
  · exact .inr (s _ _ x)
section
variable {X : Cx} {pins : List (Addr × Obj)} {σ : L2.St} {H : Hp} {s : Shared}
theorem xat_inst (I : Inv X pins σ H s) {a D : Addr} (x : XAt H a D) : ∃ (ox : Obj) (od : Option Obj), PySem.W.InstAt s.heap a ox D od := by
  rcases x with ⟨fs, d, h1, h2⟩ | h1
  · obtain ⟨t1, ho⟩ := exo_at I.hok h1
    obtain ⟨mA, hn, _⟩ := exd_at I.hok h2
    obtain ⟨o, _, _, e, _⟩ := hn
    exact ⟨_, some o, ho, rfl, rfl, e⟩
  · obtain ⟨t1, ho⟩ := exo_at I.hok h1
    exact ⟨_, none, ho, rfl, rfl, trivial⟩
/-- isinstance(e, c), e an exception held as a value -/
def rIsX (K : PySem.W.Frag) : List V → Hp → VK → Prop := fun xs H Q => ∃ (a D : Addr) (c : V) (cv : Value) (b : Bool), xs = [.ref a, c] ∧ XAt H a D ∧ ClsV c cv ∧ ExcC K D ∧ PySem.W.kitOne K (.ref D) cv = some b ∧ Q (.bl b) H
theorem call_isX : CallR X (.builtin "isinstance") (rIsX X.K) := by
  intro pins s σ H xs us Q I r h
  obtain ⟨a, D, c, cv, b, rfl, hx, hc, T, e, q⟩ := h
  obtain ⟨u1, u2, rfl, r1, r2⟩ := vals2 r
  cases (show u1 = Value.ref a from r1)
  have e2 := hc.eq r2
  subst e2
  exact PySem.W.kia_one (kitx_of T) I.kIn (xat_inst I hx) e (fun z => nomatch z) fun tk => ⟨.bl b, H, I.tok tk, rfl, q⟩
/-- e.f, e an exception held as a value -/
def tXf (K : PySem.W.Frag) (f : Str) (te : TE) : TE := fun σ H Q => te σ H fun x H1 => ∃ (a C : Addr) (fs : List (Str × V)) (v : V), x = .ref a ∧ ExAt H1 a C fs ∧ ExcC K C ∧ PySem.W.findIn K (.ref C) f = some none ∧ fs.lookup f = some v ∧ Q v H1
theorem pe_xf {e : Expr} {te : TE} {f : Str} {pos : Pos} (he : PE X e te) (hb : attributeBase e f X.env (eval e X.env) = eval e X.env := by rfl) : PE X (.Attribute e f pos) (tXf X.K f te) := by
  constructor
  intro pins s σ H Q I h
  apply attr_of hb
  refine thn (he.run pins s σ H _ I h) ?_
  intro u s1 ⟨x, H1, I1, rx, a, C, fs, v, ex, ⟨d, h1, h2⟩, T, no, hv, q⟩
  subst ex
  cases (show u = Value.ref a from rx)
  obtain ⟨t1, ho⟩ := exo_at I1.hok h1
  obtain ⟨mA, hn, hr⟩ := exd_at I1.hok h2
  obtain ⟨od, hod, hl⟩ := lookIn_ns hn
  obtain ⟨w, hw, rw'⟩ := RelO.some_of (v := v) (o := mA f) (by rw [← hv]; exact hr f)
  have J : PySem.W.InstAt s1.heap a _ C (some od) := ⟨ho, rfl, rfl, hod⟩
  exact PySem.HandSPX.exc_get I1.kIn J T.hg T.hk T.hs (PySem.W.findObj_own T.hd no rfl (by rw [hl, hw])) (handed_of rw') ⟨v, H1, I1.tok _, rw', q⟩
end
end Gd
namespace Gd
open PySem PySem.Spec PyProof.Rows L2
/-- [..], where it is told that the place is not that of sys.modules -/
def tLstN (t : TA) : TE := fun σ H Q => t σ H fun xs H1 => xs.length ≤ sizeLine ∧ ∀ p, H1 p = none → p ≠ sysModules → Q (.ref p) (upd H1 p (.lst xs))
theorem pe_lstN {X : Cx} {es : List Expr} {pos : Pos} {t : TA} (h : PA X es t) : PE X (.List es pos) (tLstN t) := by
  constructor
  intro pins s σ H Q I hq
  apply wpAny_List_spliced
  apply thn (h.run pos pins s σ H _ I hq)
  intro us s1 ⟨xs, H1, I1, r, z, q⟩
  refine ⟨by rw [← r.length]; exact z, ?_⟩
  have low : 1 < s1.heap.objs.size := by
    obtain ⟨o, es, ep, e, _⟩ := I1.ok.mod.glob
    have : (3 : Nat) < s1.heap.objs.size := Heap.lt_size (I1.bk _ _ e)
    omega
  have ns : s1.heap.objs.size ≠ sysModules := fun z => by
    have : s1.heap.objs.size = 1 := z
    omega
  exact ⟨.ref s1.heap.objs.size, upd H1 s1.heap.objs.size (.lst xs), I1.laid (t' := s1.toks) (fun b u e => Heap.get?_push_of_some _ e) (Nat.le_refl _) (show ObjOk X.prog X.w _ _ _ (.lst xs) from ⟨z, us, 0, r, Heap.get?_push_size _ rfl⟩), rfl, q _ (I1.hok.fresh (Nat.le_refl _)) ns⟩
theorem Dq.same {H H' : Hp} (s : Same H H') : ∀ {n : Nat} {b : Bool} {v : V} {d : PyData}, Dq H n b v d → Dq H' n b v d
  | 0, _, _, _, h => h
  | n + 1, b, v, d, h => by
    have ih : ∀ {b v d}, Dq H n b v d → Dq H' n b v d := fun h => Dq.same s h
    rcases h with h | ⟨e0, a, xs, ds, e1, e2, h1, h2, h3⟩ | ⟨a, xs, ds, e1, e2, h1, h2, h3⟩ | ⟨e0, a, xs, ds, e1, e2, h1, h2, h3⟩
    · exact .inl h
    · exact .inr (.inl ⟨e0, a, xs, ds, e1, e2, s _ _ h1, L2.Paired.mapP h2 fun _ _ z => ih z, h3⟩)
    · exact .inr (.inr (.inl ⟨a, xs, ds, e1, e2, s _ _ h1, L2.Paired.mapP h2 fun _ _ z => ih z, h3⟩))
    · exact .inr (.inr (.inr ⟨e0, a, xs, ds, e1, e2, s _ _ h1, L2.Paired.mapP h2 fun _ _ z => ⟨z.1, ih z.2⟩, h3⟩))
/-- what holds of tuples alone holds -/
theorem Dq.weak {H : Hp} : ∀ {n : Nat} {b : Bool} {v : V} {d : PyData}, Dq H n true v d → Dq H n b v d
  | 0, _, _, _, h => h
  | n + 1, b, v, d, h => by
    have ih : ∀ {v d}, Dq H n true v d → Dq H n b v d := fun h => Dq.weak h
    rcases h with h | ⟨e0, _⟩ | ⟨a, xs, ds, e1, e2, h1, h2, h3⟩ | ⟨e0, _⟩
    · exact .inl h
    · cases e0
    · exact .inr (.inr (.inl ⟨a, xs, ds, e1, e2, h1, L2.Paired.mapP h2 fun _ _ z => ih z, h3⟩))
    · cases e0
/-- tuples stay where they are when something else is stored -/
theorem Dq.tups {H H' : Hp} (s : ∀ b xs, H b = some (.tup xs) → H' b = some (.tup xs)) : ∀ {n : Nat} {v : V} {d : PyData}, Dq H n true v d → Dq H' n true v d
  | 0, _, _, h => h
  | n + 1, v, d, h => by
    have ih : ∀ {v d}, Dq H n true v d → Dq H' n true v d := fun h => Dq.tups s h
    rcases h with h | ⟨e0, _⟩ | ⟨a, xs, ds, e1, e2, h1, h2, h3⟩ | ⟨e0, _⟩
    · exact .inl h
    · cases e0
    · exact .inr (.inr (.inl ⟨a, xs, ds, e1, e2, s _ _ h1, L2.Paired.mapP h2 fun _ _ z => ih z, h3⟩))
    · cases e0
theorem Dq.sc {H : Hp} {v : V} {d : PyData} {b : Bool} (h : Sc v d) : ∀ {n : Nat}, Dq H n b v d
  | 0 => h
  | n + 1 => .inl h
end Gd
namespace Gd
open PySem PySem.Spec PyProof.Rows L2
/-! ### an exception that an except clause keeps in a variable -/
def exv (a : Addr) (cls : Value) (d : Option Addr) : HO := .ext fun h => ∃ (o : Obj) (vs : Array Value), h.get? a = some o ∧ o.cls = cls ∧ o.dict = d ∧ o.data = .fields vs
theorem exv_ok {P : Program} {w : World} {H : Hp} {h : Heap} {a : Addr} {cls : Value} {d : Option Addr} {o : Obj} {vs : Array Value} (e : h.get? a = some o) (z : o.cls = cls) (k : o.dict = d) (f : o.data = .fields vs) : ObjOk P w H h a (exv a cls d) :=
  ⟨⟨o, vs, e, z, k, f⟩, ⟨o, e⟩, fun _ _ ⟨o', vs', q, r⟩ st => ⟨o', vs', st o' q, r⟩⟩
theorem exv_at {P : Program} {w : World} {H : Hp} {h : Heap} {a : Addr} {cls : Value} {d : Option Addr} (hok : HOk P w H h) (e : H a = some (exv a cls d)) : ∃ (o : Obj) (vs : Array Value), h.get? a = some o ∧ o.cls = cls ∧ o.dict = d ∧ o.data = .fields vs := by
  have y : ObjOk P w H h a (.ext fun h => ∃ (o : Obj) (vs : Array Value), h.get? a = some o ∧ o.cls = cls ∧ o.dict = d ∧ o.data = .fields vs) := hok a _ e
  exact y.1
section
variable {X : Cx} {pins : List (Addr × Obj)} {σ : L2.St} {H : Hp} {s : Shared} {a : Addr} {o : HO}
/-- what stands at a and is new since the entry may be tracked -/
theorem follow (I : Inv X pins σ H s) (na : H a = none) (new : ObjOk X.prog X.w (upd H a o) s.heap a o) (h0 : X.s_0.heap.get? a = none) (pn : ∀ p ∈ X.pn ++ pins, p.1 ≠ a) (nL : X.env.locals ≠ a) (nC : ∀ x c, X.env.cells.lookup x = some c → c ≠ a) : Inv X pins σ (upd H a o) s := by
  have off : ∀ {b : Addr} {u : HO}, H b = some u → b ≠ a := fun e => ne_of_none e na
  have U := I.base
  refine ⟨I.ok, I.os, I.bare, ⟨U.keep, U.slot, ?_, U.there, ?_, ?_, ?_⟩, I.loc, I.cell, ?_, ?_, ?_, HOk.laidN I.hok (fun _ _ q => q) na new, I.len⟩
  · intro b ob q n z
    have nb : b ≠ a := fun y => by
      rw [y, h0] at q
      cases q
    rw [upd_ne nb]
    exact U.free b ob q n z
  · intro b xs q
    have q1 := U.tups b xs q
    rw [upd_ne (off q1)]
    exact q1
  · intro b ob u q
    have q1 := U.frzs b ob u q
    rw [upd_ne (off q1)]
    exact q1
  · intro b ps q
    obtain ⟨more, q1⟩ := U.tbls b ps q
    exact ⟨more, by rw [upd_ne (off q1)]; exact q1⟩
  · rw [upd_ne nL]
    exact I.free
  · intro y c q
    rw [upd_ne (nC y c q)]
    exact I.freeC y c q
  · intro p hp
    obtain ⟨q1, q2, q3⟩ := I.pin p hp
    exact ⟨q1, by rw [upd_ne (pn p hp)]; exact q2, q3⟩
end
/-- the wish: behind the clause what was caught stands at a -/
def wKeep (K : PySem.W.Frag) (N : Nat) (c : Value) (i : Nat) (ts : Addr → Value → Option Addr → TS) (D : Ends) : WX := fun cls d σ H =>
  σ.length = N → PySem.W.exmOne K cls c = some true ∧
    (∀ a, H a = none → ts a cls d { nx := fun σ1 H1 => H1 a = none → D.nx (σ1.set i none) (upd H1 a (exv a cls d)), rt := fun _ _ => False, bk := fun _ _ => False, ct := fun _ _ => False } (σ.set i (some (.ref a))) H)
section
variable {X : Cx} {x n : Str} {c : Value} {i : Nat} {body suite : List Stmt} {b0 : Stmt} {np pos pos1 : Pos} {tb : WX → TS} {ts : Addr → Value → Option Addr → TS}
theorem ps_keep (hx : X.ex = []) (hs : X.stack = X.env :: X.outer) (hf : X.env.frame = some X.env.locals) (nd : X.N.Nodup) (hi : X.N[i]? = some n) (loc : X.env.kindOf n = some .local) (nx : Names X x c)
    (hb : ∀ (W : WX) (pn : List (Addr × Obj)) (xe : Value → Shared → Prop), Takes (X.tr pn xe) W → PassesOwn (model X.prog X.w) X.A X.env xe → PSs (X.tr pn xe) body (tb W))
    (hu : ∀ (a : Addr) (oe : Obj) (cls : Value) (d : Option Addr) (pn : List (Addr × Obj)), Zc cls d oe → (∃ vs, oe.data = .fields vs) → PSs (X.suite a ((a, oe) :: pn)) (b0 :: suite) (ts a cls d)) :
    PS X (.Try body [.ExceptHandler (some (.Name x np)) (some n) (b0 :: suite) pos1] [] [] pos) (fun D σ H => tb (wKeep X.K X.N.length c i ts D) D σ H) := by
  constructor
  intro pins s σ H D I want
  have good := I.ok
  have frames : X.A.frames = some (X.env :: X.outer) := good.frames.trans (by rw [hs])
  apply wpAny_Try_except
  let air : Value → Shared → Prop := fun e t1 => wpAny (model X.prog X.w) X.A (noteFrame e X.env) (fun _ t2 => wpAny (model X.prog X.w) X.A (setFlight e none) (fun _ t3 =>
    wpAny (model X.prog X.w) X.A (handleBy e X.env [.ExceptHandler (some (.Name x np)) (some n) (b0 :: suite) pos1]) (SP X pins D) X.xe t3) X.xe t2) X.xe t1
  have catches : Takes (X.tr (X.pn ++ pins) air) (wKeep X.K X.N.length c i ts D) := by
    rintro _ t ⟨a, B, tI, qs, σ1, H1, cls, d, rfl, J0, nb, up, sky, na, os, ag, both⟩
    obtain ⟨hb1, yes⟩ := both J0.len
    have J : Inv X pins σ1 H1 tI := J0.ofTry good
    rw [show (X.tr (X.pn ++ pins) air).stack = X.env :: X.outer from hs] at sky
    show wpAny (model X.prog X.w) X.A (noteFrame (.ref a) X.env) _ _ _
    apply Sky.land Zc.steady frames hf sky
    intro g1 f1 u1
    have J1 : Inv X pins σ1 H1 { t with heap := g1 } := J.landed nb f1.1 (up.trans u1) os ag
    obtain ⟨oe1, vs1, ea1, z1, d1⟩ := f1.there
    have outside : ∀ {g : Heap} {ob : Obj} {vs : Array Value}, g.FunFrames B (X.env :: X.outer) → g.get? a = some ob → ob.data = .fields vs → a ∉ frs (X.env :: X.outer) := by
      intro g ob vs ff ea dd hm
      obtain ⟨_, ob1, ea2, bad⟩ := ff.mem hm
      rw [ea] at ea2
      cases ea2
      exact bad _ dd
    have out := outside f1.2.2.1 ea1 d1
    have nL : a ≠ X.env.locals := fun y => out (List.mem_filterMap.mpr ⟨X.env, List.mem_cons_self, by rw [hf, y]⟩)
    have nF : a ∉ X.fs := by
      intro hm
      obtain ⟨ev, m1, m2⟩ := List.mem_filterMap.mp hm
      exact out (List.mem_filterMap.mpr ⟨ev, List.mem_cons_of_mem _ m1, m2⟩)
    have nB : B.get? a = none := f1.2.1
    have fresh : X.s_0.heap.get? a = none := by
      match q : X.s_0.heap.get? a with
      | none => rfl
      | some ob =>
        obtain ⟨ob1, q1⟩ := J.base.there a ob q (by rw [hx]; exact fun y => nomatch y)
        have q2 := nb a ob1 q1 (by rw [show (X.tr (X.pn ++ pins) air).stack = X.env :: X.outer from hs]; exact out)
        rw [nB] at q2
        cases q2
    have pinned : ∀ p ∈ X.pn ++ pins, p.1 ≠ a := by
      intro p hp y
      obtain ⟨q1, _⟩ := J.pin p hp
      rw [y] at q1
      have q2 := nb a _ q1 (by rw [show (X.tr (X.pn ++ pins) air).stack = X.env :: X.outer from hs]; exact out)
      rw [nB] at q2
      cases q2
    have S1 := J1.suite ea1 d1 na nL nF
    apply wpAny_handleBy_cons ?_ (by intro q; cases q)
    apply codeAny_handlers_test
    have tyof : PySem.W.Looks (model X.prog X.w) g1 (typeOf (.ref a)) cls := fun _ _ _ _ k q => wpAny_typeOf_ref (k _ _ ea1) (by rw [z1.1]; exact q)
    have meets := PySem.W.exm_one (M := model X.prog X.w) J1.kIn tyof hb1
    have named : ∀ {Q : Value → Shared → Prop} {E : Value → Shared → Prop}, Q c { t with heap := g1 } → wpAny (model X.prog X.w) (X.A.mark (some (.ref a))) (eval (.Name x np) X.env) Q E { t with heap := g1 } := by
      intro Q E q
      obtain ⟨hg, ndbg, hm | ⟨hm, hv, hnn⟩⟩ := nx
      · exact ld_glob (X := X.suite a ((a, oe1) :: (X.pn ++ pins))) S1 hg hm q ndbg
      · exact ld_blt (X := X.suite a ((a, oe1) :: (X.pn ++ pins))) S1 hg hm hv q hnn ndbg
    apply named
    apply meets.here
    apply codeAny_handlers_suite_as
    apply HandSPX.lands_againZ f1
    intro g2 f2 u2
    have J2 : Inv X pins σ1 H1 { t with heap := g2 } := J.landed nb f2.1 ((up.trans u1).trans u2) os ag
    obtain ⟨oe2, vs2, ea2, z2, d2⟩ := f2.there
    have S2 := J2.suite ea2 d2 na nL nF
    refine store_ok (X := X.suite a ((a, oe2) :: (X.pn ++ pins))) (v := .ref a) S2 nd hi (.inl loc) rfl ?_ (.inr loc)
    intro t5 S5
    refine wpAny_mono ((hu a oe2 cls d (X.pn ++ pins) z2 ⟨_, d2⟩).run [] t5 _ H1 _ S5 (yes a na)) ?_ (fun _ _ y => False.elim y)
    intro fl t6 got
    cases fl with
    | next =>
      obtain ⟨σ6, H6, S6, q6⟩ := got
      obtain ⟨ea6, na6, _⟩ := S6.pin (a, oe2) (List.mem_append_left _ List.mem_cons_self)
      have V6 : Inv X pins σ6 H6 t6 := S6.unsuite good
      have cells : ∀ y c1, X.env.cells.lookup y = some c1 → c1 ≠ a := by
        intro y c1 q z
        obtain ⟨v, oc, q1, q2⟩ := V6.cell y c1 q
        rw [z, ea6] at q1
        cases q1
        rw [d2] at q2
        cases q2
      have K6 := follow (o := exv a cls d) V6 na6 (exv_ok ea6 z2.1 z2.2 d2) fresh pinned nL.symm cells
      exact gone_ok K6 nd hi loc fun t7 J7 => ⟨_, _, J7, q6 na6⟩
    | brk =>
      obtain ⟨_, _, _, q6⟩ := got
      exact False.elim q6
    | cont =>
      obtain ⟨_, _, _, q6⟩ := got
      exact False.elim q6
    | ret u =>
      obtain ⟨_, _, _, _, _, q6⟩ := got
      exact False.elim q6
  refine wpAny_mono ((hb (wKeep X.K X.N.length c i ts D) (X.pn ++ pins) air catches PassesOwn.looking).run [] s σ H D (I.toTry _) want) ?_ (fun _ _ q => q)
  intro fl t got
  cases fl with
  | next =>
    obtain ⟨σ1, H1, J1, q⟩ := got
    exact wpAny_execs_nil ⟨σ1, H1, J1.ofTry good, q⟩
  | brk =>
    obtain ⟨σ1, H1, J1, q⟩ := got
    exact ⟨σ1, H1, J1.ofTry good, q⟩
  | cont =>
    obtain ⟨σ1, H1, J1, q⟩ := got
    exact ⟨σ1, H1, J1.ofTry good, q⟩
  | ret u =>
    obtain ⟨v, σ1, H1, J1, r, q⟩ := got
    exact ⟨v, σ1, H1, J1.ofTry good, r, q⟩
end
end Gd
namespace Gd
open PySem PySem.Spec PyProof.Rows L2
/-- at a: what was caught, of the class at D, with its fields -/
def CAt (H : Hp) (a D : Addr) (fs : List (Str × V)) : Prop := ∃ d, H a = some (exv a (.ref D) (some d)) ∧ H d = some (.xd fs)
theorem CAt.same {H H' : Hp} {a D : Addr} {fs : List (Str × V)} (x : CAt H a D fs) (s : Same H H') : CAt H' a D fs := by
  obtain ⟨d, h1, h2⟩ := x
  exact ⟨d, s _ _ h1, s _ _ h2⟩
section
variable {X : Cx} {pins : List (Addr × Obj)} {σ : L2.St} {H : Hp} {s : Shared}
theorem cat_inst (I : Inv X pins σ H s) {a D : Addr} {fs : List (Str × V)} (x : CAt H a D fs) : ∃ (ox : Obj) (od : Obj) (mA : Str → Option Value), PySem.W.InstAt s.heap a ox D (some od) ∧ (∀ f, PySem.W.lookIn f od = some (mA f)) ∧ ∀ f, RelO (fs.lookup f) (mA f) := by
  obtain ⟨d, h1, h2⟩ := x
  obtain ⟨ox, vs, e, z, k, f⟩ := exv_at I.hok h1
  obtain ⟨mA, hn, r⟩ := (show ∃ mA, s.heap.Ns1 d mA ∧ ∀ f, RelO (fs.lookup f) (mA f) from I.hok d _ h2)
  obtain ⟨od, hod, hl⟩ := lookIn_ns hn
  refine ⟨ox, od, mA, ⟨e, z, ?_, ?_⟩, hl, r⟩
  · unfold PySem.W.notCls
    rw [f]
  · rw [k]
    exact hod
def rIsV (K : PySem.W.Frag) : List V → Hp → VK → Prop := fun xs H Q => ∃ (a D : Addr) (fs : List (Str × V)) (c : V) (cv : Value) (b : Bool), xs = [.ref a, c] ∧ CAt H a D fs ∧ ClsV c cv ∧ ExcC K D ∧ PySem.W.kitOne K (.ref D) cv = some b ∧ Q (.bl b) H
theorem call_isV : CallR X (.builtin "isinstance") (rIsV X.K) := by
  intro pins s σ H xs us Q I r h
  obtain ⟨a, D, fs, c, cv, b, rfl, hx, hc, T, e, q⟩ := h
  obtain ⟨u1, u2, rfl, r1, r2⟩ := vals2 r
  cases (show u1 = Value.ref a from r1)
  have e2 := hc.eq r2
  subst e2
  obtain ⟨ox, od, _, J, _⟩ := cat_inst I hx
  exact PySem.W.kia_one (kitx_of T) I.kIn ⟨ox, some od, J⟩ e (fun z => nomatch z) fun tk => ⟨.bl b, H, I.tok tk, rfl, q⟩
/-- e.f, e caught -/
def tVf (K : PySem.W.Frag) (f : Str) (te : TE) : TE := fun σ H Q => te σ H fun x H1 => ∃ (a C : Addr) (fs : List (Str × V)) (v : V), x = .ref a ∧ CAt H1 a C fs ∧ ExcC K C ∧ PySem.W.findIn K (.ref C) f = some none ∧ fs.lookup f = some v ∧ Q v H1
theorem pe_vf {e : Expr} {te : TE} {f : Str} {pos : Pos} (he : PE X e te) (hb : attributeBase e f X.env (eval e X.env) = eval e X.env := by rfl) : PE X (.Attribute e f pos) (tVf X.K f te) := by
  constructor
  intro pins s σ H Q I h
  apply attr_of hb
  refine thn (he.run pins s σ H _ I h) ?_
  intro u s1 ⟨x, H1, I1, rx, a, C, fs, v, ex, hc, T, no, hv, q⟩
  subst ex
  cases (show u = Value.ref a from rx)
  obtain ⟨ox, od, mA, J, hl, hr⟩ := cat_inst I1 hc
  obtain ⟨w, hw, rw'⟩ := RelO.some_of (v := v) (o := mA f) (by rw [← hv]; exact hr f)
  exact PySem.HandSPX.exc_get I1.kIn J T.hg T.hk T.hs (PySem.W.findObj_own T.hd no rfl (by rw [hl, hw])) (handed_of rw') ⟨v, H1, I1.tok _, rw', q⟩
end
end Gd
namespace Kone
open PySem L2 Gd
def top (i : Nat) : Stmt := PySem.Challenge.pw_sumdigits_k76_words_that_are_paired.main.body.getD i (.Pass ⟨0, 0, 0, 0⟩)
/-! ### a value with copies of its lists and dicts -/
abbrev sKept : Stmt := top 1
/-- all that was tracked but what stands at p stands as before -/
def Keep (p : Addr) (H H' : Hp) : Prop := ∀ b o, b ≠ p → H b = some o → H' b = some o
theorem Keep.refl {p : Addr} {H : Hp} : Keep p H H := fun _ _ _ e => e
theorem Keep.trans {p : Addr} {H H1 H2 : Hp} (a : Keep p H H1) (b : Keep p H1 H2) : Keep p H H2 := fun c o n e => b c o n (a c o n e)
theorem Keep.of {p : Addr} {H H1 : Hp} (a : Same H H1) : Keep p H H1 := fun c o _ e => a c o e
/-- at p the state of the draws -/
def Pen (H : Hp) (p c : Addr) (n : Nat) : Prop := ∃ (cs : List Int) (a g : Int), H p = some (.lst [.ref c, .int a, .int g]) ∧ H c = some (.lst (cs.map V.int)) ∧ c ≠ p ∧ 0 ≤ a ∧ a ≤ (n : Int)
theorem Pen.keep {H H' : Hp} {p c : Addr} {n : Nat} (x : Pen H p c n) (s : Same H H') : Pen H' p c n := by
  obtain ⟨cs, a, g, h1, h2, h3, h4, h5⟩ := x
  exact ⟨cs, a, g, s _ _ h1, s _ _ h2, h3, h4, h5⟩
def spPen (K : PySem.W.Frag) : Sp := fun vs H Q _ => ∃ (a : Addr) (ns : List Int), vs = [.ref a] ∧ SqL K H a (ns.map V.int) ∧ ∀ (H' : Hp) (p c : Addr), Same H H' → Pen H' p c 0 → Q (.ref p) H'
def spDraw : Sp := fun vs H Q _ => ∃ (p c : Addr) (m : Int) (n : Nat), vs = [.ref p, .int m] ∧ Pen H p c n ∧ n ≤ 100000 ∧ 0 < m ∧ m < 1000 ∧ ∀ (H' : Hp) (d : Int), Keep p H H' → Pen H' p c (n + 1) → 0 ≤ d → d < m → Q (.int d) H'
def spPick : Sp := fun vs H Q _ => ∃ (p c l : Addr) (n : Nat) (xs : List V), vs = [.ref p, .ref l] ∧ Pen H p c n ∧ n ≤ 100000 ∧ H l = some (.lst xs) ∧ l ≠ p ∧ 0 < xs.length ∧ xs.length < 1000 ∧
  ∀ (H' : Hp) (x : V), Keep p H H' → Pen H' p c (n + 1) → x ∈ xs → Q x H'
structure TxtD (mg : Str → Option Value) (fD : Addr) : Prop where
  int : mg "int" = none
  len : mg "len" = none
  abs : mg "abs" = none
  list : mg "list" = none

theorem map_cut (ns : List Int) (lo hi : Option Int) : ∃ ms : List Int, cutV (ns.map V.int) lo hi = ms.map V.int := by
  unfold cutV
  exact ⟨_, by rw [← List.map_drop, ← List.map_take]⟩

theorem fmod_range {a m : Int} (h : 0 < m) : 0 ≤ a.fmod m ∧ a.fmod m < m := ⟨Int.fmod_nonneg_of_pos a h, Int.fmod_lt_of_pos a h⟩
theorem Pen.set2 {H : Hp} {p c : Addr} {cs : List Int} {a g : Int} {n : Nat} (h2 : H c = some (.lst (cs.map V.int))) (h3 : c ≠ p) (h4 : 0 ≤ a) (h5 : a ≤ (n : Int)) : Pen (upd H p (.lst [.ref c, .int a, .int g])) p c n :=
  ⟨cs, a, g, upd_same, by rw [upd_ne h3]; exact h2, h3, h4, h5⟩
theorem Pen.mono {H : Hp} {p c : Addr} {n m : Nat} (x : Pen H p c n) (h : n ≤ m) : Pen H p c m := by
  obtain ⟨cs, a, g, h1, h2, h3, h4, h5⟩ := x
  exact ⟨cs, a, g, h1, h2, h3, h4, by omega⟩
theorem keep_upd {H : Hp} {p : Addr} {o : HO} : Keep p H (upd H p o) := fun b u n e => by rw [upd_ne n]; exact e
theorem same_new {H : Hp} {p : Addr} {o : HO} (h : H p = none) : Same H (upd H p o) := fun b u e => by rw [upd_ne (ne_of_none e h)]; exact e
theorem dp_ints {K : PySem.W.Frag} {H : Hp} (cs : List Int) : DpAll K H (cs.map V.int) (cs.map PyData.int) := by
  induction cs with
  | nil => exact .nil
  | cons c cs ih => exact .cons (.int c) ih
theorem at_nat {xs : List V} {i : Int} (h0 : 0 ≤ i) (h1 : i < (xs.length : Int)) : ∃ v, atI xs i = some v ∧ v ∈ xs := by
  have hl : i.toNat < xs.length := by omega
  refine ⟨xs[i.toNat], ?_, List.getElem_mem hl⟩
  unfold atI ixN
  rw [if_pos h0, if_pos h1]
  simp [hl]
theorem nzA : (2147483587 : Int) ≠ 0 := by decide
theorem nzB : (2147483563 : Int) ≠ 0 := by decide

/-- the class x at C, right below SumError at S -/
structure XC (K : PySem.W.Frag) (mg : Str → Option Value) (S : Addr) (x : Str) (C : Addr) : Prop where
  g : mg x = some (.ref C)
  o : OexC K C
  e : ExcC K C
  m : ∃ cd, PySem.W.clsIn K C = some cd ∧ cd.mro = .ref C :: .ref S :: PySem.HandSPX.veTail
theorem kit_own {K : PySem.W.Frag} {mg : Str → Option Value} {S : Addr} {x y : Str} {C D : Addr} (T : XC K mg S x D) (U : XC K mg S y C) (h : C ≠ S) : PySem.W.kitOne K (.ref D) (.ref C) = some (decide (D = C)) := by
  by_cases e : D = C
  · subst e
    unfold PySem.W.kitOne
    rw [if_pos (by simp)]
    simp
  · have ne : (Value.ref D == Value.ref C) = false := beq_eq_false_iff_ne.mpr fun z => e (Value.ref.inj z)
    obtain ⟨cd, h1, h2⟩ := T.m
    obtain ⟨ce, h3, _⟩ := U.m
    unfold PySem.W.kitOne PySem.W.kitCls PySem.W.subIn PySem.W.mroIn
    rw [ne, if_neg Bool.false_ne_true]
    dsimp only
    rw [h1, h3, U.o.tyC]
    have h4 : cd.mro.contains (.ref C) = false := by
      rw [h2]
      simp only [List.contains_cons, PySem.HandSPX.veTail]
      have n1 : (Value.ref C == Value.ref D) = false := beq_eq_false_iff_ne.mpr fun z => e (Value.ref.inj z).symm
      have n2 : (Value.ref C == Value.ref S) = false := beq_eq_false_iff_ne.mpr fun z => h (Value.ref.inj z)
      rw [n1, n2]
      rfl
    have h5 : cd.mro.isEmpty = false := by rw [h2]; rfl
    simp only [Option.isSome_some, beq_self_eq_true, Bool.and_self, if_true, Option.bind_some, h5, Bool.false_eq_true, if_false, h4, decide_eq_false e]
theorem kit_type {K : PySem.W.Frag} {mg : Str → Option Value} {S : Addr} {x : Str} {D : Addr} (T : XC K mg S x D) (n : String) (hm : PySem.W.kitMeta n = true) : PySem.W.kitOne K (.ref D) (.type n) = some (PySem.HandSPX.veTail.contains (.type n)) := by
  obtain ⟨cd, h1, h2⟩ := T.m
  unfold PySem.W.kitOne PySem.W.kitCls PySem.W.subIn PySem.W.mroIn
  rw [if_neg (by intro z; exact nomatch (beq_iff_eq.mp z))]
  dsimp only
  rw [if_pos hm, h1]
  have h5 : cd.mro.isEmpty = false := by rw [h2]; rfl
  simp only [Option.bind_some, h5, Bool.false_eq_true, if_false]
  rw [h2]
  simp only [List.contains_cons]
  rfl
theorem kit_sum {K : PySem.W.Frag} {mg : Str → Option Value} {S : Addr} {x : Str} {D : Addr} (T : XC K mg S x D) {cs : ClassData} (h : PySem.W.clsIn K S = some cs) (t : PySem.W.typeIn K (.ref S) = some (.type "type")) : PySem.W.kitOne K (.ref D) (.ref S) = some true := by
  obtain ⟨cd, h1, h2⟩ := T.m
  by_cases e : D = S
  · subst e
    unfold PySem.W.kitOne
    rw [if_pos (by simp)]
  · have ne : (Value.ref D == Value.ref S) = false := beq_eq_false_iff_ne.mpr fun z => e (Value.ref.inj z)
    unfold PySem.W.kitOne PySem.W.kitCls PySem.W.subIn PySem.W.mroIn
    rw [ne, if_neg Bool.false_ne_true]
    dsimp only
    rw [h1, h, t]
    have h5 : cd.mro.isEmpty = false := by rw [h2]; rfl
    have h4 : cd.mro.contains (.ref S) = true := by rw [h2]; simp
    simp only [Option.isSome_some, beq_self_eq_true, Bool.and_self, if_true, Option.bind_some, h5, Bool.false_eq_true, if_false, h4]

/-- where the helpers stand -/
structure Def (K : PySem.W.Frag) (mg : Str → Option Value) (x : Str) (st : Stmt) (ps : List Str) (f : Addr) (fd : FuncData) : Prop where
  g : mg x = some (.ref f)
  k : PySem.W.keepIn K (.ref f) = true
  b : Binds K fd ps []
  F : Fun K x x st f fd

def hide (p : Addr) (H : Hp) : Hp := fun b => if b = p then none else H b
theorem hide_same {p : Addr} {H : Hp} : Same (hide p H) H := fun b o e => by
  unfold hide at e
  split at e
  · cases e
  · exact e
theorem hide_at {p : Addr} {H : Hp} {b : Addr} {o : HO} (n : b ≠ p) (e : H b = some o) : hide p H b = some o := by
  unfold hide
  rw [if_neg n]
  exact e
theorem hide_keep {p : Addr} {H H' : Hp} (k : Keep p H H') : Same (hide p H) (hide p H') := fun b o e => by
  unfold hide at e
  split at e
  · cases e
  · rename_i n
    exact hide_at n (k b o n e)
theorem hide_mono {p : Addr} {H H' : Hp} (s : Same H H') : Same (hide p H) (hide p H') := hide_keep (Keep.of s)

/-- what stands in H' and not in H -/
def newIn (H H' : Hp) : Hp := fun b => match H b with
  | none => H' b
  | some _ => none
theorem newIn_at {H H' : Hp} {b : Addr} {o : HO} (n : H b = none) (e : H' b = some o) : newIn H H' b = some o := by
  unfold newIn
  rw [n]
  exact e
theorem newIn_of {H H' : Hp} {b : Addr} {o : HO} (e : newIn H H' b = some o) : H b = none ∧ H' b = some o := by
  unfold newIn at e
  cases q : H b with
  | none => rw [q] at e; exact ⟨rfl, e⟩
  | some u => rw [q] at e; cases e
theorem newIn_keep {p : Addr} {H H1 H2 : Hp} {o : HO} (hp : H p = some o) (k : Keep p H1 H2) : Same (newIn H H1) (newIn H H2) := fun b u e => by
  obtain ⟨n, e1⟩ := newIn_of e
  exact newIn_at n (k b u (ne_of_none hp n).symm e1)

/-- of H', what stood in G or was not yet in H -/
def old (G H H' : Hp) : Hp := fun a => if (G a).isSome = true ∨ H a = none then H' a else none
theorem old_at {G H H' : Hp} {a : Addr} {o : HO} (c : (∃ u, G a = some u) ∨ H a = none) (e : H' a = some o) : old G H H' a = some o := by
  unfold old
  rw [if_pos (by
    rcases c with ⟨u, c⟩ | c
    · exact .inl (by rw [c]; rfl)
    · exact .inr c)]
  exact e
theorem old_of {G H H' : Hp} {a : Addr} {o : HO} (e : old G H H' a = some o) : ((∃ u, G a = some u) ∨ H a = none) ∧ H' a = some o := by
  unfold old at e
  split at e
  · rename_i c
    refine ⟨?_, e⟩
    rcases c with c | c
    · exact .inl (Option.isSome_iff_exists.mp c)
    · exact .inr c
  · cases e
theorem old_mono {G H H' H'' : Hp} (s : Same H' H'') : Same (old G H H') (old G H H'') := fun a o e => by
  obtain ⟨c, e⟩ := old_of e
  exact old_at c (s _ _ e)
theorem old_self {G H : Hp} (s : Same G H) : Same G (old G H H) := fun a o e => old_at (.inl ⟨o, e⟩) (s _ _ e)
/-- what depth n of data asks, and what comes back -/
def spK : Nat → Sp
  | 0 => fun _ _ _ _ => False
  | n + 1 => fun vs H Q _ => ∃ (b : Bool) (v : V) (d : PyData) (G : Hp), vs = [v] ∧ Same G H ∧ Dq G n b v d ∧ ∀ (H' : Hp) (v' : V), Same H H' → Dq (old G H H') n b v' d → Q v' H'
structure TxtK (mg : Str → Option Value) : Prop where
  isi : mg "isinstance" = none
  tuple : mg "tuple" = none
  list : mg "list" = none
  dict : mg "dict" = none
  any : mg "any" = none
theorem scKept : FnScope ["value", "part", "key"] ["value"] (defScope sKept) := ⟨rfl, rfl, rfl, by decide +kernel, rfl, by decide +kernel, by decide +kernel⟩
theorem sc_ty {K : PySem.W.Frag} {H : Hp} : ∀ {v : V} {d : PyData}, Sc v d → ∃ t : String, TyX K H v (.type t) ∧ kitB t "tuple" = some false ∧ kitB t "list" = some false ∧ kitB t "dict" = some false
  | .non, .none, _ => ⟨_, .base .non, by decide +kernel, by decide +kernel, by decide +kernel⟩
  | .bl b, .bool _, _ => ⟨_, .base (.bl b), by decide +kernel, by decide +kernel, by decide +kernel⟩
  | .int i, .int _, _ => ⟨_, .base (.int i), by decide +kernel, by decide +kernel, by decide +kernel⟩
  | .str x, .str _, _ => ⟨_, .base (.str x), by decide +kernel, by decide +kernel, by decide +kernel⟩
theorem kit3 {K : PySem.W.Frag} {t : String} {b1 b2 b3 : Bool} (h1 : kitB t "tuple" = some b1) (h2 : kitB t "list" = some b2) (h3 : kitB t "dict" = some b3) : ∃ r, PySem.W.kitAny K (.type t) [.type "tuple", .type "list", .type "dict"] = some r := by
  cases b1 with
  | true => exact ⟨true, kitAny_cons (kit_ty h1) (fun z => nomatch z) (fun _ => rfl)⟩
  | false =>
    cases b2 with
    | true => exact ⟨true, kitAny_cons (kit_ty h1) (fun _ => kitAny_cons (kit_ty h2) (fun z => nomatch z) (fun _ => rfl)) (fun z => nomatch z)⟩
    | false => exact ⟨b3, kitAny_cons (kit_ty h1) (fun _ => kitAny_cons (kit_ty h2) (fun _ => kitAny_cons (kit_ty h3) (fun z => by rw [z]; exact kitAny_nil) (fun z => z)) (fun z => nomatch z)) (fun z => nomatch z)⟩
theorem dq_any {K : PySem.W.Frag} {G H : Hp} (s : Same G H) : ∀ {n : Nat} {b : Bool} {v : V} {d : PyData}, Dq G n b v d → ∃ t r, TyX K H v t ∧ PySem.W.kitAny K t [.type "tuple", .type "list", .type "dict"] = some r := by
  intro n b v d h
  have sc : ∀ {v : V} {d : PyData}, Sc v d → ∃ t r, TyX K H v t ∧ PySem.W.kitAny K t [.type "tuple", .type "list", .type "dict"] = some r := fun h => by
    obtain ⟨t, h0, h1, h2, h3⟩ := sc_ty (K := K) (H := H) h
    obtain ⟨r, e⟩ := kit3 (K := K) h1 h2 h3
    exact ⟨_, r, h0, e⟩
  match n, h with
  | 0, h => exact sc h
  | n + 1, h =>
    rcases h with h | ⟨_, a, xs, ds, rfl, _, ha, _⟩ | ⟨a, xs, ds, rfl, _, ha, _⟩ | ⟨_, a, kvs, kds, rfl, _, ha, _⟩
    · exact sc h
    · obtain ⟨r, e⟩ := kit3 (K := K) (t := "list") (b1 := false) (b2 := true) (b3 := false) (by decide +kernel) (by decide +kernel) (by decide +kernel)
      exact ⟨_, r, .base (.lst (s _ _ ha)), e⟩
    · obtain ⟨r, e⟩ := kit3 (K := K) (t := "tuple") (b1 := true) (b2 := false) (b3 := false) (by decide +kernel) (by decide +kernel) (by decide +kernel)
      exact ⟨_, r, .base (.tup (s _ _ ha)), e⟩
    · obtain ⟨r, e⟩ := kit3 (K := K) (t := "dict") (b1 := false) (b2 := false) (b3 := true) (by decide +kernel) (by decide +kernel) (by decide +kernel)
      exact ⟨_, r, .base (.dK (s _ _ ha)), e⟩
/-- a dict by a comprehension over the items of a locked dict -/
theorem dc_its {dd : Addr} {ob : Obj} {es : List (Key × V)} {g : TG} {tt : TT} {tk tv : TE} {ws : List Nat} {σ : L2.St} {H1 : Hp} {D : Addr} {Z : Hp → Prop} (Pv : Nat → Hp → Prop) (h0 : Pv 0 (upd H1 D (.dK [])))
    (hl : ∀ i G, Pv i G → G dd = some (.frz ob (.dK es)))
    (hs : ∀ i k v T G, es[i]? = some (k, v) → Pv i G → G T = none → g (.ref T) (wipe σ ws) (upd G T (.tup [kV k, v]))
      fun σ2 G2 => wipe σ2 ws = wipe σ ws ∧ tt σ2 G2
        fun b G3 => if b = true then tk σ2 G3 (fun y G4 => tv σ2 G4 (fun z G5 => ∃ ks kk, y = kV kk ∧ G5 D = some (.dK ks) ∧ ks.length < sizeLine ∧ Pv (i + 1) (upd G5 D (.dK (putK ks kk z))))) else Pv (i + 1) G3)
    (hd : ∀ G, Pv es.length G → Z G) :
    ∃ W : Nat → Nat → Hp → Prop, (∃ m, W 0 m (upd H1 D (.dK []))) ∧ ∀ i m G, W i m G →
      ((Iti dd ob es).stop i G ∧ Z G) ∨ ((Iti dd ob es).go i G ∧ ∃ Nx : Hp → Prop, (∀ G', Nx G' → ∃ m', m' < m ∧ W (i + 1) m' G') ∧ ∀ x G', (Iti dd ob es).yld i G x G' → g x (wipe σ ws) G'
        fun σ2 G2 => wipe σ2 ws = wipe σ ws ∧ tt σ2 G2
          fun b G3 => if b = true then tk σ2 G3 (fun y G4 => tv σ2 G4 (fun z G5 => ∃ ks kk, y = kV kk ∧ G5 D = some (.dK ks) ∧ ks.length < sizeLine ∧ Nx (upd G5 D (.dK (putK ks kk z))))) else Nx G3) := by
  refine ⟨fun i m G => m + i = es.length ∧ Pv i G, ⟨es.length, rfl, h0⟩, fun i m G hw => ?_⟩
  obtain ⟨hm, p⟩ := hw
  have q := hl i G p
  cases m with
  | zero =>
    have e : i = es.length := by omega
    subst e
    exact .inl ⟨⟨q, Nat.le_refl _⟩, hd G p⟩
  | succ m =>
    refine .inr ⟨⟨q, by omega⟩, Pv (i + 1), fun G' p' => ⟨m, by omega, by omega, p'⟩, fun x G' y => ?_⟩
    obtain ⟨T, k, v, hk, ex, hT, eG⟩ := y
    subst ex eG
    exact hs i k v T G hk p hT
theorem pr_take {α β : Type} {R : α → β → Prop} {ys : List α} {ds : List β} {i : Nat} {y : α} {d : β} (p : Paired R ys (ds.take i)) (hd : ds[i]? = some d) (r : R y d) : Paired R (ys ++ [y]) (ds.take (i + 1)) := by
  have e : ds.take (i + 1) = ds.take i ++ [d] := by
    rw [List.take_succ, hd]
    rfl
  rw [e]
  have app : ∀ {xs us : List α} {ys vs : List β}, Paired R xs ys → Paired R us vs → Paired R (xs ++ us) (ys ++ vs) := by
    intro xs us ys vs h1 h2
    induction h1 with
    | nil => exact h2
    | cons a _ ih => exact .cons a ih
  exact app p (.cons r .nil)
theorem pr_get {α β : Type} {R : α → β → Prop} : ∀ {xs : List α} {ys : List β} {i : Nat} {x : α}, Paired R xs ys → xs[i]? = some x → ∃ y, ys[i]? = some y ∧ R x y
  | _, _, _, _, .nil, e => by simp at e
  | _, _, 0, _, .cons r _, e => by simp at e; subst e; exact ⟨_, rfl, r⟩
  | _, _, i + 1, x, .cons _ t, e => by
    obtain ⟨y, h1, h2⟩ := pr_get (i := i) (x := x) t (by simpa using e)
    exact ⟨y, by simpa using h1, h2⟩
theorem pr_len {α β : Type} {R : α → β → Prop} : ∀ {xs : List α} {ys : List β}, Paired R xs ys → xs.length = ys.length
  | _, _, .nil => rfl
  | _, _, .cons _ t => congrArg Nat.succ (pr_len t)
theorem line100 {n : Nat} (h : n ≤ 101) : n ≤ sizeLine := Nat.le_trans h (by decide)
theorem line100' {n : Nat} (h : n ≤ 101) : n < sizeLine := Nat.lt_of_le_of_lt h (by decide)
/-- what stands in the list at D while parts are copied -/
def Cop (G H : Hp) (m : Nat) (b : Bool) (D : Addr) (ds : List PyData) (i : Nat) (H' : Hp) : Prop :=
  Same H H' ∧ ∃ ys : List V, H' D = some (.lst ys) ∧ Paired (Dq (hide D (old G H H')) m b) ys (ds.take i)
theorem Cop.nil {G H : Hp} {m : Nat} {b : Bool} {D : Addr} {ds : List PyData} (h : H D = none) : Cop G H m b D ds 0 (upd H D (.lst [])) := ⟨same_new h, [], upd_same, .nil⟩
theorem Cop.put {G H H' H2 : Hp} {m : Nat} {b : Bool} {D : Addr} {ds : List PyData} {i : Nat} {v' : V} {d : PyData} (hD : H D = none) (sG : Same G H) (c : Cop G H m b D ds i H') (hd : ds[i]? = some d) (s2 : Same H' H2) (q : Dq (old G H' H2) m b v' d) :
    ∃ ys : List V, H2 D = some (.lst ys) ∧ ys.length ≤ ds.length ∧ Cop G H m b D ds (i + 1) (upd H2 D (.lst (ys ++ [v']))) := by
  obtain ⟨s1, ys, h1, h2⟩ := c
  have hGD : G D = none := sG.free hD
  refine ⟨ys, s2 _ _ h1, ?_, fun a o e => ?_, ys ++ [v'], upd_same, ?_⟩
  · rw [pr_len h2]
    exact List.length_take_le' _ _
  · rw [upd_ne (ne_of_none e hD)]
    exact s2 _ _ (s1 _ _ e)
  · refine pr_take (L2.Paired.mapP h2 fun _ _ z => Dq.same (fun a o e => ?_) z) hd (Dq.same (fun a o e => ?_) q)
    · have n : a ≠ D := fun z => by rw [z] at e; unfold hide at e; rw [if_pos rfl] at e; cases e
      obtain ⟨c, e1⟩ := old_of (hide_same _ _ e)
      exact hide_at n (old_at c (by rw [upd_ne n]; exact s2 _ _ e1))
    · obtain ⟨c, e1⟩ := old_of e
      have n : a ≠ D := fun z => by
        subst z
        rcases c with ⟨u, c⟩ | c
        · rw [hGD] at c; cases c
        · rw [h1] at c; cases c
      refine hide_at n (old_at ?_ (by rw [upd_ne n]; exact e1))
      rcases c with c | c
      · exact .inl c
      · exact .inr (s1.free c)

section
variable {P : Program} {w : World} {K : PySem.W.Frag} {mg : Str → Option Value} {base : Heap}
theorem okY {σ : L2.St} {H : Hp} {X Y : Hp → Prop} (h : X H) : tYes σ H (fun b H3 => if b = true then X H3 else Y H3) := by
  show (if true = true then X H else Y H)
  rw [if_pos rfl]
  exact h
theorem take_succ1 {α : Type} {xs : List α} {i : Nat} {x : α} (h : xs[i]? = some x) : xs.take (i + 1) = xs.take i ++ [x] := by
  rw [List.take_succ, h]
  rfl
theorem dq_alt {G : Hp} {n : Nat} {b : Bool} {v : V} {d : PyData} (h : Dq G n b v d) : Sc v d ∨
    (∃ (m : Nat) (a : Addr) (xs : List V) (ds : List PyData), n = m + 1 ∧ b = false ∧ v = .ref a ∧ d = .list ds ∧ G a = some (.lst xs) ∧ Paired (Dq G m b) xs ds ∧ xs.length ≤ 100) ∨
    (∃ (m : Nat) (a : Addr) (xs : List V) (ds : List PyData), n = m + 1 ∧ v = .ref a ∧ d = .tuple ds ∧ G a = some (.tup xs) ∧ Paired (Dq G m b) xs ds ∧ xs.length ≤ 100) ∨
    (∃ (m : Nat) (a : Addr) (kvs : List (Key × V)) (kds : List (PyData × PyData)), n = m + 1 ∧ b = false ∧ v = .ref a ∧ d = .dict kds ∧ G a = some (.dK kvs) ∧ Paired (fun (p : Key × V) (q : PyData × PyData) => Sc (kV p.1) q.1 ∧ Dq G m true p.2 q.2) kvs kds ∧ kvs.length ≤ 100 ∧ (kvs.map (·.1)).Nodup) := by
  match n, h with
  | 0, h => exact .inl h
  | m + 1, h =>
    rcases h with h | ⟨e, a, xs, ds, r⟩ | ⟨a, xs, ds, r⟩ | ⟨e, a, kvs, kds, r⟩
    · exact .inl h
    · exact .inr (.inl ⟨m, a, xs, ds, rfl, e, r⟩)
    · exact .inr (.inr (.inl ⟨m, a, xs, ds, rfl, r⟩))
    · exact .inr (.inr (.inr ⟨m, a, kvs, kds, rfl, e, r⟩))
theorem ok_kept {f : Addr} {fd : FuncData} (T : TxtK mg) (U : Def K mg "kept" sKept ["value"] f fd) : ∀ n, FnOk P w K mg base CX0 n f fd ["value"] (spK n)
  | 0 => ⟨fun _ _ _ _ h => h.elim, fun _ _ _ _ _ _ _ _ _ _ _ _ _ h => h.elim⟩
  | n + 1 => by
    have GK : FnOk P w K mg base CX0 n f fd ["value"] (spK n) := ok_kept T U n
    refine U.F.ok scKept (fun vs H Q E h => ?_) (fun cdv A outer s H vs Q E hr h => ?_)
    · obtain ⟨b, v, d, G, rfl, _⟩ := h
      rfl
    · obtain ⟨b, v, d, G, rfl, sG, hq, k⟩ := h
      refine ⟨_, pss_cons (ps_if (pt_val (pe_callB call_isi (by rfl) T.isi (by decide +kernel) (pa_cons (pv 0) (pa_cons (pe_bltn (v := .ty "tuple") rfl T.tuple rfl rfl) pa_nil))))
          (pss_cons (ps_if (pt_not (pt_val (pe_callB (cr_any rfl) (by rfl) T.any (by decide +kernel) (pa_cons
              (pe_lc (own := [("part", 1)]) (g := gName 1) (tt := tYes) (te := tCB (rIsiT K) (tCons (tVar 1) (tCons (tTup (tCons (tC (.ty "tuple")) (tCons (tC (.ty "list")) (tCons (tC (.ty "dict")) tNil)))) tNil))) rfl scKept.nd (pi_tup (pv 0)) (blkOk_by (N := ["value", "part", "key"]) (sc := defScope sKept) (by decide +kernel))
                (fun _ _ _ _ _ => pg_name (i := 1) scKept.nd rfl (Or.inl rfl)) (fun _ _ _ _ _ => pts_nil)
                (fun _ _ _ _ _ => pe_callB call_isiT (by rfl) T.isi (by decide +kernel) (pa_cons (pv 1) (pa_cons (pe_tup (pa_cons (pe_bltn (v := .ty "tuple") rfl T.tuple rfl rfl) (pa_cons (pe_bltn (v := .ty "list") rfl T.list rfl rfl) (pa_cons (pe_bltn (v := .ty "dict") rfl T.dict rfl rfl) pa_nil)))) pa_nil)))) pa_nil))))
              (pss_one (ps_ret (pv 0))) pss_nil)
            (pss_one (ps_ret (pe_callTy call_tuple_of (by rfl) T.tuple (by decide +kernel) (pa_cons
              (pe_lc (own := [("part", 1)]) (g := gName 1) (tt := tYes) (te := tCall (spK n) [] E0 (tCons (tVar 1) tNil)) rfl scKept.nd (pi_tup (pv 0)) (blkOk_by (N := ["value", "part", "key"]) (sc := defScope sKept) (by decide +kernel))
                (fun _ _ _ _ _ => pg_name (i := 1) scKept.nd rfl (Or.inl rfl)) (fun _ _ _ _ _ => pts_nil)
                (fun _ _ _ _ _ => pe_call GK hr rfl U.g U.k U.b .nil pass0 (pa_cons (pv 1) pa_nil))) pa_nil)))))
          pss_nil)
        (pss_cons (ps_if (pt_val (pe_callB call_isi (by rfl) T.isi (by decide +kernel) (pa_cons (pv 0) (pa_cons (pe_bltn (v := .ty "list") rfl T.list rfl rfl) pa_nil))))
          (pss_one (ps_ret (pe_lc (own := [("part", 1)]) (g := gName 1) (tt := tYes) (te := tCall (spK n) [] E0 (tCons (tVar 1) tNil)) rfl scKept.nd (pi_list (pv 0)) (blkOk_by (N := ["value", "part", "key"]) (sc := defScope sKept) (by decide +kernel))
                (fun _ _ _ _ _ => pg_name (i := 1) scKept.nd rfl (Or.inl rfl)) (fun _ _ _ _ _ => pts_nil)
                (fun _ _ _ _ _ => pe_call GK hr rfl U.g U.k U.b .nil pass0 (pa_cons (pv 1) pa_nil)))))
          pss_nil)
        (pss_cons (ps_if (pt_val (pe_callB call_isi (by rfl) T.isi (by decide +kernel) (pa_cons (pv 0) (pa_cons (pe_bltn (v := .ty "dict") rfl T.dict rfl rfl) pa_nil))))
          (pss_one (ps_ret (pe_lock (pe_dc (own := [("key", 2), ("part", 1)]) (g := gTup K 2 (gCons (gName 2) (gCons (gName 1) gNil))) (tt := tYes) (tk := tVar 2) (tv := tCall (spK n) [] E0 (tCons (tVar 1) tNil)) rfl scKept.nd (pi_items (pv 0)) (blkOk_by (N := ["value", "part", "key"]) (sc := defScope sKept) (by decide +kernel))
                (fun _ _ _ _ _ => pg_tup rfl (pgs_cons (pg_name (i := 2) scKept.nd rfl (Or.inl rfl)) (pgs_cons (pg_name (i := 1) scKept.nd rfl (Or.inl rfl)) pgs_nil))) (fun _ _ _ _ _ => pts_nil)
                (fun _ _ _ _ _ => pv 2) (fun _ _ _ _ _ => pe_call GK hr rfl U.g U.k U.b .nil pass0 (pa_cons (pv 1) pa_nil)) (fun _ => rfl)))))
          pss_nil)
        (pss_one (ps_ret (pv 0))))), ?_⟩
      rcases dq_alt hq with hs | ⟨m, a, xs, ds, rfl, rfl, rfl, rfl, ha, hp, hl⟩ | ⟨m, a, xs, ds, rfl, rfl, rfl, ha, hp, hl⟩ | ⟨m, a, kvs, kds, rfl, rfl, rfl, rfl, ha, hp, hl, nd⟩
      · obtain ⟨t, ty, h1, h2, h3⟩ := sc_ty (K := K) (H := H) hs
        have fin : Q v H := k H v (Same.refl H) (Dq.sc hs)
        refine ⟨_, rfl, v, .ty "tuple", .type t, .type "tuple", false, rfl, .ty "tuple", ty, kit_ty h1, _, rfl, iteF ?_⟩
        refine ⟨_, rfl, v, .ty "list", .type t, .type "list", false, rfl, .ty "list", ty, kit_ty h2, _, rfl, iteF ?_⟩
        refine ⟨_, rfl, v, .ty "dict", .type t, .type "dict", false, rfl, .ty "dict", ty, kit_ty h3, _, rfl, iteF ?_⟩
        exact ⟨_, rfl, fin⟩
      · have hH := sG _ _ ha
        have lds : ds.length ≤ 100 := by rw [← pr_len hp]; exact hl
        refine ⟨_, rfl, .ref a, .ty "tuple", .type "list", .type "tuple", false, rfl, .ty "tuple", .base (.lst hH), kit_ty (by decide +kernel), _, rfl, iteF ?_⟩
        refine ⟨_, rfl, .ref a, .ty "list", .type "list", .type "list", true, rfl, .ty "list", .base (.lst hH), kit_ty (by decide +kernel), _, rfl, iteT ?_⟩
        refine ⟨_, rfl, a, rfl, ⟨_, SqL.of hH⟩, fun D hD => lc_list (K := K) (a := a) (xs := xs) (Cop G H m false D ds) (Cop.nil hD) (fun i H' _ c => SqL.of (c.1 _ _ hH)) ?_ ?_⟩
        · intro i x H' hx c
          obtain ⟨dx, hdx, qx⟩ := pr_get hp hx
          refine ⟨rfl, okY ⟨_, rfl, false, x, dx, G, rfl, fun a o e => c.1 _ _ (sG _ _ e), qx, fun H2 v' s2 q2 => ?_⟩⟩
          obtain ⟨ys, e1, e2, c2⟩ := c.put hD sG hdx s2 q2
          exact ⟨ys, e1, line100' (by omega), c2⟩
        · rintro H' ⟨s1, ys, h1, h2⟩
          rw [List.take_of_length_le (by rw [pr_len hp]; exact Nat.le_refl _)] at h2
          refine k H' (.ref D) s1 (.inr (.inl ⟨rfl, D, ys, ds, rfl, rfl, old_at (.inr hD) h1, L2.Paired.mapP h2 fun _ _ z => Dq.same hide_same z, by rw [pr_len h2]; exact lds⟩))
      · have hH := sG _ _ ha
        have lds : ds.length ≤ 100 := by rw [← pr_len hp]; exact hl
        refine ⟨_, rfl, .ref a, .ty "tuple", .type "tuple", .type "tuple", true, rfl, .ty "tuple", .base (.tup hH), kit_ty (by decide +kernel), _, rfl, iteT ?_⟩
        refine ⟨_, rfl, a, rfl, ⟨_, SqT.of hH⟩, fun D hD => lc_tup (K := K) (a := a) (xs := xs) (fun i H' => Same H H' ∧ ∃ bs : List Bool, bs.length = i ∧ H' D = some (.lst (bs.map V.bl))) ⟨same_new hD, [], rfl, upd_same⟩ (fun i H' _ c => SqT.of (c.1 _ _ hH)) ?_ ?_⟩
        · rintro i x H' hx ⟨s1, bs, hb, hD'⟩
          obtain ⟨dx, hdx, qx⟩ := pr_get hp hx
          have ix : i < xs.length := (List.getElem?_eq_some_iff.mp hx).1
          refine ⟨rfl, okY ⟨_, rfl, ⟨by show 3 ≤ sizeLine; decide, fun tp htp => ?_⟩⟩⟩
          have s2 := same_new (o := .tup [.ty "tuple", .ty "list", .ty "dict"]) htp
          obtain ⟨t, r, ty, er⟩ := dq_any (K := K) (G := G) (H := upd H' tp (.tup [.ty "tuple", .ty "list", .ty "dict"])) (fun a o e => s2 _ _ (s1 _ _ (sG _ _ e))) qx
          refine ⟨x, tp, [.ty "tuple", .ty "list", .ty "dict"], t, [.type "tuple", .type "list", .type "dict"], r, rfl, upd_same, .cons (.ty _) (.cons (.ty _) (.cons (.ty _) .nil)), ty, er, ?_⟩
          refine ⟨bs.map V.bl, s2 _ _ hD', line100' (by rw [List.length_map]; omega), fun b o e => ?_, bs ++ [r], by simp [hb], ?_⟩
          · rw [upd_ne (ne_of_none e hD)]
            exact s2 _ _ (s1 _ _ e)
          · rw [upd_same, List.map_append]
            rfl
        · rintro H1 ⟨s1, bs, _, hD'⟩
          refine ⟨D, bs, rfl, SqL.of hD', _, rfl, ?_⟩
          by_cases hany : bs.any id = true
          · rw [hany]
            refine iteF ?_
            have hH1 := s1 _ _ hH
            have sG1 : Same G H1 := fun a o e => s1 _ _ (sG _ _ e)
            refine ⟨_, rfl, a, rfl, ⟨_, SqT.of hH1⟩, fun D2 hD2 => lc_tup (K := K) (a := a) (xs := xs) (Cop G H1 m b D2 ds) (Cop.nil hD2) (fun i H' _ c => SqT.of (c.1 _ _ hH1)) ?_ ?_⟩
            · intro i x H' hx c
              obtain ⟨dx, hdx, qx⟩ := pr_get hp hx
              refine ⟨rfl, okY ⟨_, rfl, b, x, dx, G, rfl, fun a o e => c.1 _ _ (sG1 _ _ e), qx, fun H2 v' s2 q2 => ?_⟩⟩
              obtain ⟨ys, e1, e2, c2⟩ := c.put hD2 sG1 hdx s2 q2
              exact ⟨ys, e1, line100' (by omega), c2⟩
            · rintro H' ⟨s2, ys, h1, h2⟩
              rw [List.take_of_length_le (by rw [pr_len hp]; exact Nat.le_refl _)] at h2
              refine ⟨D2, ys, rfl, .inl ⟨SqL.of h1, fun l hl2 => ?_⟩⟩
              have s3 := same_new (o := .tup ys) hl2
              have s02 : Same H H' := fun a o e => s2 _ _ (s1 _ _ e)
              refine k _ (.ref l) (fun a o e => s3 _ _ (s02 _ _ e)) (.inr (.inr (.inl ⟨l, ys, ds, rfl, rfl, old_at (.inr (s02.free hl2)) upd_same, L2.Paired.mapP h2 fun _ _ z => Dq.same (fun a o e => ?_) z, by rw [pr_len h2]; exact lds⟩)))
              obtain ⟨c, e1⟩ := old_of (hide_same _ _ e)
              refine old_at ?_ (s3 _ _ e1)
              rcases c with c | c
              · exact .inl c
              · exact .inr (s1.free c)
          · have hf : bs.any id = false := by
              cases q : bs.any id
              · rfl
              · exact absurd q hany
            rw [hf]
            exact iteT ⟨_, rfl, k H1 (.ref a) s1 (Dq.same (fun a o e => old_at (.inl ⟨o, e⟩) (s1 _ _ (sG _ _ e))) hq)⟩
      · have hH := sG _ _ ha
        refine ⟨_, rfl, .ref a, .ty "tuple", .type "dict", .type "tuple", false, rfl, .ty "tuple", .base (.dK hH), kit_ty (by decide +kernel), _, rfl, iteF ?_⟩
        refine ⟨_, rfl, .ref a, .ty "list", .type "dict", .type "list", false, rfl, .ty "list", .base (.dK hH), kit_ty (by decide +kernel), _, rfl, iteF ?_⟩
        refine ⟨_, rfl, .ref a, .ty "dict", .type "dict", .type "dict", true, rfl, .ty "dict", .base (.dK hH), kit_ty (by decide +kernel), _, rfl, iteT ?_⟩
        refine ⟨a, .dK kvs, hH, True.intro, fun od => ?_⟩
        generalize hHl : upd H a (.frz od (.dK kvs)) = Hl
        have la : Hl a = some (.frz od (.dK kvs)) := by rw [← hHl]; exact upd_same
        have ln : ∀ {b : Addr}, b ≠ a → Hl b = H b := fun n => by rw [← hHl]; exact upd_ne n
        refine ⟨_, rfl, a, od, kvs, rfl, la, fun D hD => dc_its (fun i H' => Same Hl H' ∧ ∃ ks : List (Key × V), H' D = some (.dK ks) ∧ ks.map (·.1) = (kvs.take i).map (·.1) ∧
          Paired (fun (p : Key × V) (q : PyData × PyData) => Sc (kV p.1) q.1 ∧ Dq (old (hide a G) Hl H') m true p.2 q.2) ks (kds.take i)) ⟨same_new hD, [], upd_same, rfl, .nil⟩ (fun i H' c => c.1 _ _ la) ?_ ?_⟩
        · rintro i kk v T H' hk ⟨s1, ks, hD', hkeys, hp'⟩ hT
          obtain ⟨q, hq1, hsc, hqd⟩ := pr_get hp hk
          refine ⟨T, _, rfl, SqT.of upd_same, rfl, _, _, rfl, _, _, rfl, rfl, rfl, okY ⟨_, rfl, _, rfl, ?_⟩⟩
          have sT := same_new (o := .tup [kV kk, v]) hT
          generalize upd H' T (.tup [kV kk, v]) = H1 at sT
          have s0 : Same (hide a G) H1 := fun b o e => by
            have nb : b ≠ a := fun z => by subst z; unfold hide at e; rw [if_pos rfl] at e; cases e
            exact sT _ _ (s1 _ _ (by rw [ln nb]; exact sG _ _ (hide_same _ _ e)))
          have hqt : Dq (hide a G) m true v q.2 := Dq.tups (fun b xs e => hide_at (fun z => by rw [z, ha] at e; cases e) e) hqd
          refine ⟨true, v, q.2, hide a G, rfl, s0, hqt, fun H2 v' s2 q2 => ?_⟩
          have hD2 : H2 D = some (.dK ks) := s2 _ _ (sT _ _ hD')
          have fresh : valV ks kk = none := by
            unfold valV
            rw [List.find?_eq_none.mpr]
            · rfl
            · intro x hx z
              have z : x.1 = kk := by simpa using z
              have m1 : kk ∈ ks.map (·.1) := List.mem_map.mpr ⟨x, hx, z⟩
              rw [hkeys] at m1
              have e := take_succ1 hk
              have nd2 : ((kvs.take (i + 1)).map (·.1)).Nodup := (nd.sublist ((List.take_sublist _ _).map _))
              rw [e, List.map_append, List.nodup_append] at nd2
              exact nd2.2.2 _ m1 _ (by simp) rfl
          have il : i < kvs.length := (List.getElem?_eq_some_iff.mp hk).1
          have lk : ks.length = i := by
            have := congrArg List.length hkeys
            rw [List.length_map, List.length_map, List.length_take] at this
            omega
          refine ⟨ks, kk, rfl, hD2, line100' (by omega), fun b o e => ?_, ks ++ [(kk, v')], by rw [upd_same, putK_new _ fresh], ?_, ?_⟩
          · rw [upd_ne (ne_of_none e hD)]
            exact s2 _ _ (sT _ _ (s1 _ _ e))
          · rw [take_succ1 hk, List.map_append, List.map_append, hkeys]
            rfl
          · refine pr_take (L2.Paired.mapP hp' fun _ _ z => ⟨z.1, Dq.tups (fun b xs e => ?_) z.2⟩) hq1 ⟨hsc, Dq.tups (fun b xs e => ?_) q2⟩
            · obtain ⟨c, e1⟩ := old_of e
              have nb : b ≠ D := ne_of e1 hD' (fun z => by cases z)
              exact old_at c (by rw [upd_ne nb]; exact s2 _ _ (sT _ _ e1))
            · obtain ⟨c, e1⟩ := old_of e
              have nb : b ≠ D := ne_of e1 hD2 (fun z => by cases z)
              refine old_at ?_ (by rw [upd_ne nb]; exact e1)
              rcases c with c | c
              · exact .inl c
              · exact .inr (Same.free (H := Hl) (H' := H1) (fun b o e => sT _ _ (s1 _ _ e)) c)
        · rintro H' ⟨s1, ks, hD', hkeys, hp'⟩
          have fa : H' a = some (.frz od (.dK kvs)) := s1 _ _ la
          have nDa : D ≠ a := fun z => by rw [z, la] at hD; cases hD
          have hDn : H D = none := by rw [← ln nDa]; exact hD
          rw [List.take_of_length_le (Nat.le_refl _)] at hkeys
          rw [List.take_of_length_le (by rw [pr_len hp]; exact Nat.le_refl _)] at hp'
          have lk : ks.length = kvs.length := by
            have := congrArg List.length hkeys
            rwa [List.length_map, List.length_map] at this
          refine ⟨fa, k _ (.ref D) (fun b o e => ?_) (.inr (.inr (.inr ⟨rfl, D, ks, kds, rfl, rfl, old_at (.inr hDn) (by rw [upd_ne nDa]; exact hD'), L2.Paired.mapP hp' fun _ _ z => ⟨z.1, Dq.tups (fun b xs e => ?_) z.2⟩, by omega, by rw [hkeys]; exact nd⟩)))⟩
          · by_cases z : b = a
            · subst z
              rw [hH] at e
              cases e
              exact upd_same
            · rw [upd_ne z]
              exact s1 _ _ (by rw [ln z]; exact e)
          · obtain ⟨c, e1⟩ := old_of e
            have nb : b ≠ a := ne_of e1 fa (fun z => by cases z)
            refine old_at ?_ (by rw [upd_ne nb]; exact e1)
            rcases c with ⟨u, c⟩ | c
            · exact .inl ⟨u, hide_same _ _ c⟩
            · exact .inr (by rw [← ln nb]; exact c)
end

/-! ### the __init__s -/
def spI1 (K : PySem.W.Frag) (f : Str) : Sp := fun vs H Q _ => ∃ (a C : Addr) (v : V) (d : PyData) (G : Hp), vs = [.ref a, v] ∧ OexC K C ∧ PySem.W.findIn K (.ref C) f = some none ∧ H a = some (exo a C none) ∧ Same G H ∧ G a = none ∧ Dq G 2 false v d ∧
  ∀ (Hf : Hp) (v' : V) (dd : Addr), Same (hide a H) Hf → Hf a = some (exo a C (some dd)) → Hf dd = some (exd dd [(f, v')]) → H dd = none → Dq Hf 2 false v' d → Q .non Hf
def spI2 (K : PySem.W.Frag) (f1 f2 : Str) : Sp := fun vs H Q _ => ∃ (a C : Addr) (v1 v2 : V) (d1 d2 : PyData) (G : Hp), vs = [.ref a, v1, v2] ∧ OexC K C ∧ PySem.W.findIn K (.ref C) f1 = some none ∧ PySem.W.findIn K (.ref C) f2 = some none ∧ H a = some (exo a C none) ∧
  Same G H ∧ G a = none ∧ Dq G 2 false v1 d1 ∧ Dq G 2 false v2 d2 ∧
  ∀ (Hf : Hp) (v1' v2' : V) (dd : Addr), Same (hide a H) Hf → Hf a = some (exo a C (some dd)) → Hf dd = some (exd dd [(f2, v2'), (f1, v1')]) → H dd = none → Dq Hf 2 false v1' d1 → Dq Hf 2 false v2' d2 → Q .non Hf
/-- of what is old in this way, nothing stands at a -/
theorem old_ne {G H H' : Hp} {a b : Addr} {o u : HO} (ha : H a = some u) (hg : G a = none) (e : old G H H' b = some o) : b ≠ a := fun z => by
  subst z
  obtain ⟨c, _⟩ := old_of e
  rcases c with ⟨u, c⟩ | c
  · rw [hg] at c; cases c
  · rw [ha] at c; cases c
section
variable {P : Program} {w : World} {K : PySem.W.Frag} {mg : Str → Option Value} {base : Heap}
theorem ok_init1 {st : Stmt} {f qual : Str} {fI fK : Addr} {fd fdK : FuncData} {p1 p2 p3 p4 p5 p6 : Pos} (F : Fun K "__init__" qual st fI fd) (T : TxtK mg) (U : Def K mg "kept" sKept ["value"] fK fdK) (S : FnScope ["self", f] ["self", f] (defScope st))
    (hB : defBody st = [.Assign [.Attribute (.Name "self" p1) f p2] (.Call (.Name "kept" p5) [.Name f p3] [] p6) p4])
    (h0 : Vis (defScope st) "self") (h1 : Vis (defScope st) f) (hgk : (defScope st).names.lookup ("kept" : Str) = some .globalImplicit) (hd : (f == ("__debug__" : Str)) = false) (hc : (f == ("__classdict__" : Str)) = false) : FnOk P w K mg base CX0 4 fI fd ["self", f] (spI1 K f) := by
  have GK : FnOk P w K mg base CX0 3 fK fdK ["value"] (spK 3) := ok_kept T U 3
  refine F.ok S (fun vs H Q E h => ?_) (fun cdv A outer s H vs Q E hr h => ?_)
  · obtain ⟨a, C, v, d, G, rfl, _⟩ := h
    rfl
  · obtain ⟨a, C, v, d, G, rfl, O, no, ha, sG, ga, hq, k⟩ := h
    rw [hB]
    refine ⟨_, pss_one (ps_ost (pv 0 rfl h0) (pe_call GK hr hgk U.g U.k U.b .nil pass0 (pa_cons (pv 1 rfl h1 hd hc) pa_nil))), ?_⟩
    refine ⟨_, rfl, false, v, d, G, rfl, sG, hq, fun H' v' s q => ⟨_, rfl, a, C, rfl, O, no, .inl ⟨s _ _ ha, fun dd hn ne => ?_⟩⟩⟩
    refine k _ v' dd (fun b o e => ?_) upd_same (by rw [upd_ne ne, upd_same]) (s.free hn) (Dq.same (fun b o e => ?_) q)
    · have nb : b ≠ a := fun z => by subst z; unfold hide at e; rw [if_pos rfl] at e; cases e
      have e1 := s _ _ (hide_same _ _ e)
      rw [upd_ne nb, upd_ne (ne_of_none e1 hn)]
      exact e1
    · have nb := old_ne ha ga e
      obtain ⟨_, e1⟩ := old_of e
      rw [upd_ne nb, upd_ne (ne_of_none e1 hn)]
      exact e1
theorem ok_init2 {st : Stmt} {f1 f2 qual : Str} {fI fK : Addr} {fd fdK : FuncData} {p1 p2 p3 p4 p5 p6 q1 q2 q3 q4 q5 q6 : Pos} (F : Fun K "__init__" qual st fI fd) (T : TxtK mg) (U : Def K mg "kept" sKept ["value"] fK fdK) (S : FnScope ["self", f1, f2] ["self", f1, f2] (defScope st))
    (hB : defBody st = [.Assign [.Attribute (.Name "self" p1) f1 p2] (.Call (.Name "kept" p5) [.Name f1 p3] [] p6) p4, .Assign [.Attribute (.Name "self" q1) f2 q2] (.Call (.Name "kept" q5) [.Name f2 q3] [] q6) q4])
    (h0 : Vis (defScope st) "self") (h1 : Vis (defScope st) f1) (h2 : Vis (defScope st) f2) (hgk : (defScope st).names.lookup ("kept" : Str) = some .globalImplicit) (hd : (f1 == ("__debug__" : Str)) = false) (hc : (f1 == ("__classdict__" : Str)) = false) (hd2 : (f2 == ("__debug__" : Str)) = false) (hc2 : (f2 == ("__classdict__" : Str)) = false) :
    FnOk P w K mg base CX0 4 fI fd ["self", f1, f2] (spI2 K f1 f2) := by
  have GK : FnOk P w K mg base CX0 3 fK fdK ["value"] (spK 3) := ok_kept T U 3
  refine F.ok S (fun vs H Q E h => ?_) (fun cdv A outer s H vs Q E hr h => ?_)
  · obtain ⟨a, C, v1, v2, d1, d2, G, rfl, _⟩ := h
    rfl
  · obtain ⟨a, C, v1, v2, d1, d2, G, rfl, O, no1, no2, ha, sG, ga, hq1, hq2, k⟩ := h
    rw [hB]
    refine ⟨_, pss_cons (ps_ost (pv 0 rfl h0) (pe_call GK hr hgk U.g U.k U.b .nil pass0 (pa_cons (pv 1 rfl h1 hd hc) pa_nil))) (pss_one (ps_ost (pv 0 rfl h0) (pe_call GK hr hgk U.g U.k U.b .nil pass0 (pa_cons (pv 2 rfl h2 hd2 hc2) pa_nil)))), ?_⟩
    refine ⟨_, rfl, false, v1, d1, G, rfl, sG, hq1, fun H1 v1' s1 r1 => ⟨_, rfl, a, C, rfl, O, no1, .inl ⟨s1 _ _ ha, fun dd hn ne => ?_⟩⟩⟩
    have keep1 : ∀ b o, b ≠ a → H1 b = some o → upd (upd H1 dd (exd dd [(f1, v1')])) a (exo a C (some dd)) b = some o := fun b o nb e => by
      rw [upd_ne nb, upd_ne (ne_of_none e hn)]
      exact e
    have ea : upd (upd H1 dd (exd dd [(f1, v1')])) a (exo a C (some dd)) a = some (exo a C (some dd)) := upd_same
    have ed : upd (upd H1 dd (exd dd [(f1, v1')])) a (exo a C (some dd)) dd = some (exd dd [(f1, v1')]) := by rw [upd_ne ne, upd_same]
    generalize upd (upd H1 dd (exd dd [(f1, v1')])) a (exo a C (some dd)) = H2 at keep1 ea ed
    have sG2 : Same G H2 := fun b o e => keep1 b o (fun z => by subst z; rw [ga] at e; cases e) (s1 _ _ (sG _ _ e))
    refine ⟨_, rfl, false, v2, d2, G, rfl, sG2, hq2, fun H3 v2' s3 r3 => ?_⟩
    refine ⟨_, rfl, a, C, rfl, O, no2, .inr ⟨dd, _, s3 _ _ ea, s3 _ _ ed, by show 1 ≤ 900; decide, ?_⟩⟩
    have gd : H dd = none := s1.free hn
    have gG : G dd = none := sG.free gd
    refine k _ v1' v2' dd (fun b o e => ?_) (by rw [upd_ne ne.symm]; exact s3 _ _ ea) upd_same gd (Dq.same (fun b o e => ?_) r1) (Dq.same (fun b o e => ?_) r3)
    · have nb : b ≠ a := fun z => by subst z; unfold hide at e; rw [if_pos rfl] at e; cases e
      have e1 := s1 _ _ (hide_same _ _ e)
      rw [upd_ne (ne_of_none e1 hn)]
      exact s3 _ _ (keep1 _ _ nb e1)
    · have nb := old_ne ha ga e
      obtain ⟨_, e1⟩ := old_of e
      rw [upd_ne (ne_of_none e1 hn)]
      exact s3 _ _ (keep1 _ _ nb e1)
    · have nb := old_ne ed gG e
      obtain ⟨_, e1⟩ := old_of e
      rw [upd_ne nb]
      exact e1
end

def gPos {α : Type} (us ws : List α) : List α := us
def gKey {α : Type} (us ws : List α) : List α := match us, ws with
  | [u], [w] => [u, w]
  | _, _ => []
/-- the class at C has an __init__ of one field f -/
structure I1 (P : Program) (w : World) (K : PySem.W.Frag) (mg : Str → Option Value) (base : Heap) (C : Addr) (f : Str) : Prop where
  ex : ∃ (fI : Addr) (fd : FuncData), PySem.W.findIn K (.ref C) "__init__" = some (some (.ref fI)) ∧ PySem.W.typeIn K (.ref fI) = some (.type "function") ∧ FnOk P w K mg base CX0 4 fI fd ["self", f] (spI1 K f) ∧
    KBinds K fd ["self", f] [] gPos gPos ∧ KBinds K fd ["self", f] [f] gKey gKey
  no : PySem.W.findIn K (.ref C) f = some none

def gKey2 {α : Type} (us ws : List α) : List α := match us, ws with
  | [u], [w1, w2] => [u, w2, w1]
  | _, _ => []
structure I2 (P : Program) (w : World) (K : PySem.W.Frag) (mg : Str → Option Value) (base : Heap) (C : Addr) (f1 f2 : Str) : Prop where
  ex : ∃ (fI : Addr) (fd : FuncData), PySem.W.findIn K (.ref C) "__init__" = some (some (.ref fI)) ∧ PySem.W.typeIn K (.ref fI) = some (.type "function") ∧ FnOk P w K mg base CX0 4 fI fd ["self", f1, f2] (spI2 K f1 f2) ∧
    KBinds K fd ["self", f1, f2] [] gPos gPos ∧ KBinds K fd ["self", f1, f2] [f2, f1] gKey2 gKey2
  n1 : PySem.W.findIn K (.ref C) f1 = some none
  n2 : PySem.W.findIn K (.ref C) f2 = some none

def CK (K : PySem.W.Frag) (S : Addr) (x : Str) (C : Addr) : Prop := ∀ (mg : Str → Option Value) (h : Heap), K.In h → h.Ns mainGlobals mg → XC K mg S x C
theorem ck_mk {K : PySem.W.Frag} {S C : Addr} {x : Str} {nm q : Str} {N : Addr} {bs : List Value} {sn : List Str} {sub : List Value} {ab : Bool} {col : Option Bool} {dd : Option Addr} {k0 k1 k2 k3 k5 : Option Value}
    (a : PySem.W.nsIn K mainGlobals x = some (some (.ref C)))
    (l : K.lookup C = some (excClassObj nm q C N bs [.ref S, .type "ValueError", .type "Exception", .type "BaseException", .type "object"] true sn sub ab col dd k0 k1 k2 k3 k5 "ValueError.__new__"))
    (sa : PySem.W.findIn K (.ref C) "__setattr__" = some (some (.builtin "object.__setattr__"))) (exC : PySem.W.subIn K (.ref C) (.type "BaseException") = some true) (tyC : PySem.W.typeIn K (.ref C) = some (.type "type")) (kC : PySem.W.keepIn K (.ref C) = true)
    (hg : PySem.W.findIn K (.ref C) "__getattribute__" = some (some (.builtin "BaseException.__getattribute__"))) (hk : PySem.W.findIn K (.ref C) "__getattr__" = some none) (hd : PySem.W.hasDictIn K C = true) (ha : PySem.W.findIn K (.ref C) "__class__" = some (some (.builtin "object.__class__")))
    (hn : PySem.W.specialIn K (.builtin "object.__class__") "__get__" = some (some (.builtin "getset_descriptor.__get__"))) (ht : PySem.W.takesIn K (.builtin "object.__class__") = some true) (hm : PySem.W.mroIn K C (.type "object") = some true) : CK K S x C := by
  intro mg h X G
  refine ⟨PySem.W.mg_of X G a, ⟨⟨_, _, _, _, _, _, _, _, _, _, _, _, _, _, _, l, rfl⟩, sa, exC, tyC, kC⟩, ⟨hg, hk, exC, hd, ha, hn, ht, hm⟩, ?_⟩
  unfold PySem.W.clsIn
  rw [l]
  exact ⟨_, rfl, rfl⟩

theorem kb_pos {K : PySem.W.Frag} {fd : FuncData} {ps : List Str} (h : ∀ us : List Value, us.length = ps.length → bindArgs fd ⟨us, []⟩ = pure (ps.zip us)) : KBinds K fd ps [] gPos gPos := by
  refine ⟨fun s us ws X hl => ?_, fun r _ => r⟩
  exact .of_eq (h us hl)
theorem kb_key {K : PySem.W.Frag} {fd : FuncData} {a f : Str} (h : ∀ u w : Value, bindArgs fd ⟨[u], [(f, w)]⟩ = pure [(a, u), (f, w)]) : KBinds K fd [a, f] [f] gKey gKey := by
  constructor
  · intro s us ws X hl
    match us, ws, hl with
    | [u], [w], _ => exact .of_eq (h u w)
    | [], _, hl => exact nomatch hl
    | [_], [], hl => exact nomatch hl
    | [_], _ :: _ :: _, hl => exact nomatch hl
    | _ :: _ :: _, _, hl => exact nomatch hl
  · intro vs us zs ws r q
    match r, q with
    | .cons r1 .nil, .cons q1 .nil => exact .cons r1 (.cons q1 .nil)
    | .nil, _ => exact .nil
    | .cons _ .nil, .nil => exact .nil
    | .cons _ .nil, .cons _ (.cons _ _) => exact .nil
    | .cons _ (.cons _ _), _ => exact .nil
theorem kb_key2 {K : PySem.W.Frag} {fd : FuncData} {a f1 f2 : Str} (h : ∀ u w1 w2 : Value, bindArgs fd ⟨[u], [(f2, w2), (f1, w1)]⟩ = pure [(a, u), (f1, w1), (f2, w2)]) : KBinds K fd [a, f1, f2] [f2, f1] gKey2 gKey2 := by
  constructor
  · intro s us ws X hl
    match us, ws, hl with
    | [u], [w2, w1], _ => exact .of_eq (h u w1 w2)
    | [], _, hl => exact nomatch hl
    | [_], [], hl => exact nomatch hl
    | [_], [_], hl => exact nomatch hl
    | [_], _ :: _ :: _ :: _, hl => exact nomatch hl
    | _ :: _ :: _, _, hl => exact nomatch hl
  · intro vs us zs ws r q
    match r, q with
    | .cons r1 .nil, .cons q1 (.cons q2 .nil) => exact .cons r1 (.cons q2 (.cons q1 .nil))
    | .nil, _ => exact .nil
    | .cons _ .nil, .nil => exact .nil
    | .cons _ .nil, .cons _ .nil => exact .nil
    | .cons _ .nil, .cons _ (.cons _ (.cons _ _)) => exact .nil
    | .cons _ (.cons _ _), _ => exact .nil
/-- the __init__ of one field -/
theorem i1_mk {K : PySem.W.Frag} {C fI : Addr} {f qual : Str} {st : Stmt} {oc : Value} {od an : Option Addr} {sl : Array (Option Value)} {kV dc pm cd ct : Value} {p1 p2 p3 p4 p5 p6 : Pos}
    (S : FnScope ["self", f] ["self", f] (defScope st)) (hB : defBody st = [.Assign [.Attribute (.Name "self" p1) f p2] (.Call (.Name "kept" p5) [.Name f p3] [] p6) p4]) (h0 : Vis (defScope st) "self") (h1 : Vis (defScope st) f) (hgk : (defScope st).names.lookup ("kept" : Str) = some .globalImplicit) (hd : (f == ("__debug__" : Str)) = false) (hc : (f == ("__classdict__" : Str)) = false)
    (b1 : ∀ (kV dc pm : Value) (an : Option Addr) (cd ct : Value) (us : List Value), us.length = 2 → bindArgs (PySem.W.fnOf "__init__" qual (defArgs st) (defBody st) (defScope st) .none kV dc pm an cd ct) ⟨us, []⟩ = pure ((["self", f] : List Str).zip us))
    (b2 : ∀ (kV dc pm : Value) (an : Option Addr) (cd ct : Value) (u w : Value), bindArgs (PySem.W.fnOf "__init__" qual (defArgs st) (defBody st) (defScope st) .none kV dc pm an cd ct) ⟨[u], [(f, w)]⟩ = pure [(("self" : Str), u), (f, w)])
    (a : PySem.W.findIn K (.ref C) "__init__" = some (some (.ref fI))) (t : PySem.W.typeIn K (.ref fI) = some (.type "function"))
    (l : K.lookup fI = some ⟨oc, od, .func (PySem.W.fnOf "__init__" qual (defArgs st) (defBody st) (defScope st) .none kV dc pm an cd ct), sl⟩) (c : PySem.W.codeIn K cd qual = true) (k : PySem.W.keepIn K (.ref fI) = true) (no : PySem.W.findIn K (.ref C) f = some none) :
    ∀ (P : Program) (w : World) (mg : Str → Option Value) (base : Heap), TxtK mg → ∀ {fK : Addr} {fdK : FuncData}, Def K mg "kept" sKept ["value"] fK fdK → I1 P w K mg base C f := fun P w mg base T _ _ U =>
  ⟨⟨fI, _, a, t, ok_init1 (fun_mk (st := st) l c k) T U S hB h0 h1 hgk hd hc, kb_pos (b1 kV dc pm an cd ct), kb_key (b2 kV dc pm an cd ct)⟩, no⟩
theorem i2_mk {K : PySem.W.Frag} {C fI : Addr} {f1 f2 qual : Str} {st : Stmt} {oc : Value} {od an : Option Addr} {sl : Array (Option Value)} {kV dc pm cd ct : Value} {p1 p2 p3 p4 p5 p6 q1 q2 q3 q4 q5 q6 : Pos}
    (S : FnScope ["self", f1, f2] ["self", f1, f2] (defScope st)) (hB : defBody st = [.Assign [.Attribute (.Name "self" p1) f1 p2] (.Call (.Name "kept" p5) [.Name f1 p3] [] p6) p4, .Assign [.Attribute (.Name "self" q1) f2 q2] (.Call (.Name "kept" q5) [.Name f2 q3] [] q6) q4])
    (h0 : Vis (defScope st) "self") (h1 : Vis (defScope st) f1) (h2 : Vis (defScope st) f2) (hgk : (defScope st).names.lookup ("kept" : Str) = some .globalImplicit) (hd : (f1 == ("__debug__" : Str)) = false) (hc : (f1 == ("__classdict__" : Str)) = false) (hd2 : (f2 == ("__debug__" : Str)) = false) (hc2 : (f2 == ("__classdict__" : Str)) = false)
    (b1 : ∀ (kV dc pm : Value) (an : Option Addr) (cd ct : Value) (us : List Value), us.length = 3 → bindArgs (PySem.W.fnOf "__init__" qual (defArgs st) (defBody st) (defScope st) .none kV dc pm an cd ct) ⟨us, []⟩ = pure ((["self", f1, f2] : List Str).zip us))
    (b2 : ∀ (kV dc pm : Value) (an : Option Addr) (cd ct : Value) (u w1 w2 : Value), bindArgs (PySem.W.fnOf "__init__" qual (defArgs st) (defBody st) (defScope st) .none kV dc pm an cd ct) ⟨[u], [(f2, w2), (f1, w1)]⟩ = pure [(("self" : Str), u), (f1, w1), (f2, w2)])
    (a : PySem.W.findIn K (.ref C) "__init__" = some (some (.ref fI))) (t : PySem.W.typeIn K (.ref fI) = some (.type "function"))
    (l : K.lookup fI = some ⟨oc, od, .func (PySem.W.fnOf "__init__" qual (defArgs st) (defBody st) (defScope st) .none kV dc pm an cd ct), sl⟩) (c : PySem.W.codeIn K cd qual = true) (k : PySem.W.keepIn K (.ref fI) = true) (n1 : PySem.W.findIn K (.ref C) f1 = some none) (n2 : PySem.W.findIn K (.ref C) f2 = some none) :
    ∀ (P : Program) (w : World) (mg : Str → Option Value) (base : Heap), TxtK mg → ∀ {fK : Addr} {fdK : FuncData}, Def K mg "kept" sKept ["value"] fK fdK → I2 P w K mg base C f1 f2 := fun P w mg base T _ _ U =>
  ⟨⟨fI, _, a, t, ok_init2 (fun_mk (st := st) l c k) T U S hB h0 h1 h2 hgk hd hc hd2 hc2, kb_pos (b1 kV dc pm an cd ct), kb_key2 (b2 kV dc pm an cd ct)⟩, n1, n2⟩
/-- a def of the module -/
theorem d_mk {K : PySem.W.Frag} {x : Str} {st : Stmt} {ps : List Str} {f : Addr} {oc : Value} {od an : Option Addr} {sl : Array (Option Value)} {kV dc pm cd ct : Value}
    (b : ∀ (kV dc pm : Value) (an : Option Addr) (cd ct : Value) (us : List Value), us.length = ps.length → bindArgs (PySem.W.fnOf x x (defArgs st) (defBody st) (defScope st) .none kV dc pm an cd ct) ⟨us, []⟩ = pure (ps.zip us))
    (a : PySem.W.nsIn K mainGlobals x = some (some (.ref f))) (l : K.lookup f = some ⟨oc, od, .func (PySem.W.fnOf x x (defArgs st) (defBody st) (defScope st) .none kV dc pm an cd ct), sl⟩) (c : PySem.W.codeIn K cd x = true) (k : PySem.W.keepIn K (.ref f) = true) :
    ∀ (mg : Str → Option Value) (h : Heap), K.In h → h.Ns mainGlobals mg → ∃ fd, Def K mg x st ps f fd := fun mg h X G => by
  have F := fun_mk (st := st) l c k
  exact ⟨_, PySem.W.mg_of X G a, k, F.binds b, F⟩
/-- data speaks of lists, tuples and dicts alone -/
def datO : HO → Bool
  | .lst _ => true
  | .tup _ => true
  | .dK _ => true
  | _ => false
theorem Dq.dat {H H' : Hp} (s : ∀ b o, datO o = true → H b = some o → H' b = some o) : ∀ {n : Nat} {b : Bool} {v : V} {d : PyData}, Dq H n b v d → Dq H' n b v d
  | 0, _, _, _, h => h
  | n + 1, b, v, d, h => by
    have ih : ∀ {b v d}, Dq H n b v d → Dq H' n b v d := fun h => Dq.dat s h
    rcases h with h | ⟨e0, a, xs, ds, e1, e2, h1, h2, h3⟩ | ⟨a, xs, ds, e1, e2, h1, h2, h3⟩ | ⟨e0, a, xs, ds, e1, e2, h1, h2, h3⟩
    · exact .inl h
    · exact .inr (.inl ⟨e0, a, xs, ds, e1, e2, s _ _ rfl h1, L2.Paired.mapP h2 fun _ _ z => ih z, h3⟩)
    · exact .inr (.inr (.inl ⟨a, xs, ds, e1, e2, s _ _ rfl h1, L2.Paired.mapP h2 fun _ _ z => ih z, h3⟩))
    · exact .inr (.inr (.inr ⟨e0, a, xs, ds, e1, e2, s _ _ rfl h1, L2.Paired.mapP h2 fun _ _ z => ⟨z.1, ih z.2⟩, h3⟩))
end Kone
namespace Gd
open PySem L2
open PySem.W (kdx_alive)
/-- a zip's record -/
abbrev IsZ (h : Heap) (z TI TO : Addr) (f0 : Value) (f : Bool) : Prop :=
  h.get? z = some { cls := .type "zip", dict := none, data := .fields #[f0, .bool f, .bool false, .ref TI, .ref TO], slots := #[] }
/-- what stands where a zip keeps the tuple that is out -/
def Own (v : Value) : Prop := v = .none ∨ ∃ a : Addr, v = rawInt a
abbrev IsTp (h : Heap) (T : Addr) (vs : Array Value) : Prop := h.get? T = some { cls := .type "tuple", data := .seq vs }
abbrev SI (h : Heap) (a : Addr) (x : Str) (t : Tok) (i : Nat) : Prop := h.IsStrIter a (strIterType x) x t i
/-- the i-th sign of x -/
def SG (x : Str) (i : Nat) (v : Value) : Prop := ∃ c u, x.cps[i]? = some c ∧ v = .str ⟨#[c]⟩ u
section
variable {prog : Program} {w : World} {A : Around} {E : Value → Shared → Prop} {s : Shared}
theorem si_over {h h' : Heap} {a b : Addr} {x : Str} {t : Tok} {i : Nat} (st : SI h a x t i) (hs : Heap.SameBut b h h') (ne : a ≠ b) : SI h' a x t i := by
  obtain ⟨o, ho, r⟩ := st
  exact ⟨o, hs.extBut _ _ ne ho, r⟩
theorem si_push {h : Heap} {a : Addr} {x : Str} {t : Tok} {i : Nat} {o' : Obj} (st : SI h a x t i) : SI (h.push o') a x t i := by
  obtain ⟨o, ho, r⟩ := st
  exact ⟨o, Heap.get?_push_of_some _ ho, r⟩
theorem kdx_dead {a : Addr} {Q : Option Obj → Shared → Prop} (ho : s.heap.get? a = none) (h : Q none s) : wpAny (model prog w) A (loadIfAlive a) Q E s := by
  have h' : Q (s.heap.get? a) s := by rw [ho]; exact h
  exact fun _ _ _ => h'
theorem is_free {z TI TO : Addr} {f0 : Value} {f : Bool} {Q : Bool → Shared → Prop} (hz : IsZ s.heap z TI TO f0 f) (ow : Own f0) (h1 : Q true s) (h2 : ∀ h' f', IsZ h' z TI TO f0 f' → Heap.SameBut z s.heap h' → Q false { s with heap := h' }) :
    wpAny (model prog w) A (Builtin.SmallTypes.ownedTupleIsFree (.ref z)) Q E s := by
  unfold Builtin.SmallTypes.ownedTupleIsFree
  rcases ow with rfl | ⟨T, rfl⟩
  · exact wpAny_bind (wpAny_field hz rfl (x := .none) rfl (wpAny_pure h1))
  · refine wpAny_bind (wpAny_field hz rfl (x := rawInt T) rfl ?_)
    show wpAny _ _ (loadIfAlive ((T : Int).toNat) >>= _) _ _ _
    rw [Int.toNat_natCast]
    cases hT : s.heap.get? T with
    | none =>
      refine wpAny_bind (kdx_dead hT ?_)
      simp only [Option.isNone_none, if_true]
      exact wpAny_pure h1
    | some oT =>
      refine wpAny_bind (kdx_alive hT ?_)
      simp only [Option.isNone_some, Bool.false_eq_true, if_false]
      refine wpAny_bind (wpAny_field hz rfl (x := .bool f) rfl ?_)
      cases f with
      | true =>
        rw [if_neg (show ¬ ((Value.bool true != Value.bool true) = true) from Bool.false_ne_true)]
        exact wpAny_pure (h2 s.heap true hz (Heap.SameBut.refl _ _))
      | false =>
        rw [if_pos (show (Value.bool false != Value.bool true) = true from rfl)]
        exact wpAny_bind (wpAny_setField_rec hz (by simp) fun h₁ hz₁ hs₁ => wpAny_pure (h2 h₁ true hz₁ hs₁))
theorem up_tp {T : Addr} {vs : Array Value} {x : Value} {k : Nat} {Q : Unit → Shared → Prop} (hT : IsTp s.heap T vs) (l : vs.size ≤ 3)
    (h : ∀ h', IsTp h' T (vs.setIfInBounds k x) → Heap.SameBut T s.heap h' → Q () { s with heap := h' }) :
    wpAny (model prog w) A (updateSeq T (·.setIfInBounds k x)) Q E s := by
  refine wpAny_updateSeq hT rfl (h _ ?_ (Heap.SameBut.update ..)) (Nat.le_trans l (by decide)) (by rw [Array.size_setIfInBounds]; exact Nat.le_trans l (by decide))
  rw [IsTp, Heap.get?_update_self _ hT rfl]
  simp [Obj.mapSeq]
end

/-! ### 1 -/
structure ZS1 (N : Nat) (x1 : Str) (t1 : Tok) (i : Nat) (h : Heap) : Prop where
  z : ∃ f0 f, IsZ h (N + 3) (N + 1) (N + 2) f0 f ∧ Own f0
  TI : IsTp h (N + 1) #[.ref N]
  TO : ∃ a1, IsTp h (N + 2) #[a1]
  i1 : SI h N x1 t1 i
section
variable {prog : Program} {w : World} {A : Around} {E : Value → Shared → Prop} {s : Shared} {N i : Nat} {x1 : Str} {t1 : Tok}
theorem zs1_item {Q : Value → Shared → Prop} (hh : A.handled = none) (S : ZS1 N x1 t1 i s.heap) (l1 : i < x1.cps.size)
    (hQ : ∀ v1 h' tk, SG x1 i v1 → ZS1 N x1 t1 (i + 1) h' → IsTp h' s.heap.objs.size #[v1] → h'.objs.size = s.heap.objs.size + 1 → (∀ c o, c ≠ N → c ≠ (N + 2) → c ≠ (N + 3) → s.heap.get? c = some o → h'.get? c = some o) → Q (.ref s.heap.objs.size) { s with heap := h', toks := tk }) :
    wpAny (model prog w) A (Builtin.«zip.__next__» ⟨[.ref (N + 3)], []⟩) (fun fin s' => ∃ v, fin = .done (.ret v) ∧ Q v s') E s := by
  obtain ⟨hp, g, d, tk0, os⟩ := s
  obtain ⟨⟨f0, f, hz, ow⟩, hTI, ⟨a1, hTO⟩, st1⟩ := S
  show wpAny _ _ (field (.ref (N + 3)) 2 >>= _) _ _ _
  refine wpAny_bind (wpAny_field hz rfl (x := .bool false) rfl ?_)
  show wpAny _ _ (field (.ref (N + 3)) 3 >>= _) _ _ _
  refine wpAny_bind (wpAny_field hz rfl (x := .ref (N + 1)) rfl ?_)
  refine wpAny_bind (wpAny_seqItems hTI rfl ?_)
  show wpAny _ _ (Builtin.SmallTypes.ownedTupleIsFree (.ref (N + 3)) >>= _) _ _ _
  refine wpAny_bind (is_free hz ow ?_ fun g0 f1 hz0 hs0 => ?_)
  · simp only [if_true]
    refine wpAny_bind (wpAny_rule ?_)
    refine wpAny_bind (wpAny_field hz rfl (x := .ref (N + 2)) rfl ?_)
    refine wpAny_bind (wpAny_setField_rec hz (by simp) fun g0 hz0 hs0 => ?_)
    replace hz0 : IsZ g0 (N + 3) (N + 1) (N + 2) .ellipsis f := hz0
    replace hs0 : Heap.SameBut (N + 3) hp g0 := hs0
    refine wpAny_bind ?_
    simp only [List.zipIdx_cons, List.zipIdx_nil, List.forIn_cons, List.forIn_nil]
    have hT0 : IsTp g0 (N + 2) #[a1] := hs0.extBut _ _ (show ((N + 2) : Nat) ≠ (N + 3) by omega) hTO
    refine wpAny_bind (wpAny_bind (wpAny_onRaise ?_))
    show wpAny _ _ (Builtin.SmallTypes.nextOf (.ref N) >>= _) _ _ ⟨g0, g, d, tk0, os⟩
    refine wpAny_bind ((Draws.text hh N x1 t1).item i ⟨g0, g, d, tk0, os⟩ _ _ l1 (si_over st1 hs0 (show (N : Nat) ≠ (N + 3) by omega)) fun v1 p1 tk1 hx1 sn1 hp1 => wpAny_pure ?_)
    replace hp1 : Heap.SameBut N g0 p1 := hp1
    have hU1 : IsTp p1 (N + 2) #[a1] := hp1.extBut _ _ (show ((N + 2) : Nat) ≠ N by omega) hT0
    refine wpAny_bind (wpAny_seqItems (s := ⟨p1, g, d, tk1, os⟩) hU1 rfl ?_)
    refine wpAny_bind (up_tp (s := ⟨p1, g, d, tk1, os⟩) hU1 (by show 1 ≤ 3; decide) fun g1 hT1 hs1 => ?_)
    replace hT1 : IsTp g1 (N + 2) #[v1] := hT1
    replace hs1 : Heap.SameBut (N + 2) p1 g1 := hs1
    refine wpAny_bind (wpAny_letGo (wpAny_pure (wpAny_pure ?_)))
    refine wpAny_bind (wpAny_seqItems (s := ⟨g1, g, d, tk1, os⟩) hT1 rfl ?_)
    refine wpAny_bind (wpAny_newTuple ?_)
    have hsz : g1.objs.size = hp.objs.size := by rw [hs1.1, hp1.1, hs0.1]
    have hzz : IsZ g1 (N + 3) (N + 1) (N + 2) .ellipsis f := (hs1.extBut _ _ (show ((N + 3) : Nat) ≠ (N + 2) by omega) (hp1.extBut _ _ (show ((N + 3) : Nat) ≠ N by omega) hz0))
    have hti : IsTp g1 (N + 1) #[.ref N] := (hs1.extBut _ _ (show ((N + 1) : Nat) ≠ (N + 2) by omega) (hp1.extBut _ _ (show ((N + 1) : Nat) ≠ N by omega) (hs0.extBut _ _ (show ((N + 1) : Nat) ≠ (N + 3) by omega) hTI)))
    have hkk : ∀ c o, c ≠ N → c ≠ (N + 2) → c ≠ (N + 3) → hp.get? c = some o → g1.get? c = some o := fun c o c1 cT cz e => (hs1.extBut _ _ cT (hp1.extBut _ _ c1 (hs0.extBut _ _ cz e)))
    have hj1 : SI g1 N x1 t1 (i + 1) := (si_over sn1 hs1 (show (N : Nat) ≠ (N + 2) by omega))
    have hzlt : (N + 3) < g1.objs.size := Heap.lt_size hzz
    show wpAny _ _ (Builtin.SmallTypes.ownedTupleHandOut (.ref (N + 3)) (.ref g1.objs.size) >>= _) _ _ ⟨g1.push { cls := .type "tuple", data := .seq #[v1] }, g, d, tk1, os⟩
    refine wpAny_bind ?_
    unfold Builtin.SmallTypes.ownedTupleHandOut
    have hz₆ : IsZ (g1.push { cls := .type "tuple", data := .seq #[v1] }) (N + 3) (N + 1) (N + 2) .ellipsis f := Heap.get?_push_of_some _ hzz
    refine wpAny_bind (wpAny_setField_rec hz₆ (by simp) fun h₇ hz₇ hs₇ => ?_)
    replace hz₇ : IsZ h₇ (N + 3) (N + 1) (N + 2) (rawInt g1.objs.size) f := hz₇
    refine wpAny_setField_rec hz₇ (by simp) fun h₈ hz₈ hs₈ => ?_
    replace hz₈ : IsZ h₈ (N + 3) (N + 1) (N + 2) (rawInt g1.objs.size) false := hz₈
    replace hs₇ : Heap.SameBut (N + 3) (g1.push { cls := .type "tuple", data := .seq #[v1] }) h₇ := hs₇
    replace hs₈ : Heap.SameBut (N + 3) h₇ h₈ := hs₈
    have up : ∀ c o, c ≠ (N + 3) → g1.get? c = some o → h₈.get? c = some o := fun c o c1 e => hs₈.extBut _ _ c1 (hs₇.extBut _ _ c1 (Heap.get?_push_of_some _ e))
    have hT₈ : IsTp h₈ g1.objs.size #[v1] := hs₈.extBut _ _ (Nat.ne_of_gt hzlt) (hs₇.extBut _ _ (Nat.ne_of_gt hzlt) (Heap.get?_push_size _ rfl))
    have hz8 : h₈.objs.size = g1.objs.size + 1 := by rw [hs₈.1, hs₇.1, Heap.size_push]
    have fin : ZS1 N x1 t1 (i + 1) h₈ := ⟨⟨_, _, hz₈, .inr ⟨_, rfl⟩⟩, up _ _ (show ((N + 1) : Nat) ≠ (N + 3) by omega) hti, ⟨v1, up _ _ (show ((N + 2) : Nat) ≠ (N + 3) by omega) hT1⟩, si_over (si_over (si_push hj1) hs₇ (show (N : Nat) ≠ (N + 3) by omega)) hs₈ (show (N : Nat) ≠ (N + 3) by omega)⟩
    rw [hsz] at hT₈ hz8
    refine wpAny_pure ⟨_, rfl, ?_⟩
    show Q (.ref g1.objs.size) ⟨h₈, g, d, tk1, os⟩
    rw [hsz]
    exact hQ v1 h₈ tk1 hx1 fin hT₈ hz8 fun c o c1 cT cz e => up c o cz (hkk c o c1 cT cz e)
  · simp only [Bool.false_eq_true, if_false]
    refine wpAny_bind ?_
    rw [← Array.forIn_toList]
    simp only [List.forIn_cons, List.forIn_nil]
    replace hz0 : IsZ g0 (N + 3) (N + 1) (N + 2) f0 f1 := hz0
    replace hs0 : Heap.SameBut (N + 3) hp g0 := hs0
    refine wpAny_bind (wpAny_bind (wpAny_holding ?_))
    show wpAny _ _ (Builtin.SmallTypes.nextOf (.ref N) >>= _) _ _ ⟨g0, g, d, tk0, os⟩
    refine wpAny_bind ((Draws.text hh N x1 t1).item i ⟨g0, g, d, tk0, os⟩ _ _ l1 (si_over st1 hs0 (show (N : Nat) ≠ (N + 3) by omega)) fun v1 p1 tk1 hx1 sn1 hp1 => wpAny_pure ?_)
    replace hp1 : Heap.SameBut N g0 p1 := hp1
    refine wpAny_pure (wpAny_pure ?_)
    show wpAny _ _ (newTuple [v1] >>= _) _ _ ⟨p1, g, d, tk1, os⟩
    refine wpAny_bind (wpAny_newTuple ?_)
    have hsz : p1.objs.size = hp.objs.size := by rw [hp1.1, hs0.1]
    have hzz : IsZ p1 (N + 3) (N + 1) (N + 2) f0 f1 := (hp1.extBut _ _ (show ((N + 3) : Nat) ≠ N by omega) hz0)
    have hti : IsTp p1 (N + 1) #[.ref N] := (hp1.extBut _ _ (show ((N + 1) : Nat) ≠ N by omega) (hs0.extBut _ _ (show ((N + 1) : Nat) ≠ (N + 3) by omega) hTI))
    have hto : IsTp p1 (N + 2) #[a1] := (hp1.extBut _ _ (show ((N + 2) : Nat) ≠ N by omega) (hs0.extBut _ _ (show ((N + 2) : Nat) ≠ (N + 3) by omega) hTO))
    have hkk : ∀ c o, c ≠ N → c ≠ (N + 2) → c ≠ (N + 3) → hp.get? c = some o → p1.get? c = some o := fun c o c1 cT cz e => (hp1.extBut _ _ c1 (hs0.extBut _ _ cz e))
    have hj1 : SI p1 N x1 t1 (i + 1) := sn1
    refine wpAny_pure ⟨_, rfl, ?_⟩
    show Q (.ref p1.objs.size) ⟨p1.push { cls := .type "tuple", data := .seq #[v1] }, g, d, tk1, os⟩
    have hnt : IsTp (p1.push { cls := .type "tuple", data := .seq #[v1] }) p1.objs.size #[v1] := Heap.get?_push_size _ rfl
    have hz4 : (p1.push { cls := .type "tuple", data := .seq #[v1] }).objs.size = p1.objs.size + 1 := Heap.size_push ..
    rw [hsz] at hnt hz4 ⊢
    exact hQ v1 _ tk1 hx1 ⟨⟨f0, f1, Heap.get?_push_of_some _ hzz, ow⟩, Heap.get?_push_of_some _ hti, ⟨a1, Heap.get?_push_of_some _ hto⟩, si_push hj1⟩ hnt hz4 fun c o c1 cT cz e => Heap.get?_push_of_some _ (hkk c o c1 cT cz e)
theorem zs1_end {Q : Fin → Shared → Prop} (hh : A.handled = none) (S : ZS1 N x1 t1 i s.heap) (l1 : i = x1.cps.size)
    (hE : ∀ h' tk e, (∀ c o, c ≠ N → c ≠ (N + 2) → c ≠ (N + 3) → s.heap.get? c = some o → h'.get? c = some o) → (∃ o, h'.get? e = some o ∧ o.cls = .type "StopIteration") → E (.ref e) { s with heap := h', toks := tk }) :
    wpAny (model prog w) A (Builtin.«zip.__next__» ⟨[.ref (N + 3)], []⟩) Q E s := by
  obtain ⟨hp, g, d, tk0, os⟩ := s
  obtain ⟨⟨f0, f, hz, ow⟩, hTI, ⟨a1, hTO⟩, st1⟩ := S
  show wpAny _ _ (field (.ref (N + 3)) 2 >>= _) _ _ _
  refine wpAny_bind (wpAny_field hz rfl (x := .bool false) rfl ?_)
  show wpAny _ _ (field (.ref (N + 3)) 3 >>= _) _ _ _
  refine wpAny_bind (wpAny_field hz rfl (x := .ref (N + 1)) rfl ?_)
  refine wpAny_bind (wpAny_seqItems hTI rfl ?_)
  show wpAny _ _ (Builtin.SmallTypes.ownedTupleIsFree (.ref (N + 3)) >>= _) _ _ _
  refine wpAny_bind (is_free hz ow ?_ fun g0 f1 hz0 hs0 => ?_)
  · simp only [if_true]
    refine wpAny_bind (wpAny_rule ?_)
    refine wpAny_bind (wpAny_field hz rfl (x := .ref (N + 2)) rfl ?_)
    refine wpAny_bind (wpAny_setField_rec hz (by simp) fun g0 hz0 hs0 => ?_)
    replace hz0 : IsZ g0 (N + 3) (N + 1) (N + 2) .ellipsis f := hz0
    replace hs0 : Heap.SameBut (N + 3) hp g0 := hs0
    refine wpAny_bind ?_
    simp only [List.zipIdx_cons, List.zipIdx_nil, List.forIn_cons, List.forIn_nil]
    refine wpAny_bind (wpAny_bind (wpAny_onRaise ?_))
    show wpAny _ _ (Builtin.SmallTypes.nextOf (.ref N) >>= _) _ _ ⟨g0, g, d, tk0, os⟩
    refine wpAny_bind ((Draws.text hh N x1 t1).done ⟨g0, g, d, tk0, os⟩ _ _ (by rw [← l1]; exact (si_over st1 hs0 (show (N : Nat) ≠ (N + 3) by omega))) fun q e hq he => ?_)
    replace hq : Heap.ExtBut N g0 q := hq
    obtain ⟨oe, hoe, hce⟩ := he
    replace hoe : q.get? e = some oe := hoe
    have hzq : IsZ q (N + 3) (N + 1) (N + 2) .ellipsis f := hq _ _ (show ((N + 3) : Nat) ≠ N by omega) hz0
    have hez : e ≠ (N + 3) := fun x => by subst x; rw [hzq] at hoe; cases hoe; simp at hce
    refine wpAny_setField_rec (s := ⟨q, g, d, tk0, os⟩) hzq (by simp) fun q' _ hq' => ?_
    replace hq' : Heap.SameBut (N + 3) q q' := hq'
    exact hE q' tk0 e (fun c o c1 cT cz x => hq'.extBut _ _ cz (hq _ _ c1 (hs0.extBut _ _ cz x))) ⟨oe, hq'.extBut _ _ hez hoe, hce⟩
  · simp only [Bool.false_eq_true, if_false]
    refine wpAny_bind ?_
    rw [← Array.forIn_toList]
    simp only [List.forIn_cons, List.forIn_nil]
    replace hz0 : IsZ g0 (N + 3) (N + 1) (N + 2) f0 f1 := hz0
    replace hs0 : Heap.SameBut (N + 3) hp g0 := hs0
    refine wpAny_bind (wpAny_bind (wpAny_holding ?_))
    show wpAny _ _ (Builtin.SmallTypes.nextOf (.ref N) >>= _) _ _ ⟨g0, g, d, tk0, os⟩
    refine wpAny_bind ((Draws.text hh N x1 t1).done ⟨g0, g, d, tk0, os⟩ _ _ (by rw [← l1]; exact (si_over st1 hs0 (show (N : Nat) ≠ (N + 3) by omega))) fun q e hq he => ?_)
    replace hq : Heap.ExtBut N g0 q := hq
    exact hE q tk0 e (fun c o c1 cT cz x => hq _ _ c1 (hs0.extBut _ _ cz x)) he
end
/-! ### 2 -/
structure ZS2 (N : Nat) (x1 x2 : Str) (t1 t2 : Tok) (i : Nat) (h : Heap) : Prop where
  z : ∃ f0 f, IsZ h (N + 4) (N + 2) (N + 3) f0 f ∧ Own f0
  TI : IsTp h (N + 2) #[.ref N, .ref (N + 1)]
  TO : ∃ a1 a2, IsTp h (N + 3) #[a1, a2]
  i1 : SI h N x1 t1 i
  i2 : SI h (N + 1) x2 t2 i
section
variable {prog : Program} {w : World} {A : Around} {E : Value → Shared → Prop} {s : Shared} {N i : Nat} {x1 x2 : Str} {t1 t2 : Tok}
theorem zs2_item {Q : Value → Shared → Prop} (hh : A.handled = none) (S : ZS2 N x1 x2 t1 t2 i s.heap) (l1 : i < x1.cps.size) (l2 : i < x2.cps.size)
    (hQ : ∀ v1 v2 h' tk, SG x1 i v1 → SG x2 i v2 → ZS2 N x1 x2 t1 t2 (i + 1) h' → IsTp h' s.heap.objs.size #[v1, v2] → h'.objs.size = s.heap.objs.size + 1 → (∀ c o, c ≠ N → c ≠ (N + 1) → c ≠ (N + 3) → c ≠ (N + 4) → s.heap.get? c = some o → h'.get? c = some o) → Q (.ref s.heap.objs.size) { s with heap := h', toks := tk }) :
    wpAny (model prog w) A (Builtin.«zip.__next__» ⟨[.ref (N + 4)], []⟩) (fun fin s' => ∃ v, fin = .done (.ret v) ∧ Q v s') E s := by
  obtain ⟨hp, g, d, tk0, os⟩ := s
  obtain ⟨⟨f0, f, hz, ow⟩, hTI, ⟨a1, a2, hTO⟩, st1, st2⟩ := S
  show wpAny _ _ (field (.ref (N + 4)) 2 >>= _) _ _ _
  refine wpAny_bind (wpAny_field hz rfl (x := .bool false) rfl ?_)
  show wpAny _ _ (field (.ref (N + 4)) 3 >>= _) _ _ _
  refine wpAny_bind (wpAny_field hz rfl (x := .ref (N + 2)) rfl ?_)
  refine wpAny_bind (wpAny_seqItems hTI rfl ?_)
  show wpAny _ _ (Builtin.SmallTypes.ownedTupleIsFree (.ref (N + 4)) >>= _) _ _ _
  refine wpAny_bind (is_free hz ow ?_ fun g0 f1 hz0 hs0 => ?_)
  · simp only [if_true]
    refine wpAny_bind (wpAny_rule ?_)
    refine wpAny_bind (wpAny_field hz rfl (x := .ref (N + 3)) rfl ?_)
    refine wpAny_bind (wpAny_setField_rec hz (by simp) fun g0 hz0 hs0 => ?_)
    replace hz0 : IsZ g0 (N + 4) (N + 2) (N + 3) .ellipsis f := hz0
    replace hs0 : Heap.SameBut (N + 4) hp g0 := hs0
    refine wpAny_bind ?_
    simp only [List.zipIdx_cons, List.zipIdx_nil, List.forIn_cons, List.forIn_nil]
    have hT0 : IsTp g0 (N + 3) #[a1, a2] := hs0.extBut _ _ (show ((N + 3) : Nat) ≠ (N + 4) by omega) hTO
    refine wpAny_bind (wpAny_bind (wpAny_onRaise ?_))
    show wpAny _ _ (Builtin.SmallTypes.nextOf (.ref N) >>= _) _ _ ⟨g0, g, d, tk0, os⟩
    refine wpAny_bind ((Draws.text hh N x1 t1).item i ⟨g0, g, d, tk0, os⟩ _ _ l1 (si_over st1 hs0 (show (N : Nat) ≠ (N + 4) by omega)) fun v1 p1 tk1 hx1 sn1 hp1 => wpAny_pure ?_)
    replace hp1 : Heap.SameBut N g0 p1 := hp1
    have hU1 : IsTp p1 (N + 3) #[a1, a2] := hp1.extBut _ _ (show ((N + 3) : Nat) ≠ N by omega) hT0
    refine wpAny_bind (wpAny_seqItems (s := ⟨p1, g, d, tk1, os⟩) hU1 rfl ?_)
    refine wpAny_bind (up_tp (s := ⟨p1, g, d, tk1, os⟩) hU1 (by show 2 ≤ 3; decide) fun g1 hT1 hs1 => ?_)
    replace hT1 : IsTp g1 (N + 3) #[v1, a2] := hT1
    replace hs1 : Heap.SameBut (N + 3) p1 g1 := hs1
    refine wpAny_bind (wpAny_letGo (wpAny_pure ?_))
    refine wpAny_bind (wpAny_bind (wpAny_onRaise ?_))
    show wpAny _ _ (Builtin.SmallTypes.nextOf (.ref (N + 1)) >>= _) _ _ ⟨g1, g, d, tk1, os⟩
    refine wpAny_bind ((Draws.text hh (N + 1) x2 t2).item i ⟨g1, g, d, tk1, os⟩ _ _ l2 (si_over (si_over (si_over st2 hs0 (show ((N + 1) : Nat) ≠ (N + 4) by omega)) hp1 (show ((N + 1) : Nat) ≠ N by omega)) hs1 (show ((N + 1) : Nat) ≠ (N + 3) by omega)) fun v2 p2 tk2 hx2 sn2 hp2 => wpAny_pure ?_)
    replace hp2 : Heap.SameBut (N + 1) g1 p2 := hp2
    have hU2 : IsTp p2 (N + 3) #[v1, a2] := hp2.extBut _ _ (show ((N + 3) : Nat) ≠ (N + 1) by omega) hT1
    refine wpAny_bind (wpAny_seqItems (s := ⟨p2, g, d, tk2, os⟩) hU2 rfl ?_)
    refine wpAny_bind (up_tp (s := ⟨p2, g, d, tk2, os⟩) hU2 (by show 2 ≤ 3; decide) fun g2 hT2 hs2 => ?_)
    replace hT2 : IsTp g2 (N + 3) #[v1, v2] := hT2
    replace hs2 : Heap.SameBut (N + 3) p2 g2 := hs2
    refine wpAny_bind (wpAny_letGo (wpAny_pure (wpAny_pure ?_)))
    refine wpAny_bind (wpAny_seqItems (s := ⟨g2, g, d, tk2, os⟩) hT2 rfl ?_)
    refine wpAny_bind (wpAny_newTuple ?_)
    have hsz : g2.objs.size = hp.objs.size := by rw [hs2.1, hp2.1, hs1.1, hp1.1, hs0.1]
    have hzz : IsZ g2 (N + 4) (N + 2) (N + 3) .ellipsis f := (hs2.extBut _ _ (show ((N + 4) : Nat) ≠ (N + 3) by omega) (hp2.extBut _ _ (show ((N + 4) : Nat) ≠ (N + 1) by omega) (hs1.extBut _ _ (show ((N + 4) : Nat) ≠ (N + 3) by omega) (hp1.extBut _ _ (show ((N + 4) : Nat) ≠ N by omega) hz0))))
    have hti : IsTp g2 (N + 2) #[.ref N, .ref (N + 1)] := (hs2.extBut _ _ (show ((N + 2) : Nat) ≠ (N + 3) by omega) (hp2.extBut _ _ (show ((N + 2) : Nat) ≠ (N + 1) by omega) (hs1.extBut _ _ (show ((N + 2) : Nat) ≠ (N + 3) by omega) (hp1.extBut _ _ (show ((N + 2) : Nat) ≠ N by omega) (hs0.extBut _ _ (show ((N + 2) : Nat) ≠ (N + 4) by omega) hTI)))))
    have hkk : ∀ c o, c ≠ N → c ≠ (N + 1) → c ≠ (N + 3) → c ≠ (N + 4) → hp.get? c = some o → g2.get? c = some o := fun c o c1 c2 cT cz e => (hs2.extBut _ _ cT (hp2.extBut _ _ c2 (hs1.extBut _ _ cT (hp1.extBut _ _ c1 (hs0.extBut _ _ cz e)))))
    have hj1 : SI g2 N x1 t1 (i + 1) := (si_over (si_over (si_over sn1 hs1 (show (N : Nat) ≠ (N + 3) by omega)) hp2 (show (N : Nat) ≠ (N + 1) by omega)) hs2 (show (N : Nat) ≠ (N + 3) by omega))
    have hj2 : SI g2 (N + 1) x2 t2 (i + 1) := (si_over sn2 hs2 (show ((N + 1) : Nat) ≠ (N + 3) by omega))
    have hzlt : (N + 4) < g2.objs.size := Heap.lt_size hzz
    show wpAny _ _ (Builtin.SmallTypes.ownedTupleHandOut (.ref (N + 4)) (.ref g2.objs.size) >>= _) _ _ ⟨g2.push { cls := .type "tuple", data := .seq #[v1, v2] }, g, d, tk2, os⟩
    refine wpAny_bind ?_
    unfold Builtin.SmallTypes.ownedTupleHandOut
    have hz₆ : IsZ (g2.push { cls := .type "tuple", data := .seq #[v1, v2] }) (N + 4) (N + 2) (N + 3) .ellipsis f := Heap.get?_push_of_some _ hzz
    refine wpAny_bind (wpAny_setField_rec hz₆ (by simp) fun h₇ hz₇ hs₇ => ?_)
    replace hz₇ : IsZ h₇ (N + 4) (N + 2) (N + 3) (rawInt g2.objs.size) f := hz₇
    refine wpAny_setField_rec hz₇ (by simp) fun h₈ hz₈ hs₈ => ?_
    replace hz₈ : IsZ h₈ (N + 4) (N + 2) (N + 3) (rawInt g2.objs.size) false := hz₈
    replace hs₇ : Heap.SameBut (N + 4) (g2.push { cls := .type "tuple", data := .seq #[v1, v2] }) h₇ := hs₇
    replace hs₈ : Heap.SameBut (N + 4) h₇ h₈ := hs₈
    have up : ∀ c o, c ≠ (N + 4) → g2.get? c = some o → h₈.get? c = some o := fun c o c1 e => hs₈.extBut _ _ c1 (hs₇.extBut _ _ c1 (Heap.get?_push_of_some _ e))
    have hT₈ : IsTp h₈ g2.objs.size #[v1, v2] := hs₈.extBut _ _ (Nat.ne_of_gt hzlt) (hs₇.extBut _ _ (Nat.ne_of_gt hzlt) (Heap.get?_push_size _ rfl))
    have hz8 : h₈.objs.size = g2.objs.size + 1 := by rw [hs₈.1, hs₇.1, Heap.size_push]
    have fin : ZS2 N x1 x2 t1 t2 (i + 1) h₈ := ⟨⟨_, _, hz₈, .inr ⟨_, rfl⟩⟩, up _ _ (show ((N + 2) : Nat) ≠ (N + 4) by omega) hti, ⟨v1, v2, up _ _ (show ((N + 3) : Nat) ≠ (N + 4) by omega) hT2⟩, si_over (si_over (si_push hj1) hs₇ (show (N : Nat) ≠ (N + 4) by omega)) hs₈ (show (N : Nat) ≠ (N + 4) by omega), si_over (si_over (si_push hj2) hs₇ (show ((N + 1) : Nat) ≠ (N + 4) by omega)) hs₈ (show ((N + 1) : Nat) ≠ (N + 4) by omega)⟩
    rw [hsz] at hT₈ hz8
    refine wpAny_pure ⟨_, rfl, ?_⟩
    show Q (.ref g2.objs.size) ⟨h₈, g, d, tk2, os⟩
    rw [hsz]
    exact hQ v1 v2 h₈ tk2 hx1 hx2 fin hT₈ hz8 fun c o c1 c2 cT cz e => up c o cz (hkk c o c1 c2 cT cz e)
  · simp only [Bool.false_eq_true, if_false]
    refine wpAny_bind ?_
    rw [← Array.forIn_toList]
    simp only [List.forIn_cons, List.forIn_nil]
    replace hz0 : IsZ g0 (N + 4) (N + 2) (N + 3) f0 f1 := hz0
    replace hs0 : Heap.SameBut (N + 4) hp g0 := hs0
    refine wpAny_bind (wpAny_bind (wpAny_holding ?_))
    show wpAny _ _ (Builtin.SmallTypes.nextOf (.ref N) >>= _) _ _ ⟨g0, g, d, tk0, os⟩
    refine wpAny_bind ((Draws.text hh N x1 t1).item i ⟨g0, g, d, tk0, os⟩ _ _ l1 (si_over st1 hs0 (show (N : Nat) ≠ (N + 4) by omega)) fun v1 p1 tk1 hx1 sn1 hp1 => wpAny_pure ?_)
    replace hp1 : Heap.SameBut N g0 p1 := hp1
    refine wpAny_pure ?_
    refine wpAny_bind (wpAny_bind (wpAny_holding ?_))
    show wpAny _ _ (Builtin.SmallTypes.nextOf (.ref (N + 1)) >>= _) _ _ ⟨p1, g, d, tk1, os⟩
    refine wpAny_bind ((Draws.text hh (N + 1) x2 t2).item i ⟨p1, g, d, tk1, os⟩ _ _ l2 (si_over (si_over st2 hs0 (show ((N + 1) : Nat) ≠ (N + 4) by omega)) hp1 (show ((N + 1) : Nat) ≠ N by omega)) fun v2 p2 tk2 hx2 sn2 hp2 => wpAny_pure ?_)
    replace hp2 : Heap.SameBut (N + 1) p1 p2 := hp2
    refine wpAny_pure (wpAny_pure ?_)
    show wpAny _ _ (newTuple [v1, v2] >>= _) _ _ ⟨p2, g, d, tk2, os⟩
    refine wpAny_bind (wpAny_newTuple ?_)
    have hsz : p2.objs.size = hp.objs.size := by rw [hp2.1, hp1.1, hs0.1]
    have hzz : IsZ p2 (N + 4) (N + 2) (N + 3) f0 f1 := (hp2.extBut _ _ (show ((N + 4) : Nat) ≠ (N + 1) by omega) (hp1.extBut _ _ (show ((N + 4) : Nat) ≠ N by omega) hz0))
    have hti : IsTp p2 (N + 2) #[.ref N, .ref (N + 1)] := (hp2.extBut _ _ (show ((N + 2) : Nat) ≠ (N + 1) by omega) (hp1.extBut _ _ (show ((N + 2) : Nat) ≠ N by omega) (hs0.extBut _ _ (show ((N + 2) : Nat) ≠ (N + 4) by omega) hTI)))
    have hto : IsTp p2 (N + 3) #[a1, a2] := (hp2.extBut _ _ (show ((N + 3) : Nat) ≠ (N + 1) by omega) (hp1.extBut _ _ (show ((N + 3) : Nat) ≠ N by omega) (hs0.extBut _ _ (show ((N + 3) : Nat) ≠ (N + 4) by omega) hTO)))
    have hkk : ∀ c o, c ≠ N → c ≠ (N + 1) → c ≠ (N + 3) → c ≠ (N + 4) → hp.get? c = some o → p2.get? c = some o := fun c o c1 c2 cT cz e => (hp2.extBut _ _ c2 (hp1.extBut _ _ c1 (hs0.extBut _ _ cz e)))
    have hj1 : SI p2 N x1 t1 (i + 1) := (si_over sn1 hp2 (show (N : Nat) ≠ (N + 1) by omega))
    have hj2 : SI p2 (N + 1) x2 t2 (i + 1) := sn2
    refine wpAny_pure ⟨_, rfl, ?_⟩
    show Q (.ref p2.objs.size) ⟨p2.push { cls := .type "tuple", data := .seq #[v1, v2] }, g, d, tk2, os⟩
    have hnt : IsTp (p2.push { cls := .type "tuple", data := .seq #[v1, v2] }) p2.objs.size #[v1, v2] := Heap.get?_push_size _ rfl
    have hz4 : (p2.push { cls := .type "tuple", data := .seq #[v1, v2] }).objs.size = p2.objs.size + 1 := Heap.size_push ..
    rw [hsz] at hnt hz4 ⊢
    exact hQ v1 v2 _ tk2 hx1 hx2 ⟨⟨f0, f1, Heap.get?_push_of_some _ hzz, ow⟩, Heap.get?_push_of_some _ hti, ⟨a1, a2, Heap.get?_push_of_some _ hto⟩, si_push hj1, si_push hj2⟩ hnt hz4 fun c o c1 c2 cT cz e => Heap.get?_push_of_some _ (hkk c o c1 c2 cT cz e)
theorem zs2_end {Q : Fin → Shared → Prop} (hh : A.handled = none) (S : ZS2 N x1 x2 t1 t2 i s.heap) (l1 : i = x1.cps.size)
    (hE : ∀ h' tk e, (∀ c o, c ≠ N → c ≠ (N + 1) → c ≠ (N + 3) → c ≠ (N + 4) → s.heap.get? c = some o → h'.get? c = some o) → (∃ o, h'.get? e = some o ∧ o.cls = .type "StopIteration") → E (.ref e) { s with heap := h', toks := tk }) :
    wpAny (model prog w) A (Builtin.«zip.__next__» ⟨[.ref (N + 4)], []⟩) Q E s := by
  obtain ⟨hp, g, d, tk0, os⟩ := s
  obtain ⟨⟨f0, f, hz, ow⟩, hTI, ⟨a1, a2, hTO⟩, st1, st2⟩ := S
  show wpAny _ _ (field (.ref (N + 4)) 2 >>= _) _ _ _
  refine wpAny_bind (wpAny_field hz rfl (x := .bool false) rfl ?_)
  show wpAny _ _ (field (.ref (N + 4)) 3 >>= _) _ _ _
  refine wpAny_bind (wpAny_field hz rfl (x := .ref (N + 2)) rfl ?_)
  refine wpAny_bind (wpAny_seqItems hTI rfl ?_)
  show wpAny _ _ (Builtin.SmallTypes.ownedTupleIsFree (.ref (N + 4)) >>= _) _ _ _
  refine wpAny_bind (is_free hz ow ?_ fun g0 f1 hz0 hs0 => ?_)
  · simp only [if_true]
    refine wpAny_bind (wpAny_rule ?_)
    refine wpAny_bind (wpAny_field hz rfl (x := .ref (N + 3)) rfl ?_)
    refine wpAny_bind (wpAny_setField_rec hz (by simp) fun g0 hz0 hs0 => ?_)
    replace hz0 : IsZ g0 (N + 4) (N + 2) (N + 3) .ellipsis f := hz0
    replace hs0 : Heap.SameBut (N + 4) hp g0 := hs0
    refine wpAny_bind ?_
    simp only [List.zipIdx_cons, List.zipIdx_nil, List.forIn_cons, List.forIn_nil]
    refine wpAny_bind (wpAny_bind (wpAny_onRaise ?_))
    show wpAny _ _ (Builtin.SmallTypes.nextOf (.ref N) >>= _) _ _ ⟨g0, g, d, tk0, os⟩
    refine wpAny_bind ((Draws.text hh N x1 t1).done ⟨g0, g, d, tk0, os⟩ _ _ (by rw [← l1]; exact (si_over st1 hs0 (show (N : Nat) ≠ (N + 4) by omega))) fun q e hq he => ?_)
    replace hq : Heap.ExtBut N g0 q := hq
    obtain ⟨oe, hoe, hce⟩ := he
    replace hoe : q.get? e = some oe := hoe
    have hzq : IsZ q (N + 4) (N + 2) (N + 3) .ellipsis f := hq _ _ (show ((N + 4) : Nat) ≠ N by omega) hz0
    have hez : e ≠ (N + 4) := fun x => by subst x; rw [hzq] at hoe; cases hoe; simp at hce
    refine wpAny_setField_rec (s := ⟨q, g, d, tk0, os⟩) hzq (by simp) fun q' _ hq' => ?_
    replace hq' : Heap.SameBut (N + 4) q q' := hq'
    exact hE q' tk0 e (fun c o c1 c2 cT cz x => hq'.extBut _ _ cz (hq _ _ c1 (hs0.extBut _ _ cz x))) ⟨oe, hq'.extBut _ _ hez hoe, hce⟩
  · simp only [Bool.false_eq_true, if_false]
    refine wpAny_bind ?_
    rw [← Array.forIn_toList]
    simp only [List.forIn_cons, List.forIn_nil]
    replace hz0 : IsZ g0 (N + 4) (N + 2) (N + 3) f0 f1 := hz0
    replace hs0 : Heap.SameBut (N + 4) hp g0 := hs0
    refine wpAny_bind (wpAny_bind (wpAny_holding ?_))
    show wpAny _ _ (Builtin.SmallTypes.nextOf (.ref N) >>= _) _ _ ⟨g0, g, d, tk0, os⟩
    refine wpAny_bind ((Draws.text hh N x1 t1).done ⟨g0, g, d, tk0, os⟩ _ _ (by rw [← l1]; exact (si_over st1 hs0 (show (N : Nat) ≠ (N + 4) by omega))) fun q e hq he => ?_)
    replace hq : Heap.ExtBut N g0 q := hq
    exact hE q tk0 e (fun c o c1 c2 cT cz x => hq _ _ c1 (hs0.extBut _ _ cz x)) he
end
/-! ### 3 -/
structure ZS3 (N : Nat) (x1 x2 x3 : Str) (t1 t2 t3 : Tok) (i : Nat) (h : Heap) : Prop where
  z : ∃ f0 f, IsZ h (N + 5) (N + 3) (N + 4) f0 f ∧ Own f0
  TI : IsTp h (N + 3) #[.ref N, .ref (N + 1), .ref (N + 2)]
  TO : ∃ a1 a2 a3, IsTp h (N + 4) #[a1, a2, a3]
  i1 : SI h N x1 t1 i
  i2 : SI h (N + 1) x2 t2 i
  i3 : SI h (N + 2) x3 t3 i
section
variable {prog : Program} {w : World} {A : Around} {E : Value → Shared → Prop} {s : Shared} {N i : Nat} {x1 x2 x3 : Str} {t1 t2 t3 : Tok}
theorem zs3_item {Q : Value → Shared → Prop} (hh : A.handled = none) (S : ZS3 N x1 x2 x3 t1 t2 t3 i s.heap) (l1 : i < x1.cps.size) (l2 : i < x2.cps.size) (l3 : i < x3.cps.size)
    (hQ : ∀ v1 v2 v3 h' tk, SG x1 i v1 → SG x2 i v2 → SG x3 i v3 → ZS3 N x1 x2 x3 t1 t2 t3 (i + 1) h' → IsTp h' s.heap.objs.size #[v1, v2, v3] → h'.objs.size = s.heap.objs.size + 1 → (∀ c o, c ≠ N → c ≠ (N + 1) → c ≠ (N + 2) → c ≠ (N + 4) → c ≠ (N + 5) → s.heap.get? c = some o → h'.get? c = some o) → Q (.ref s.heap.objs.size) { s with heap := h', toks := tk }) :
    wpAny (model prog w) A (Builtin.«zip.__next__» ⟨[.ref (N + 5)], []⟩) (fun fin s' => ∃ v, fin = .done (.ret v) ∧ Q v s') E s := by
  obtain ⟨hp, g, d, tk0, os⟩ := s
  obtain ⟨⟨f0, f, hz, ow⟩, hTI, ⟨a1, a2, a3, hTO⟩, st1, st2, st3⟩ := S
  show wpAny _ _ (field (.ref (N + 5)) 2 >>= _) _ _ _
  refine wpAny_bind (wpAny_field hz rfl (x := .bool false) rfl ?_)
  show wpAny _ _ (field (.ref (N + 5)) 3 >>= _) _ _ _
  refine wpAny_bind (wpAny_field hz rfl (x := .ref (N + 3)) rfl ?_)
  refine wpAny_bind (wpAny_seqItems hTI rfl ?_)
  show wpAny _ _ (Builtin.SmallTypes.ownedTupleIsFree (.ref (N + 5)) >>= _) _ _ _
  refine wpAny_bind (is_free hz ow ?_ fun g0 f1 hz0 hs0 => ?_)
  · simp only [if_true]
    refine wpAny_bind (wpAny_rule ?_)
    refine wpAny_bind (wpAny_field hz rfl (x := .ref (N + 4)) rfl ?_)
    refine wpAny_bind (wpAny_setField_rec hz (by simp) fun g0 hz0 hs0 => ?_)
    replace hz0 : IsZ g0 (N + 5) (N + 3) (N + 4) .ellipsis f := hz0
    replace hs0 : Heap.SameBut (N + 5) hp g0 := hs0
    refine wpAny_bind ?_
    simp only [List.zipIdx_cons, List.zipIdx_nil, List.forIn_cons, List.forIn_nil]
    have hT0 : IsTp g0 (N + 4) #[a1, a2, a3] := hs0.extBut _ _ (show ((N + 4) : Nat) ≠ (N + 5) by omega) hTO
    refine wpAny_bind (wpAny_bind (wpAny_onRaise ?_))
    show wpAny _ _ (Builtin.SmallTypes.nextOf (.ref N) >>= _) _ _ ⟨g0, g, d, tk0, os⟩
    refine wpAny_bind ((Draws.text hh N x1 t1).item i ⟨g0, g, d, tk0, os⟩ _ _ l1 (si_over st1 hs0 (show (N : Nat) ≠ (N + 5) by omega)) fun v1 p1 tk1 hx1 sn1 hp1 => wpAny_pure ?_)
    replace hp1 : Heap.SameBut N g0 p1 := hp1
    have hU1 : IsTp p1 (N + 4) #[a1, a2, a3] := hp1.extBut _ _ (show ((N + 4) : Nat) ≠ N by omega) hT0
    refine wpAny_bind (wpAny_seqItems (s := ⟨p1, g, d, tk1, os⟩) hU1 rfl ?_)
    refine wpAny_bind (up_tp (s := ⟨p1, g, d, tk1, os⟩) hU1 (by show 3 ≤ 3; decide) fun g1 hT1 hs1 => ?_)
    replace hT1 : IsTp g1 (N + 4) #[v1, a2, a3] := hT1
    replace hs1 : Heap.SameBut (N + 4) p1 g1 := hs1
    refine wpAny_bind (wpAny_letGo (wpAny_pure ?_))
    refine wpAny_bind (wpAny_bind (wpAny_onRaise ?_))
    show wpAny _ _ (Builtin.SmallTypes.nextOf (.ref (N + 1)) >>= _) _ _ ⟨g1, g, d, tk1, os⟩
    refine wpAny_bind ((Draws.text hh (N + 1) x2 t2).item i ⟨g1, g, d, tk1, os⟩ _ _ l2 (si_over (si_over (si_over st2 hs0 (show ((N + 1) : Nat) ≠ (N + 5) by omega)) hp1 (show ((N + 1) : Nat) ≠ N by omega)) hs1 (show ((N + 1) : Nat) ≠ (N + 4) by omega)) fun v2 p2 tk2 hx2 sn2 hp2 => wpAny_pure ?_)
    replace hp2 : Heap.SameBut (N + 1) g1 p2 := hp2
    have hU2 : IsTp p2 (N + 4) #[v1, a2, a3] := hp2.extBut _ _ (show ((N + 4) : Nat) ≠ (N + 1) by omega) hT1
    refine wpAny_bind (wpAny_seqItems (s := ⟨p2, g, d, tk2, os⟩) hU2 rfl ?_)
    refine wpAny_bind (up_tp (s := ⟨p2, g, d, tk2, os⟩) hU2 (by show 3 ≤ 3; decide) fun g2 hT2 hs2 => ?_)
    replace hT2 : IsTp g2 (N + 4) #[v1, v2, a3] := hT2
    replace hs2 : Heap.SameBut (N + 4) p2 g2 := hs2
    refine wpAny_bind (wpAny_letGo (wpAny_pure ?_))
    refine wpAny_bind (wpAny_bind (wpAny_onRaise ?_))
    show wpAny _ _ (Builtin.SmallTypes.nextOf (.ref (N + 2)) >>= _) _ _ ⟨g2, g, d, tk2, os⟩
    refine wpAny_bind ((Draws.text hh (N + 2) x3 t3).item i ⟨g2, g, d, tk2, os⟩ _ _ l3 (si_over (si_over (si_over (si_over (si_over st3 hs0 (show ((N + 2) : Nat) ≠ (N + 5) by omega)) hp1 (show ((N + 2) : Nat) ≠ N by omega)) hs1 (show ((N + 2) : Nat) ≠ (N + 4) by omega)) hp2 (show ((N + 2) : Nat) ≠ (N + 1) by omega)) hs2 (show ((N + 2) : Nat) ≠ (N + 4) by omega)) fun v3 p3 tk3 hx3 sn3 hp3 => wpAny_pure ?_)
    replace hp3 : Heap.SameBut (N + 2) g2 p3 := hp3
    have hU3 : IsTp p3 (N + 4) #[v1, v2, a3] := hp3.extBut _ _ (show ((N + 4) : Nat) ≠ (N + 2) by omega) hT2
    refine wpAny_bind (wpAny_seqItems (s := ⟨p3, g, d, tk3, os⟩) hU3 rfl ?_)
    refine wpAny_bind (up_tp (s := ⟨p3, g, d, tk3, os⟩) hU3 (by show 3 ≤ 3; decide) fun g3 hT3 hs3 => ?_)
    replace hT3 : IsTp g3 (N + 4) #[v1, v2, v3] := hT3
    replace hs3 : Heap.SameBut (N + 4) p3 g3 := hs3
    refine wpAny_bind (wpAny_letGo (wpAny_pure (wpAny_pure ?_)))
    refine wpAny_bind (wpAny_seqItems (s := ⟨g3, g, d, tk3, os⟩) hT3 rfl ?_)
    refine wpAny_bind (wpAny_newTuple ?_)
    have hsz : g3.objs.size = hp.objs.size := by rw [hs3.1, hp3.1, hs2.1, hp2.1, hs1.1, hp1.1, hs0.1]
    have hzz : IsZ g3 (N + 5) (N + 3) (N + 4) .ellipsis f := (hs3.extBut _ _ (show ((N + 5) : Nat) ≠ (N + 4) by omega) (hp3.extBut _ _ (show ((N + 5) : Nat) ≠ (N + 2) by omega) (hs2.extBut _ _ (show ((N + 5) : Nat) ≠ (N + 4) by omega) (hp2.extBut _ _ (show ((N + 5) : Nat) ≠ (N + 1) by omega) (hs1.extBut _ _ (show ((N + 5) : Nat) ≠ (N + 4) by omega) (hp1.extBut _ _ (show ((N + 5) : Nat) ≠ N by omega) hz0))))))
    have hti : IsTp g3 (N + 3) #[.ref N, .ref (N + 1), .ref (N + 2)] := (hs3.extBut _ _ (show ((N + 3) : Nat) ≠ (N + 4) by omega) (hp3.extBut _ _ (show ((N + 3) : Nat) ≠ (N + 2) by omega) (hs2.extBut _ _ (show ((N + 3) : Nat) ≠ (N + 4) by omega) (hp2.extBut _ _ (show ((N + 3) : Nat) ≠ (N + 1) by omega) (hs1.extBut _ _ (show ((N + 3) : Nat) ≠ (N + 4) by omega) (hp1.extBut _ _ (show ((N + 3) : Nat) ≠ N by omega) (hs0.extBut _ _ (show ((N + 3) : Nat) ≠ (N + 5) by omega) hTI)))))))
    have hkk : ∀ c o, c ≠ N → c ≠ (N + 1) → c ≠ (N + 2) → c ≠ (N + 4) → c ≠ (N + 5) → hp.get? c = some o → g3.get? c = some o := fun c o c1 c2 c3 cT cz e => (hs3.extBut _ _ cT (hp3.extBut _ _ c3 (hs2.extBut _ _ cT (hp2.extBut _ _ c2 (hs1.extBut _ _ cT (hp1.extBut _ _ c1 (hs0.extBut _ _ cz e)))))))
    have hj1 : SI g3 N x1 t1 (i + 1) := (si_over (si_over (si_over (si_over (si_over sn1 hs1 (show (N : Nat) ≠ (N + 4) by omega)) hp2 (show (N : Nat) ≠ (N + 1) by omega)) hs2 (show (N : Nat) ≠ (N + 4) by omega)) hp3 (show (N : Nat) ≠ (N + 2) by omega)) hs3 (show (N : Nat) ≠ (N + 4) by omega))
    have hj2 : SI g3 (N + 1) x2 t2 (i + 1) := (si_over (si_over (si_over sn2 hs2 (show ((N + 1) : Nat) ≠ (N + 4) by omega)) hp3 (show ((N + 1) : Nat) ≠ (N + 2) by omega)) hs3 (show ((N + 1) : Nat) ≠ (N + 4) by omega))
    have hj3 : SI g3 (N + 2) x3 t3 (i + 1) := (si_over sn3 hs3 (show ((N + 2) : Nat) ≠ (N + 4) by omega))
    have hzlt : (N + 5) < g3.objs.size := Heap.lt_size hzz
    show wpAny _ _ (Builtin.SmallTypes.ownedTupleHandOut (.ref (N + 5)) (.ref g3.objs.size) >>= _) _ _ ⟨g3.push { cls := .type "tuple", data := .seq #[v1, v2, v3] }, g, d, tk3, os⟩
    refine wpAny_bind ?_
    unfold Builtin.SmallTypes.ownedTupleHandOut
    have hz₆ : IsZ (g3.push { cls := .type "tuple", data := .seq #[v1, v2, v3] }) (N + 5) (N + 3) (N + 4) .ellipsis f := Heap.get?_push_of_some _ hzz
    refine wpAny_bind (wpAny_setField_rec hz₆ (by simp) fun h₇ hz₇ hs₇ => ?_)
    replace hz₇ : IsZ h₇ (N + 5) (N + 3) (N + 4) (rawInt g3.objs.size) f := hz₇
    refine wpAny_setField_rec hz₇ (by simp) fun h₈ hz₈ hs₈ => ?_
    replace hz₈ : IsZ h₈ (N + 5) (N + 3) (N + 4) (rawInt g3.objs.size) false := hz₈
    replace hs₇ : Heap.SameBut (N + 5) (g3.push { cls := .type "tuple", data := .seq #[v1, v2, v3] }) h₇ := hs₇
    replace hs₈ : Heap.SameBut (N + 5) h₇ h₈ := hs₈
    have up : ∀ c o, c ≠ (N + 5) → g3.get? c = some o → h₈.get? c = some o := fun c o c1 e => hs₈.extBut _ _ c1 (hs₇.extBut _ _ c1 (Heap.get?_push_of_some _ e))
    have hT₈ : IsTp h₈ g3.objs.size #[v1, v2, v3] := hs₈.extBut _ _ (Nat.ne_of_gt hzlt) (hs₇.extBut _ _ (Nat.ne_of_gt hzlt) (Heap.get?_push_size _ rfl))
    have hz8 : h₈.objs.size = g3.objs.size + 1 := by rw [hs₈.1, hs₇.1, Heap.size_push]
    have fin : ZS3 N x1 x2 x3 t1 t2 t3 (i + 1) h₈ := ⟨⟨_, _, hz₈, .inr ⟨_, rfl⟩⟩, up _ _ (show ((N + 3) : Nat) ≠ (N + 5) by omega) hti, ⟨v1, v2, v3, up _ _ (show ((N + 4) : Nat) ≠ (N + 5) by omega) hT3⟩, si_over (si_over (si_push hj1) hs₇ (show (N : Nat) ≠ (N + 5) by omega)) hs₈ (show (N : Nat) ≠ (N + 5) by omega), si_over (si_over (si_push hj2) hs₇ (show ((N + 1) : Nat) ≠ (N + 5) by omega)) hs₈ (show ((N + 1) : Nat) ≠ (N + 5) by omega), si_over (si_over (si_push hj3) hs₇ (show ((N + 2) : Nat) ≠ (N + 5) by omega)) hs₈ (show ((N + 2) : Nat) ≠ (N + 5) by omega)⟩
    rw [hsz] at hT₈ hz8
    refine wpAny_pure ⟨_, rfl, ?_⟩
    show Q (.ref g3.objs.size) ⟨h₈, g, d, tk3, os⟩
    rw [hsz]
    exact hQ v1 v2 v3 h₈ tk3 hx1 hx2 hx3 fin hT₈ hz8 fun c o c1 c2 c3 cT cz e => up c o cz (hkk c o c1 c2 c3 cT cz e)
  · simp only [Bool.false_eq_true, if_false]
    refine wpAny_bind ?_
    rw [← Array.forIn_toList]
    simp only [List.forIn_cons, List.forIn_nil]
    replace hz0 : IsZ g0 (N + 5) (N + 3) (N + 4) f0 f1 := hz0
    replace hs0 : Heap.SameBut (N + 5) hp g0 := hs0
    refine wpAny_bind (wpAny_bind (wpAny_holding ?_))
    show wpAny _ _ (Builtin.SmallTypes.nextOf (.ref N) >>= _) _ _ ⟨g0, g, d, tk0, os⟩
    refine wpAny_bind ((Draws.text hh N x1 t1).item i ⟨g0, g, d, tk0, os⟩ _ _ l1 (si_over st1 hs0 (show (N : Nat) ≠ (N + 5) by omega)) fun v1 p1 tk1 hx1 sn1 hp1 => wpAny_pure ?_)
    replace hp1 : Heap.SameBut N g0 p1 := hp1
    refine wpAny_pure ?_
    refine wpAny_bind (wpAny_bind (wpAny_holding ?_))
    show wpAny _ _ (Builtin.SmallTypes.nextOf (.ref (N + 1)) >>= _) _ _ ⟨p1, g, d, tk1, os⟩
    refine wpAny_bind ((Draws.text hh (N + 1) x2 t2).item i ⟨p1, g, d, tk1, os⟩ _ _ l2 (si_over (si_over st2 hs0 (show ((N + 1) : Nat) ≠ (N + 5) by omega)) hp1 (show ((N + 1) : Nat) ≠ N by omega)) fun v2 p2 tk2 hx2 sn2 hp2 => wpAny_pure ?_)
    replace hp2 : Heap.SameBut (N + 1) p1 p2 := hp2
    refine wpAny_pure ?_
    refine wpAny_bind (wpAny_bind (wpAny_holding ?_))
    show wpAny _ _ (Builtin.SmallTypes.nextOf (.ref (N + 2)) >>= _) _ _ ⟨p2, g, d, tk2, os⟩
    refine wpAny_bind ((Draws.text hh (N + 2) x3 t3).item i ⟨p2, g, d, tk2, os⟩ _ _ l3 (si_over (si_over (si_over st3 hs0 (show ((N + 2) : Nat) ≠ (N + 5) by omega)) hp1 (show ((N + 2) : Nat) ≠ N by omega)) hp2 (show ((N + 2) : Nat) ≠ (N + 1) by omega)) fun v3 p3 tk3 hx3 sn3 hp3 => wpAny_pure ?_)
    replace hp3 : Heap.SameBut (N + 2) p2 p3 := hp3
    refine wpAny_pure (wpAny_pure ?_)
    show wpAny _ _ (newTuple [v1, v2, v3] >>= _) _ _ ⟨p3, g, d, tk3, os⟩
    refine wpAny_bind (wpAny_newTuple ?_)
    have hsz : p3.objs.size = hp.objs.size := by rw [hp3.1, hp2.1, hp1.1, hs0.1]
    have hzz : IsZ p3 (N + 5) (N + 3) (N + 4) f0 f1 := (hp3.extBut _ _ (show ((N + 5) : Nat) ≠ (N + 2) by omega) (hp2.extBut _ _ (show ((N + 5) : Nat) ≠ (N + 1) by omega) (hp1.extBut _ _ (show ((N + 5) : Nat) ≠ N by omega) hz0)))
    have hti : IsTp p3 (N + 3) #[.ref N, .ref (N + 1), .ref (N + 2)] := (hp3.extBut _ _ (show ((N + 3) : Nat) ≠ (N + 2) by omega) (hp2.extBut _ _ (show ((N + 3) : Nat) ≠ (N + 1) by omega) (hp1.extBut _ _ (show ((N + 3) : Nat) ≠ N by omega) (hs0.extBut _ _ (show ((N + 3) : Nat) ≠ (N + 5) by omega) hTI))))
    have hto : IsTp p3 (N + 4) #[a1, a2, a3] := (hp3.extBut _ _ (show ((N + 4) : Nat) ≠ (N + 2) by omega) (hp2.extBut _ _ (show ((N + 4) : Nat) ≠ (N + 1) by omega) (hp1.extBut _ _ (show ((N + 4) : Nat) ≠ N by omega) (hs0.extBut _ _ (show ((N + 4) : Nat) ≠ (N + 5) by omega) hTO))))
    have hkk : ∀ c o, c ≠ N → c ≠ (N + 1) → c ≠ (N + 2) → c ≠ (N + 4) → c ≠ (N + 5) → hp.get? c = some o → p3.get? c = some o := fun c o c1 c2 c3 cT cz e => (hp3.extBut _ _ c3 (hp2.extBut _ _ c2 (hp1.extBut _ _ c1 (hs0.extBut _ _ cz e))))
    have hj1 : SI p3 N x1 t1 (i + 1) := (si_over (si_over sn1 hp2 (show (N : Nat) ≠ (N + 1) by omega)) hp3 (show (N : Nat) ≠ (N + 2) by omega))
    have hj2 : SI p3 (N + 1) x2 t2 (i + 1) := (si_over sn2 hp3 (show ((N + 1) : Nat) ≠ (N + 2) by omega))
    have hj3 : SI p3 (N + 2) x3 t3 (i + 1) := sn3
    refine wpAny_pure ⟨_, rfl, ?_⟩
    show Q (.ref p3.objs.size) ⟨p3.push { cls := .type "tuple", data := .seq #[v1, v2, v3] }, g, d, tk3, os⟩
    have hnt : IsTp (p3.push { cls := .type "tuple", data := .seq #[v1, v2, v3] }) p3.objs.size #[v1, v2, v3] := Heap.get?_push_size _ rfl
    have hz4 : (p3.push { cls := .type "tuple", data := .seq #[v1, v2, v3] }).objs.size = p3.objs.size + 1 := Heap.size_push ..
    rw [hsz] at hnt hz4 ⊢
    exact hQ v1 v2 v3 _ tk3 hx1 hx2 hx3 ⟨⟨f0, f1, Heap.get?_push_of_some _ hzz, ow⟩, Heap.get?_push_of_some _ hti, ⟨a1, a2, a3, Heap.get?_push_of_some _ hto⟩, si_push hj1, si_push hj2, si_push hj3⟩ hnt hz4 fun c o c1 c2 c3 cT cz e => Heap.get?_push_of_some _ (hkk c o c1 c2 c3 cT cz e)
theorem zs3_end {Q : Fin → Shared → Prop} (hh : A.handled = none) (S : ZS3 N x1 x2 x3 t1 t2 t3 i s.heap) (l1 : i = x1.cps.size)
    (hE : ∀ h' tk e, (∀ c o, c ≠ N → c ≠ (N + 1) → c ≠ (N + 2) → c ≠ (N + 4) → c ≠ (N + 5) → s.heap.get? c = some o → h'.get? c = some o) → (∃ o, h'.get? e = some o ∧ o.cls = .type "StopIteration") → E (.ref e) { s with heap := h', toks := tk }) :
    wpAny (model prog w) A (Builtin.«zip.__next__» ⟨[.ref (N + 5)], []⟩) Q E s := by
  obtain ⟨hp, g, d, tk0, os⟩ := s
  obtain ⟨⟨f0, f, hz, ow⟩, hTI, ⟨a1, a2, a3, hTO⟩, st1, st2, st3⟩ := S
  show wpAny _ _ (field (.ref (N + 5)) 2 >>= _) _ _ _
  refine wpAny_bind (wpAny_field hz rfl (x := .bool false) rfl ?_)
  show wpAny _ _ (field (.ref (N + 5)) 3 >>= _) _ _ _
  refine wpAny_bind (wpAny_field hz rfl (x := .ref (N + 3)) rfl ?_)
  refine wpAny_bind (wpAny_seqItems hTI rfl ?_)
  show wpAny _ _ (Builtin.SmallTypes.ownedTupleIsFree (.ref (N + 5)) >>= _) _ _ _
  refine wpAny_bind (is_free hz ow ?_ fun g0 f1 hz0 hs0 => ?_)
  · simp only [if_true]
    refine wpAny_bind (wpAny_rule ?_)
    refine wpAny_bind (wpAny_field hz rfl (x := .ref (N + 4)) rfl ?_)
    refine wpAny_bind (wpAny_setField_rec hz (by simp) fun g0 hz0 hs0 => ?_)
    replace hz0 : IsZ g0 (N + 5) (N + 3) (N + 4) .ellipsis f := hz0
    replace hs0 : Heap.SameBut (N + 5) hp g0 := hs0
    refine wpAny_bind ?_
    simp only [List.zipIdx_cons, List.zipIdx_nil, List.forIn_cons, List.forIn_nil]
    refine wpAny_bind (wpAny_bind (wpAny_onRaise ?_))
    show wpAny _ _ (Builtin.SmallTypes.nextOf (.ref N) >>= _) _ _ ⟨g0, g, d, tk0, os⟩
    refine wpAny_bind ((Draws.text hh N x1 t1).done ⟨g0, g, d, tk0, os⟩ _ _ (by rw [← l1]; exact (si_over st1 hs0 (show (N : Nat) ≠ (N + 5) by omega))) fun q e hq he => ?_)
    replace hq : Heap.ExtBut N g0 q := hq
    obtain ⟨oe, hoe, hce⟩ := he
    replace hoe : q.get? e = some oe := hoe
    have hzq : IsZ q (N + 5) (N + 3) (N + 4) .ellipsis f := hq _ _ (show ((N + 5) : Nat) ≠ N by omega) hz0
    have hez : e ≠ (N + 5) := fun x => by subst x; rw [hzq] at hoe; cases hoe; simp at hce
    refine wpAny_setField_rec (s := ⟨q, g, d, tk0, os⟩) hzq (by simp) fun q' _ hq' => ?_
    replace hq' : Heap.SameBut (N + 5) q q' := hq'
    exact hE q' tk0 e (fun c o c1 c2 c3 cT cz x => hq'.extBut _ _ cz (hq _ _ c1 (hs0.extBut _ _ cz x))) ⟨oe, hq'.extBut _ _ hez hoe, hce⟩
  · simp only [Bool.false_eq_true, if_false]
    refine wpAny_bind ?_
    rw [← Array.forIn_toList]
    simp only [List.forIn_cons, List.forIn_nil]
    replace hz0 : IsZ g0 (N + 5) (N + 3) (N + 4) f0 f1 := hz0
    replace hs0 : Heap.SameBut (N + 5) hp g0 := hs0
    refine wpAny_bind (wpAny_bind (wpAny_holding ?_))
    show wpAny _ _ (Builtin.SmallTypes.nextOf (.ref N) >>= _) _ _ ⟨g0, g, d, tk0, os⟩
    refine wpAny_bind ((Draws.text hh N x1 t1).done ⟨g0, g, d, tk0, os⟩ _ _ (by rw [← l1]; exact (si_over st1 hs0 (show (N : Nat) ≠ (N + 5) by omega))) fun q e hq he => ?_)
    replace hq : Heap.ExtBut N g0 q := hq
    exact hE q tk0 e (fun c o c1 c2 c3 cT cz x => hq _ _ c1 (hs0.extBut _ _ cz x)) he
end
end Gd
namespace Gd
open PySem L2 PyProof.Rows
theorem wpAny_pyIter_zipS {prog : Program} {w : World} {A : Around} {E : Value → Shared → Prop} {s : Shared} {z TI TO : Addr} {f0 : Value} {f : Bool} {Q : Value → Shared → Prop} (hz : IsZ s.heap z TI TO f0 f) (h : Q (.ref z) s) : wpAny (model prog w) A (pyIter (.ref z)) Q E s := by
  have hT : s.TypeIs (.ref z) "zip" := ⟨_, hz, rfl⟩
  refine wpAny_pyIter_slot hT F.slot_zip_iter (wpAny_call_entry F.slot_zip_iter hT F.entry_zip_iter ?_ (F.args_zip_iter_1 _))
  show wpAny _ _ (ret (.ref z)) _ _ s
  exact wpAny_pure ⟨_, rfl, "zip", _, hT, F.slot_zip_next.lookup, h⟩
theorem zt0 : checkTypeCall "zip" ⟨[], []⟩ = pure () := by kernel_rfl
theorem zn0 : checkBuiltinCall "zip.__new__" ⟨[.type "zip"], []⟩ = pure () := by kernel_rfl
theorem zt1 (a : Value) : checkTypeCall "zip" ⟨[a], []⟩ = pure () := by kernel_rfl
theorem zn1 (a : Value) : checkBuiltinCall "zip.__new__" ⟨[.type "zip", a], []⟩ = pure () := by kernel_rfl
abbrev tpO (vs : Array Value) : Obj := { cls := .type "tuple", data := .seq vs }
abbrev zpO (TI TO : Addr) : Obj := { cls := .type "zip", data := .fields #[.none, .bool false, .bool false, .ref TI, .ref TO] }
abbrev gz0 (h : Heap) : Heap := ((h.push (tpO #[])).push (tpO #[])).push (zpO h.objs.size (h.push (tpO #[])).objs.size)
theorem meets_zip_newB0 : Meets (Builtin.«zip.__new__» ⟨[.type "zip"], []⟩) (fun _ R s => R (.ok (.ret (.ref ((s.heap.push (tpO #[])).push (tpO #[])).objs.size))) { s with heap := gz0 s.heap }) :=
  .of_wp fun prog w A R s h => by
    obtain ⟨hp, g, d, tk, os⟩ := s
    have hsub := sub_zip
    wp_walk
    exact ⟨_, rfl, h⟩
abbrev gzT1 (h : Heap) (o1 : Obj) : Heap := (h.push o1).push (tpO #[.ref h.objs.size])
abbrev gzO1 (h : Heap) (o1 : Obj) : Heap := (gzT1 h o1).push (tpO #[.none])
abbrev gzZ1 (h : Heap) (o1 : Obj) : Heap := (gzO1 h o1).push (zpO (h.push o1).objs.size (gzT1 h o1).objs.size)
theorem meets_zip_newB1 {v1 : Value} {o1 : Obj} {H1 : Heap → Prop} (B1 : Begins v1 o1 H1) : Meets (Builtin.«zip.__new__» ⟨[.type "zip", v1], []⟩) (fun _ R s => H1 s.heap ∧ R (.ok (.ret (.ref (gzO1 s.heap o1).objs.size))) { s with heap := gzZ1 s.heap o1 }) :=
  .of_wp fun prog w A R s h => by
    obtain ⟨hp, g, d, tk, os⟩ := s; obtain ⟨h1, h⟩ := h
    have hsub := sub_zip
    have q1 : ∀ {A' : Around} {E : Value → Shared → Prop} {Q : Value → Shared → Prop}, Q (.ref hp.objs.size) ⟨(hp.push o1), g, d, tk, os⟩ → wpAny (model prog w) A' (pyIter v1) Q E ⟨hp, g, d, tk, os⟩ :=
      fun q => B1.iter prog w _ _ ⟨hp, g, d, tk, os⟩ _ h1 q
    wp_walk using q1
    exact ⟨_, rfl, h⟩
section
variable {prog : Program} {w : World} {A : Around} {E : Value → Shared → Prop} {s : Shared}
structure ZS0 (N : Nat) (i : Nat) (h : Heap) : Prop where
  z : IsZ h (N + 2) N (N + 1) .none false
  TI : IsTp h N #[]
  TO : IsTp h (N + 1) #[]
theorem zip_beg0 {Q : Value → Shared → Prop} (h : ∀ h', ZS0 s.heap.objs.size 0 h' → (∀ c o, s.heap.get? c = some o → h'.get? c = some o) → Q (.ref (s.heap.objs.size + 2)) { s with heap := h' }) :
    wpAny (model prog w) A (call (.type "zip") []) Q E s := by
  refine callType_new F.called_zip (by decide) zt0 zn0 (fun obj => F.args_object_init_1 obj) F.entry_zip_new meets_zip_newB0 ?_
  have z1 : (s.heap.push (tpO #[])).objs.size = s.heap.objs.size + 1 := by rw [Heap.size_push]
  have z2 : ((s.heap.push (tpO #[])).push (tpO #[])).objs.size = s.heap.objs.size + 2 := by rw [Heap.size_push, z1]
  have gZ : (gz0 s.heap).get? ((s.heap.push (tpO #[])).push (tpO #[])).objs.size = some (zpO s.heap.objs.size (s.heap.push (tpO #[])).objs.size) := Heap.get?_push_size _ rfl
  have gO : (gz0 s.heap).get? (s.heap.push (tpO #[])).objs.size = some (tpO #[]) := Heap.get?_push_of_some _ (Heap.get?_push_size _ rfl)
  have gT : (gz0 s.heap).get? s.heap.objs.size = some (tpO #[]) := Heap.get?_push_of_some _ (Heap.get?_push_of_some _ (Heap.get?_push_size _ rfl))
  rw [z2, z1] at gZ
  rw [z1] at gO
  show _ ∧ _
  rw [z2]
  exact ⟨⟨_, gZ, rfl⟩, h _ ⟨gZ, gT, gO⟩ fun c o e => Heap.get?_push_of_some _ (Heap.get?_push_of_some _ (Heap.get?_push_of_some _ e))⟩
theorem zip_beg1 {x1 : Str} {t1 : Tok} {Q : Value → Shared → Prop} (h : ∀ h', ZS1 s.heap.objs.size x1 t1 0 h' → (∀ c o, s.heap.get? c = some o → h'.get? c = some o) → Q (.ref (s.heap.objs.size + 3)) { s with heap := h' }) :
    wpAny (model prog w) A (call (.type "zip") [.str x1 t1]) Q E s := by
  refine callType_new F.called_zip (by decide) (zt1 _) (zn1 _) (fun obj => F.args_object_init_2 obj _) F.entry_zip_new (meets_zip_newB1 (begins_text x1 t1)) ⟨trivial, ?_⟩
  generalize ho1 : ({ cls := .type (strIterType x1), data := .fields #[.str x1 t1, .int 0 0] } : Obj) = o1
  have hf : o1.isFreed = false := by rw [← ho1]; rfl
  have z1 : (s.heap.push o1).objs.size = s.heap.objs.size + 1 := by rw [Heap.size_push]
  have zT : (gzT1 s.heap o1).objs.size = s.heap.objs.size + 2 := by rw [Heap.size_push, z1]
  have zO : (gzO1 s.heap o1).objs.size = s.heap.objs.size + 3 := by rw [Heap.size_push, zT]
  have gZ : (gzZ1 s.heap o1).get? (gzO1 s.heap o1).objs.size = some (zpO (s.heap.push o1).objs.size (gzT1 s.heap o1).objs.size) := Heap.get?_push_size _ rfl
  have gO : (gzZ1 s.heap o1).get? (gzT1 s.heap o1).objs.size = some (tpO #[.none]) := Heap.get?_push_of_some _ (Heap.get?_push_size _ rfl)
  have gT : (gzZ1 s.heap o1).get? (s.heap.push o1).objs.size = some (tpO #[.ref s.heap.objs.size]) := Heap.get?_push_of_some _ (Heap.get?_push_of_some _ (Heap.get?_push_size _ rfl))
  have g1 : (gzZ1 s.heap o1).get? s.heap.objs.size = some o1 := Heap.get?_push_of_some _ (Heap.get?_push_of_some _ (Heap.get?_push_of_some _ (Heap.get?_push_size _ hf)))
  rw [zO, zT, z1] at gZ
  rw [zT] at gO
  rw [z1] at gT
  subst ho1
  show _ ∧ _
  rw [zO]
  exact ⟨⟨_, gZ, rfl⟩, h _ ⟨⟨_, _, gZ, .inl rfl⟩, gT, ⟨_, gO⟩, ⟨_, g1, rfl, rfl⟩⟩ fun c o e => Heap.get?_push_of_some _ (Heap.get?_push_of_some _ (Heap.get?_push_of_some _ (Heap.get?_push_of_some _ e)))⟩
theorem zip_beg2 {x1 x2 : Str} {t1 t2 : Tok} {Q : Value → Shared → Prop} (h : ∀ h', ZS2 s.heap.objs.size x1 x2 t1 t2 0 h' → (∀ c o, s.heap.get? c = some o → h'.get? c = some o) → Q (.ref (s.heap.objs.size + 4)) { s with heap := h' }) :
    wpAny (model prog w) A (call (.type "zip") [.str x1 t1, .str x2 t2]) Q E s :=
  zip_begins2 (begins_text x1 t1) (begins_text x2 t2) trivial trivial fun h' a1 a2 a3 a4 a5 a6 a7 => h h' ⟨⟨_, _, a1, .inl rfl⟩, a2, ⟨_, _, a3⟩, ⟨_, a4, rfl, rfl⟩, ⟨_, a5, rfl, rfl⟩⟩ a7
theorem zip_beg3 {x1 x2 x3 : Str} {t1 t2 t3 : Tok} {Q : Value → Shared → Prop} (h : ∀ h', ZS3 s.heap.objs.size x1 x2 x3 t1 t2 t3 0 h' → (∀ c o, s.heap.get? c = some o → h'.get? c = some o) → Q (.ref (s.heap.objs.size + 5)) { s with heap := h' }) :
    wpAny (model prog w) A (call (.type "zip") [.str x1 t1, .str x2 t2, .str x3 t3]) Q E s :=
  zip_begins3 (begins_text x1 t1) (begins_text x2 t2) (begins_text x3 t3) trivial trivial trivial fun h' a1 a2 a3 a4 a5 a6 a7 a8 => h h' ⟨⟨_, _, a1, .inl rfl⟩, a2, ⟨_, _, _, a3⟩, ⟨_, a4, rfl, rfl⟩, ⟨_, a5, rfl, rfl⟩, ⟨_, a6, rfl, rfl⟩⟩ a8
theorem zs0_end {N i : Nat} {Q : Fin → Shared → Prop} (hh : A.handled = none) (S : ZS0 N i s.heap)
    (hE : ∀ h' e, (∀ c o, s.heap.get? c = some o → h'.get? c = some o) → (∃ o, h'.get? e = some o ∧ o.cls = .type "StopIteration") → E (.ref e) { s with heap := h' }) :
    wpAny (model prog w) A (Builtin.«zip.__next__» ⟨[.ref (N + 2)], []⟩) Q E s := by
  obtain ⟨hz, hTI, hTO⟩ := S
  show wpAny _ _ (field (.ref (N + 2)) 2 >>= _) _ _ _
  refine wpAny_bind (wpAny_field hz rfl (x := .bool false) rfl ?_)
  show wpAny _ _ (field (.ref (N + 2)) 3 >>= _) _ _ _
  refine wpAny_bind (wpAny_field hz rfl (x := .ref N) rfl ?_)
  refine wpAny_bind (wpAny_seqItems hTI rfl ?_)
  refine wpAny_bind (wpAny_rule ?_)
  unfold Builtin.SmallTypes.stopIteration
  refine wpAny_bind ?_
  show wpAny _ _ (newExc (.type "StopIteration") [] >>= _) _ _ _
  refine wpAny_bind ?_
  simp only [newExc, newTuple]
  refine wpAny_bind (wpAny_newObj_type ?_ (by size_fits))
  refine wpAny_bind (m := firstArgMember _ _) (wpAny_of_eq (a := Value.none) (by first | rfl | (simp only [firstArgMember]; rfl)) ?_)
  refine wpAny_newObj_type ?_ (by size_fits)
  simp only [raiseNew]
  refine wpAny_bind (wpAny_handled ?_)
  rw [hh]
  refine wpAny_bind (wpAny_pure (wpAny_throw ?_))
  exact hE _ _ (fun c o e => Heap.get?_push_of_some _ (Heap.get?_push_of_some _ e)) ⟨_, Heap.get?_push_size _ rfl, rfl⟩
end
/-- the i-th sign -/
def sgn (i : Nat) (x : Str) : V := .str ⟨#[x.cps.getD i 0]⟩
theorem sg_rel {x : Str} {i : Nat} {v : Value} (h : SG x i v) : RelV (sgn i x) v := by
  obtain ⟨c, u, e, rfl⟩ := h
  refine ⟨u, ?_⟩
  show Value.str ⟨#[c]⟩ u = Value.str ⟨#[x.cps.getD i 0]⟩ u
  rw [Array.getD_eq_getD_getElem?, e]
  rfl
/-- zip of texts of one length -/
def ItzS (ws : List Str) : It :=
  ⟨fun i _ => ∃ x rest, ws = x :: rest ∧ i < x.cps.size, fun i H v H' => ∃ T, v = .ref T ∧ H T = none ∧ H' = upd H T (.tup (ws.map (sgn i))), fun i _ => ∀ x, x ∈ ws → i = x.cps.size⟩
theorem turn_zipS0 {P : Program} {w : World} {K : PySem.W.Frag} {nm : Str} {np : Pos} {N : Nat} : Turn P w K (.Name nm np) (ItzS []) [N, N + 1, N + 2] (N + 2) (ZS0 N) where
  mem := by simp
  obj := fun i h st c hc => by
    have e' : c = N ∨ c = N + 1 ∨ c = N + 2 := by simpa using hc
    rcases e' with q | q | q
    · rw [q]; exact ⟨_, st.TI, fun v q => nomatch q⟩
    · rw [q]; exact ⟨_, st.TO, fun v q => nomatch q⟩
    · rw [q]; exact ⟨_, st.z, fun v q => nomatch q⟩
  keep := fun i h h' st k => ⟨k _ (by simp) _ st.z, k _ (by simp) _ st.TI, k _ (by simp) _ st.TO⟩
  item := by
    intro X hP hw hK hc i pins s σ H E I hf st hg
    obtain ⟨x, rest, e, _⟩ := hg
    cases e
  done := by
    intro X hP hw hK hc i pins s σ H E I hf st hg
    subst hP hw hK
    have hT : s.TypeIs (.ref (N + 2)) "zip" := ⟨_, st.z, rfl⟩
    unfold pyNext
    refine wpAny_bind (wpAny_attempt (wpAny_callSpecial?_slot (name := Str.ofString "__next__") hT F.slot_zip_next
      (wpAny_call_entry F.slot_zip_next hT F.entry_zip_next (zs0_end (show X.A.in1.handled = none from I.ok.hd hc) st fun h' e hk he => ?_) (F.args_zip_next_1 _))))
    obtain ⟨o, ho, hc⟩ := he
    refine wpAny_bind (wpAny_isInstance (T := "StopIteration") (b := true) ⟨o, ho, hc⟩ isSubtype_stop ?_)
    exact wpAny_pure ⟨rfl, I.turnedL (t' := s.toks) (ch := [N, N + 1, N + 2]) (fun c o hb q => hk c o q) hf⟩
  self := fun A i s Q E st h => wpAny_pyIter_zipS st.z h

theorem turn_zipS1 {P : Program} {w : World} {K : PySem.W.Frag} {nm : Str} {np : Pos} {N : Nat} {x1 : Str} {t1 : Tok}  : Turn P w K (.Name nm np) (ItzS [x1]) [N, N + 1, N + 2, N + 3] (N + 3) (ZS1 N x1 t1) where
  mem := by simp
  obj := fun i h st c hc => by
    obtain ⟨⟨f0, f, hz, _⟩, hTI, ⟨a1, hTO⟩, ⟨o1, g1, _, d1⟩⟩ := st
    have e' : c = N ∨ c = N + 1 ∨ c = N + 2 ∨ c = N + 3 := by simpa using hc
    rcases e' with q | q | q | q
    · rw [q]; exact ⟨o1, g1, fun v q => by rw [d1] at q; cases q⟩
    · rw [q]; exact ⟨_, hTI, fun v q => nomatch q⟩
    · rw [q]; exact ⟨_, hTO, fun v q => nomatch q⟩
    · rw [q]; exact ⟨_, hz, fun v q => nomatch q⟩
  keep := fun i h h' st k => by
    obtain ⟨⟨f0, f, hz, ow⟩, hTI, ⟨a1, hTO⟩, ⟨o1, g1, r1⟩⟩ := st
    exact ⟨⟨f0, f, k _ (by simp) _ hz, ow⟩, k _ (by simp) _ hTI, ⟨a1, k _ (by simp) _ hTO⟩, ⟨o1, k _ (by simp) _ g1, r1⟩⟩
  item := by
    intro X hP hw hK hc i pins s σ H E I hf st hg
    subst hP hw hK
    obtain ⟨x, rest, e, hi⟩ := hg
    cases e
    have hT : s.TypeIs (.ref (N + 3)) "zip" := by obtain ⟨f0, f, hz, _⟩ := st.z; exact ⟨_, hz, rfl⟩
    have hzl : ∀ c, c ∈ ([N, N + 1, N + 2, N + 3] : List Addr) → c < s.heap.objs.size := fun c hc => by
      obtain ⟨⟨f0, f, hz, _⟩, hTI, ⟨a1, hTO⟩, ⟨o1, g1, _, d1⟩⟩ := st
      have := Heap.lt_size hz
      have e' : c = N ∨ c = N + 1 ∨ c = N + 2 ∨ c = N + 3 := by simpa using hc
      have t : (N + 3) < s.heap.objs.size := this
      rcases e' with q | q | q | q <;> (rw [q]; show (_ : Nat) < _; omega)
    unfold pyNext
    refine wpAny_bind (wpAny_attempt (wpAny_callSpecial?_slot (name := Str.ofString "__next__") hT F.slot_zip_next
      (wpAny_call_entry F.slot_zip_next hT F.entry_zip_next (zs1_item (show X.A.in1.handled = none from I.ok.hd hc) st hi fun v1 h' tk y1 st' hnew hsz hk => ?_) (F.args_zip_next_1 _))))
    refine wpAny_pure ⟨_, rfl, wpAny_pure ?_⟩
    have new : ObjOk X.prog X.w (upd H s.heap.objs.size (.tup ([x1].map (sgn i)))) h' s.heap.objs.size (.tup ([x1].map (sgn i))) :=
      ⟨by show 1 ≤ sizeLine; decide, [v1], .cons (sg_rel y1) .nil, ⟨_, hnew, rfl, _, rfl⟩⟩
    have I1 : Inv X pins σ (upd H s.heap.objs.size (.tup ([x1].map (sgn i)))) { s with heap := h', toks := tk } :=
      I.turnedNew (t' := tk) (ch := [N, N + 1, N + 2, N + 3]) (fun c o hb q => hk c o (fun q' => hb (by simp [q'])) (fun q' => hb (by simp [q'])) (fun q' => hb (by simp [q'])) q) hf (Nat.le_refl _) new
    refine ⟨.ref s.heap.objs.size, _, I1, rfl, ⟨_, rfl, I.hok.fresh (Nat.le_refl _), rfl⟩, st', fun c hcm => ?_⟩
    rw [upd_ne (Nat.ne_of_lt (hzl c hcm))]
    exact (hf c hcm).1
  done := by
    intro X hP hw hK hc i pins s σ H E I hf st hg
    subst hP hw hK
    have hT : s.TypeIs (.ref (N + 3)) "zip" := by obtain ⟨f0, f, hz, _⟩ := st.z; exact ⟨_, hz, rfl⟩
    unfold pyNext
    refine wpAny_bind (wpAny_attempt (wpAny_callSpecial?_slot (name := Str.ofString "__next__") hT F.slot_zip_next
      (wpAny_call_entry F.slot_zip_next hT F.entry_zip_next (zs1_end (show X.A.in1.handled = none from I.ok.hd hc) st (hg x1 (List.mem_cons_self ..)) fun h' tk e hk he => ?_) (F.args_zip_next_1 _))))
    obtain ⟨o, ho, hc⟩ := he
    refine wpAny_bind (wpAny_isInstance (T := "StopIteration") (b := true) ⟨o, ho, hc⟩ isSubtype_stop ?_)
    exact wpAny_pure ⟨rfl, I.turnedL (t' := tk) (ch := [N, N + 1, N + 2, N + 3]) (fun c o hb q => hk c o (fun q' => hb (by simp [q'])) (fun q' => hb (by simp [q'])) (fun q' => hb (by simp [q'])) q) hf⟩
  self := fun A i s Q E st h => by obtain ⟨f0, f, hz, _⟩ := st.z; exact wpAny_pyIter_zipS hz h
theorem turn_zipS2 {P : Program} {w : World} {K : PySem.W.Frag} {nm : Str} {np : Pos} {N : Nat} {x1 x2 : Str} {t1 t2 : Tok} (e2 : x2.cps.size = x1.cps.size) : Turn P w K (.Name nm np) (ItzS [x1, x2]) [N, N + 1, N + 2, N + 3, N + 4] (N + 4) (ZS2 N x1 x2 t1 t2) where
  mem := by simp
  obj := fun i h st c hc => by
    obtain ⟨⟨f0, f, hz, _⟩, hTI, ⟨a1, a2, hTO⟩, ⟨o1, g1, _, d1⟩, ⟨o2, g2, _, d2⟩⟩ := st
    have e' : c = N ∨ c = N + 1 ∨ c = N + 2 ∨ c = N + 3 ∨ c = N + 4 := by simpa using hc
    rcases e' with q | q | q | q | q
    · rw [q]; exact ⟨o1, g1, fun v q => by rw [d1] at q; cases q⟩
    · rw [q]; exact ⟨o2, g2, fun v q => by rw [d2] at q; cases q⟩
    · rw [q]; exact ⟨_, hTI, fun v q => nomatch q⟩
    · rw [q]; exact ⟨_, hTO, fun v q => nomatch q⟩
    · rw [q]; exact ⟨_, hz, fun v q => nomatch q⟩
  keep := fun i h h' st k => by
    obtain ⟨⟨f0, f, hz, ow⟩, hTI, ⟨a1, a2, hTO⟩, ⟨o1, g1, r1⟩, ⟨o2, g2, r2⟩⟩ := st
    exact ⟨⟨f0, f, k _ (by simp) _ hz, ow⟩, k _ (by simp) _ hTI, ⟨a1, a2, k _ (by simp) _ hTO⟩, ⟨o1, k _ (by simp) _ g1, r1⟩, ⟨o2, k _ (by simp) _ g2, r2⟩⟩
  item := by
    intro X hP hw hK hc i pins s σ H E I hf st hg
    subst hP hw hK
    obtain ⟨x, rest, e, hi⟩ := hg
    cases e
    have hT : s.TypeIs (.ref (N + 4)) "zip" := by obtain ⟨f0, f, hz, _⟩ := st.z; exact ⟨_, hz, rfl⟩
    have hzl : ∀ c, c ∈ ([N, N + 1, N + 2, N + 3, N + 4] : List Addr) → c < s.heap.objs.size := fun c hc => by
      obtain ⟨⟨f0, f, hz, _⟩, hTI, ⟨a1, a2, hTO⟩, ⟨o1, g1, _, d1⟩, ⟨o2, g2, _, d2⟩⟩ := st
      have := Heap.lt_size hz
      have e' : c = N ∨ c = N + 1 ∨ c = N + 2 ∨ c = N + 3 ∨ c = N + 4 := by simpa using hc
      have t : (N + 4) < s.heap.objs.size := this
      rcases e' with q | q | q | q | q <;> (rw [q]; show (_ : Nat) < _; omega)
    unfold pyNext
    refine wpAny_bind (wpAny_attempt (wpAny_callSpecial?_slot (name := Str.ofString "__next__") hT F.slot_zip_next
      (wpAny_call_entry F.slot_zip_next hT F.entry_zip_next (zs2_item (show X.A.in1.handled = none from I.ok.hd hc) st hi (by rw [e2]; exact hi) fun v1 v2 h' tk y1 y2 st' hnew hsz hk => ?_) (F.args_zip_next_1 _))))
    refine wpAny_pure ⟨_, rfl, wpAny_pure ?_⟩
    have new : ObjOk X.prog X.w (upd H s.heap.objs.size (.tup ([x1, x2].map (sgn i)))) h' s.heap.objs.size (.tup ([x1, x2].map (sgn i))) :=
      ⟨by show 2 ≤ sizeLine; decide, [v1, v2], .cons (sg_rel y1) (.cons (sg_rel y2) .nil), ⟨_, hnew, rfl, _, rfl⟩⟩
    have I1 : Inv X pins σ (upd H s.heap.objs.size (.tup ([x1, x2].map (sgn i)))) { s with heap := h', toks := tk } :=
      I.turnedNew (t' := tk) (ch := [N, N + 1, N + 2, N + 3, N + 4]) (fun c o hb q => hk c o (fun q' => hb (by simp [q'])) (fun q' => hb (by simp [q'])) (fun q' => hb (by simp [q'])) (fun q' => hb (by simp [q'])) q) hf (Nat.le_refl _) new
    refine ⟨.ref s.heap.objs.size, _, I1, rfl, ⟨_, rfl, I.hok.fresh (Nat.le_refl _), rfl⟩, st', fun c hcm => ?_⟩
    rw [upd_ne (Nat.ne_of_lt (hzl c hcm))]
    exact (hf c hcm).1
  done := by
    intro X hP hw hK hc i pins s σ H E I hf st hg
    subst hP hw hK
    have hT : s.TypeIs (.ref (N + 4)) "zip" := by obtain ⟨f0, f, hz, _⟩ := st.z; exact ⟨_, hz, rfl⟩
    unfold pyNext
    refine wpAny_bind (wpAny_attempt (wpAny_callSpecial?_slot (name := Str.ofString "__next__") hT F.slot_zip_next
      (wpAny_call_entry F.slot_zip_next hT F.entry_zip_next (zs2_end (show X.A.in1.handled = none from I.ok.hd hc) st (hg x1 (List.mem_cons_self ..)) fun h' tk e hk he => ?_) (F.args_zip_next_1 _))))
    obtain ⟨o, ho, hc⟩ := he
    refine wpAny_bind (wpAny_isInstance (T := "StopIteration") (b := true) ⟨o, ho, hc⟩ isSubtype_stop ?_)
    exact wpAny_pure ⟨rfl, I.turnedL (t' := tk) (ch := [N, N + 1, N + 2, N + 3, N + 4]) (fun c o hb q => hk c o (fun q' => hb (by simp [q'])) (fun q' => hb (by simp [q'])) (fun q' => hb (by simp [q'])) (fun q' => hb (by simp [q'])) q) hf⟩
  self := fun A i s Q E st h => by obtain ⟨f0, f, hz, _⟩ := st.z; exact wpAny_pyIter_zipS hz h
theorem turn_zipS3 {P : Program} {w : World} {K : PySem.W.Frag} {nm : Str} {np : Pos} {N : Nat} {x1 x2 x3 : Str} {t1 t2 t3 : Tok} (e2 : x2.cps.size = x1.cps.size) (e3 : x3.cps.size = x1.cps.size) : Turn P w K (.Name nm np) (ItzS [x1, x2, x3]) [N, N + 1, N + 2, N + 3, N + 4, N + 5] (N + 5) (ZS3 N x1 x2 x3 t1 t2 t3) where
  mem := by simp
  obj := fun i h st c hc => by
    obtain ⟨⟨f0, f, hz, _⟩, hTI, ⟨a1, a2, a3, hTO⟩, ⟨o1, g1, _, d1⟩, ⟨o2, g2, _, d2⟩, ⟨o3, g3, _, d3⟩⟩ := st
    have e' : c = N ∨ c = N + 1 ∨ c = N + 2 ∨ c = N + 3 ∨ c = N + 4 ∨ c = N + 5 := by simpa using hc
    rcases e' with q | q | q | q | q | q
    · rw [q]; exact ⟨o1, g1, fun v q => by rw [d1] at q; cases q⟩
    · rw [q]; exact ⟨o2, g2, fun v q => by rw [d2] at q; cases q⟩
    · rw [q]; exact ⟨o3, g3, fun v q => by rw [d3] at q; cases q⟩
    · rw [q]; exact ⟨_, hTI, fun v q => nomatch q⟩
    · rw [q]; exact ⟨_, hTO, fun v q => nomatch q⟩
    · rw [q]; exact ⟨_, hz, fun v q => nomatch q⟩
  keep := fun i h h' st k => by
    obtain ⟨⟨f0, f, hz, ow⟩, hTI, ⟨a1, a2, a3, hTO⟩, ⟨o1, g1, r1⟩, ⟨o2, g2, r2⟩, ⟨o3, g3, r3⟩⟩ := st
    exact ⟨⟨f0, f, k _ (by simp) _ hz, ow⟩, k _ (by simp) _ hTI, ⟨a1, a2, a3, k _ (by simp) _ hTO⟩, ⟨o1, k _ (by simp) _ g1, r1⟩, ⟨o2, k _ (by simp) _ g2, r2⟩, ⟨o3, k _ (by simp) _ g3, r3⟩⟩
  item := by
    intro X hP hw hK hc i pins s σ H E I hf st hg
    subst hP hw hK
    obtain ⟨x, rest, e, hi⟩ := hg
    cases e
    have hT : s.TypeIs (.ref (N + 5)) "zip" := by obtain ⟨f0, f, hz, _⟩ := st.z; exact ⟨_, hz, rfl⟩
    have hzl : ∀ c, c ∈ ([N, N + 1, N + 2, N + 3, N + 4, N + 5] : List Addr) → c < s.heap.objs.size := fun c hc => by
      obtain ⟨⟨f0, f, hz, _⟩, hTI, ⟨a1, a2, a3, hTO⟩, ⟨o1, g1, _, d1⟩, ⟨o2, g2, _, d2⟩, ⟨o3, g3, _, d3⟩⟩ := st
      have := Heap.lt_size hz
      have e' : c = N ∨ c = N + 1 ∨ c = N + 2 ∨ c = N + 3 ∨ c = N + 4 ∨ c = N + 5 := by simpa using hc
      have t : (N + 5) < s.heap.objs.size := this
      rcases e' with q | q | q | q | q | q <;> (rw [q]; show (_ : Nat) < _; omega)
    unfold pyNext
    refine wpAny_bind (wpAny_attempt (wpAny_callSpecial?_slot (name := Str.ofString "__next__") hT F.slot_zip_next
      (wpAny_call_entry F.slot_zip_next hT F.entry_zip_next (zs3_item (show X.A.in1.handled = none from I.ok.hd hc) st hi (by rw [e2]; exact hi) (by rw [e3]; exact hi) fun v1 v2 v3 h' tk y1 y2 y3 st' hnew hsz hk => ?_) (F.args_zip_next_1 _))))
    refine wpAny_pure ⟨_, rfl, wpAny_pure ?_⟩
    have new : ObjOk X.prog X.w (upd H s.heap.objs.size (.tup ([x1, x2, x3].map (sgn i)))) h' s.heap.objs.size (.tup ([x1, x2, x3].map (sgn i))) :=
      ⟨by show 3 ≤ sizeLine; decide, [v1, v2, v3], .cons (sg_rel y1) (.cons (sg_rel y2) (.cons (sg_rel y3) .nil)), ⟨_, hnew, rfl, _, rfl⟩⟩
    have I1 : Inv X pins σ (upd H s.heap.objs.size (.tup ([x1, x2, x3].map (sgn i)))) { s with heap := h', toks := tk } :=
      I.turnedNew (t' := tk) (ch := [N, N + 1, N + 2, N + 3, N + 4, N + 5]) (fun c o hb q => hk c o (fun q' => hb (by simp [q'])) (fun q' => hb (by simp [q'])) (fun q' => hb (by simp [q'])) (fun q' => hb (by simp [q'])) (fun q' => hb (by simp [q'])) q) hf (Nat.le_refl _) new
    refine ⟨.ref s.heap.objs.size, _, I1, rfl, ⟨_, rfl, I.hok.fresh (Nat.le_refl _), rfl⟩, st', fun c hcm => ?_⟩
    rw [upd_ne (Nat.ne_of_lt (hzl c hcm))]
    exact (hf c hcm).1
  done := by
    intro X hP hw hK hc i pins s σ H E I hf st hg
    subst hP hw hK
    have hT : s.TypeIs (.ref (N + 5)) "zip" := by obtain ⟨f0, f, hz, _⟩ := st.z; exact ⟨_, hz, rfl⟩
    unfold pyNext
    refine wpAny_bind (wpAny_attempt (wpAny_callSpecial?_slot (name := Str.ofString "__next__") hT F.slot_zip_next
      (wpAny_call_entry F.slot_zip_next hT F.entry_zip_next (zs3_end (show X.A.in1.handled = none from I.ok.hd hc) st (hg x1 (List.mem_cons_self ..)) fun h' tk e hk he => ?_) (F.args_zip_next_1 _))))
    obtain ⟨o, ho, hc⟩ := he
    refine wpAny_bind (wpAny_isInstance (T := "StopIteration") (b := true) ⟨o, ho, hc⟩ isSubtype_stop ?_)
    exact wpAny_pure ⟨rfl, I.turnedL (t' := tk) (ch := [N, N + 1, N + 2, N + 3, N + 4, N + 5]) (fun c o hb q => hk c o (fun q' => hb (by simp [q'])) (fun q' => hb (by simp [q'])) (fun q' => hb (by simp [q'])) (fun q' => hb (by simp [q'])) (fun q' => hb (by simp [q'])) q) hf⟩
  self := fun A i s Q E st h => by obtain ⟨f0, f, hz, _⟩ := st.z; exact wpAny_pyIter_zipS hz h
end Gd
namespace Gd
open PySem L2 PyProof.Rows
theorem callWith_St {M : Model} {A : Around} {E : Value → Shared → Prop} {s : Shared} {env : Env} {pos p : Pos} {T : String} {e : Expr} {Q : Value → Shared → Prop}
    (h : wpAny M A (eval e env) (fun v s₁ => PySem.W.StarOf M A E v (fun vs s₂ => wpAny M A (call (.type T) vs) Q E s₂) s₁) E s)
    (he : starEach [.Starred e p] env = [(true, eval e env)] := by rfl) : wpAny M A (callWith pos (.type T) [] (backTo pos (starEach [.Starred e p] env)) []) Q E s := by
  rw [he]
  refine PySem.W.ks_call (P := fun _ => True) rfl (fun h _ => ⟨.machine, .inr (.inl rfl), PySem.W.Looks.of_pure rfl⟩) (PySem.W.ks_lone (wpAny_mono h (fun v s1 h1 => ?_) fun _ _ x => x))
  unfold PySem.W.StarOf at h1 ⊢
  exact wpAny_mono h1 (fun b s2 ⟨e, h2⟩ => ⟨e, wpAny_mono h2 (fun vs s3 h3 => ⟨trivial, h3⟩) fun _ _ x => x⟩) fun _ _ x => x
def iZipS (K : PySem.W.Frag) (te : TE) : TI := fun σ H R => te σ H fun y H1 => ∃ (a : Addr) (ws : List Str), y = .ref a ∧ SqT K H1 a (ws.map V.str) ∧ ws.length ≤ 3 ∧ (∀ x y, x ∈ ws → y ∈ ws → x.cps.size = y.cps.size) ∧ R (ItzS ws) H1
theorem pi_zipS {X : Cx} {e : Expr} {te : TE} {p p2 pos np : Pos} {nm : Str} (hg : Gl X "zip") (hm : X.mg "zip" = none) (he : PE X e te) (hst : starEach [.Starred e p2] X.env = [(true, eval e X.env)] := by rfl) :
    PI X (.Name nm np) (.Call (.Name "zip" p) [.Starred e p2] [] pos) (iZipS X.K te) := by
  refine ⟨fun pins s σ H R I h => ?_⟩
  refine Call_ (ld_blt I hg hm PyProof.Rows.boot_zip (callWith_St (thn (he.run pins s σ H _ I h) fun v s1 ⟨y, H1, I1, ry, a, ws, ey, hq, hl, heq, q⟩ => ?_) hst))
  subst ey
  obtain rfl : v = Value.ref a := ry
  refine L2.star_tup I1 hq fun us s2 I2 rv => ?_
  have fresh : ∀ c, s2.heap.objs.size ≤ c → FpOk X pins H1 c := fun c hle => I2.fpOk hle (I2.hok.fresh hle)
  rcases ws with _ | ⟨x1, _ | ⟨x2, _ | ⟨x3, _ | ⟨x4, r⟩⟩⟩⟩
  · cases rv
    refine zip_beg0 fun h' st hk => wpAny_pyIter_zipS st.z ?_
    have I3 : Inv X pins σ H1 { s2 with heap := h' } := I2.kept (t' := s2.toks) hk
    refine ⟨_, _, _, _, H1, rfl, I3, turn_zipS0, st, fun c hc => fresh c ?_, q⟩
    have e' : c = s2.heap.objs.size ∨ c = s2.heap.objs.size + 1 ∨ c = s2.heap.objs.size + 2 := by simpa using hc
    rcases e' with q | q | q <;> (rw [q]; show (_ : Nat) ≤ _; omega)
  · cases rv with
    | cons r1 rr =>
      cases rr
      obtain ⟨t1, rfl⟩ := r1
      refine zip_beg1 fun h' st hk => ?_
      obtain ⟨f0, f, hz, ow⟩ := id st.z
      refine wpAny_pyIter_zipS hz ?_
      have I3 : Inv X pins σ H1 { s2 with heap := h' } := I2.kept (t' := s2.toks) hk
      refine ⟨_, _, _, _, H1, rfl, I3, turn_zipS1 , st, fun c hc => fresh c ?_, q⟩
      have e' : c = s2.heap.objs.size ∨ c = s2.heap.objs.size + 1 ∨ c = s2.heap.objs.size + 2 ∨ c = s2.heap.objs.size + 3 := by simpa using hc
      rcases e' with q | q | q | q <;> (rw [q]; show (_ : Nat) ≤ _; omega)
  · cases rv with
    | cons r1 rr =>
      cases rr with
      | cons r2 rr =>
      cases rr
      obtain ⟨t1, rfl⟩ := r1
      obtain ⟨t2, rfl⟩ := r2
      refine zip_beg2 fun h' st hk => ?_
      obtain ⟨f0, f, hz, ow⟩ := id st.z
      refine wpAny_pyIter_zipS hz ?_
      have I3 : Inv X pins σ H1 { s2 with heap := h' } := I2.kept (t' := s2.toks) hk
      refine ⟨_, _, _, _, H1, rfl, I3, turn_zipS2 (heq _ _ (by simp) (by simp)), st, fun c hc => fresh c ?_, q⟩
      have e' : c = s2.heap.objs.size ∨ c = s2.heap.objs.size + 1 ∨ c = s2.heap.objs.size + 2 ∨ c = s2.heap.objs.size + 3 ∨ c = s2.heap.objs.size + 4 := by simpa using hc
      rcases e' with q | q | q | q | q <;> (rw [q]; show (_ : Nat) ≤ _; omega)
  · cases rv with
    | cons r1 rr =>
      cases rr with
      | cons r2 rr =>
      cases rr with
      | cons r3 rr =>
      cases rr
      obtain ⟨t1, rfl⟩ := r1
      obtain ⟨t2, rfl⟩ := r2
      obtain ⟨t3, rfl⟩ := r3
      refine zip_beg3 fun h' st hk => ?_
      obtain ⟨f0, f, hz, ow⟩ := id st.z
      refine wpAny_pyIter_zipS hz ?_
      have I3 : Inv X pins σ H1 { s2 with heap := h' } := I2.kept (t' := s2.toks) hk
      refine ⟨_, _, _, _, H1, rfl, I3, turn_zipS3 (heq _ _ (by simp) (by simp)) (heq _ _ (by simp) (by simp)), st, fun c hc => fresh c ?_, q⟩
      have e' : c = s2.heap.objs.size ∨ c = s2.heap.objs.size + 1 ∨ c = s2.heap.objs.size + 2 ∨ c = s2.heap.objs.size + 3 ∨ c = s2.heap.objs.size + 4 ∨ c = s2.heap.objs.size + 5 := by simpa using hc
      rcases e' with q | q | q | q | q | q <;> (rw [q]; show (_ : Nat) ≤ _; omega)
  · exact absurd hl (by simp)
end Gd
namespace Kpa
open PySem L2 Gd
def top (i : Nat) : Stmt := PySem.Challenge.pw_sumdigits_k76_words_that_are_paired.main.body.getD i (.Pass ⟨0, 0, 0, 0⟩)
abbrev sSum : Stmt := top 3
abbrev sIsInt : Stmt := top 8
abbrev sBetw : Stmt := top 9
abbrev sHas : Stmt := top 10
abbrev sCkBase : Stmt := top 11
abbrev sIsWord : Stmt := top 14
abbrev sNumOf : Stmt := top 15
abbrev sPair : Stmt := top 17
abbrev sParted : Stmt := top 18
abbrev sPen : Stmt := top 20
abbrev sDraw : Stmt := top 21
abbrev sPick : Stmt := top 22
abbrev sHeard : Stmt := top 23
abbrev sWord : Stmt := top 24
abbrev sRight : Stmt := top 25
abbrev sLaw : Stmt := top 26
theorem scIsInt : FnScope ["value"] ["value"] (defScope sIsInt) := ⟨rfl, rfl, rfl, by decide +kernel, rfl, by decide +kernel, by decide +kernel⟩
structure Txw (mg : Str → Option Value) : Prop where
  int : mg "int" = none
  bool : mg "bool" = none
  str : mg "str" = none
  len : mg "len" = none
  range : mg "range" = none
  isi : mg "isinstance" = none
  list : mg "list" = none
  all : mg "all" = none
  tuple : mg "tuple" = none
  zip : mg "zip" = none
  dict : mg "dict" = none
  any : mg "any" = none
theorem Txw.k {mg : Str → Option Value} (T : Txw mg) : Kone.TxtK mg := ⟨T.isi, T.tuple, T.list, T.dict, T.any⟩
theorem scBetw : FnScope ["value", "low", "high"] ["value", "low", "high"] (defScope sBetw) := ⟨rfl, rfl, rfl, by decide +kernel, rfl, by decide +kernel, by decide +kernel⟩
def isI : V → Bool | .int _ => true | _ => false
def isB : V → Bool | .bl _ => true | _ => false
def isS : V → Bool | .str _ => true | _ => false
/-- what isinstance tells of v -/
def Knd (K : PySem.W.Frag) (H : Hp) (v : V) : Prop := ∃ t : String, TyX K H v (.type t) ∧ kitB t "int" = some (isI v || isB v) ∧ kitB t "bool" = some (isB v) ∧ kitB t "str" = some (isS v)
/-- at x the helper, as it stands -/
structure Def (K : PySem.W.Frag) (mg : Str → Option Value) (x : Str) (st : Stmt) (ps : List Str) (f : Addr) (fd : FuncData) : Prop where
  g : mg x = some (.ref f)
  k : PySem.W.keepIn K (.ref f) = true
  b : Binds K fd ps []
  F : Fun K x x st f fd
section
variable {P : Program} {w : World} {K : PySem.W.Frag} {mg : Str → Option Value} {base : Heap}
theorem knd_mk {H : Hp} {v : V} {i b s : Bool} (t : String) (ty : TyX K H v (.type t)) (ei : isI v = i) (eb : isB v = b) (es : isS v = s) (h1 : kitB t "int" = some (i || b)) (h2 : kitB t "bool" = some b) (h3 : kitB t "str" = some s) : Knd K H v := ⟨t, ty, by rw [ei, eb]; exact h1, by rw [eb]; exact h2, by rw [es]; exact h3⟩
theorem knd_int {H : Hp} {i : Int} : Knd K H (.int i) := knd_mk (i := true) (b := false) (s := false) "int" (.base (.int _)) rfl rfl rfl (by decide +kernel) (by decide +kernel) (by decide +kernel)
theorem knd_bl {H : Hp} {b : Bool} : Knd K H (.bl b) := knd_mk (i := false) (b := true) (s := false) "bool" (.base (.bl _)) rfl rfl rfl (by decide +kernel) (by decide +kernel) (by decide +kernel)
theorem knd_str {H : Hp} {s : Str} : Knd K H (.str s) := knd_mk (i := false) (b := false) (s := true) "str" (.base (.str _)) rfl rfl rfl (by decide +kernel) (by decide +kernel) (by decide +kernel)
theorem knd_non {H : Hp} : Knd K H .non := knd_mk (i := false) (b := false) (s := false) "NoneType" (.base .non) rfl rfl rfl (by decide +kernel) (by decide +kernel) (by decide +kernel)
theorem knd_lst {H : Hp} {a : Addr} {xs : List V} (e : H a = some (.lst xs)) : Knd K H (.ref a) := knd_mk (i := false) (b := false) (s := false) "list" (.base (.lst e)) rfl rfl rfl (by decide +kernel) (by decide +kernel) (by decide +kernel)
theorem knd_tup {H : Hp} {a : Addr} {xs : List V} (e : H a = some (.tup xs)) : Knd K H (.ref a) := knd_mk (i := false) (b := false) (s := false) "tuple" (.base (.tup e)) rfl rfl rfl (by decide +kernel) (by decide +kernel) (by decide +kernel)
theorem knd_dK {H : Hp} {a : Addr} {xs : List (Key × V)} (e : H a = some (.dK xs)) : Knd K H (.ref a) := knd_mk (i := false) (b := false) (s := false) "dict" (.base (.dK e)) rfl rfl rfl (by decide +kernel) (by decide +kernel) (by decide +kernel)
def spIsInt (K : PySem.W.Frag) : Sp := fun vs H Q _ => ∃ v, vs = [v] ∧ Knd K H v ∧ Q (.bl (isI v)) H
theorem ok_isint {f : Addr} {fd : FuncData} (F : Fun K "is_integer" "is_integer" sIsInt f fd) (T : Txw mg) : FnOk P w K mg base CX0 1 f fd ["value"] (spIsInt K) := by
  refine F.ok scIsInt (fun vs H Q E h => ?_) (fun cdv A outer s H vs Q E hr h => ?_)
  · obtain ⟨v, rfl, _⟩ := h
    rfl
  · obtain ⟨v, rfl, ⟨t, ty, h1, h2, _⟩, k⟩ := h
    refine ⟨_, pss_one (ps_ret (pe_and (pe_callB call_isi (by rfl) T.isi (by decide +kernel) (pa_cons (pv 0) (pa_cons (pe_bltn (v := .ty "int") rfl T.int rfl rfl) pa_nil))) (pe_one (pe_not (pe_callB call_isi (by rfl) T.isi (by decide +kernel) (pa_cons (pv 0) (pa_cons (pe_bltn (v := .ty "bool") rfl T.bool rfl rfl) pa_nil))))))), ?_⟩
    refine ⟨_, rfl, _, .ty "int", _, _, _, rfl, .ty _, ty, kit_ty h1, _, rfl, ?_⟩
    cases q : (isI v || isB v) with
    | false =>
      have : isI v = false := by cases v <;> simp_all [isI, isB]
      rw [this] at k
      exact k
    | true =>
      refine ⟨_, rfl, _, .ty "bool", _, _, _, rfl, .ty _, ty, kit_ty h2, _, rfl, ?_⟩
      have : (!isB v) = isI v := by cases v <;> simp_all [isI, isB]
      rw [this]
      exact k
/-- an integer from lo to hi -/
def btw (v : V) (lo hi : Int) : Bool := match v with | .int i => decide (lo ≤ i) && decide (i ≤ hi) | _ => false
def spBetw (K : PySem.W.Frag) : Sp := fun vs H Q _ => ∃ (v : V) (lo hi : Int), vs = [v, .int lo, .int hi] ∧ Knd K H v ∧ Q (.bl (btw v lo hi)) H
theorem ok_betw {f fI : Addr} {fd fdI : FuncData} (F : Fun K "is_between" "is_between" sBetw f fd) (T : Txw mg) (U : Def K mg "is_integer" sIsInt ["value"] fI fdI) : FnOk P w K mg base CX0 2 f fd ["value", "low", "high"] (spBetw K) := by
  have GI : FnOk P w K mg base CX0 1 fI fdI ["value"] (spIsInt K) := ok_isint U.F T
  refine F.ok scBetw (fun vs H Q E h => ?_) (fun cdv A outer s H vs Q E hr h => ?_)
  · obtain ⟨v, lo, hi, rfl, _⟩ := h
    rfl
  · obtain ⟨v, lo, hi, rfl, kn, k⟩ := h
    refine ⟨_, pss_one (ps_ret (pe_and (pe_call GI hr rfl U.g U.k U.b .nil pass0 (pa_cons (pv 0) pa_nil)) (pe_one (pe_chain op_le op_le (pv 1) (pv 0) (pv 2))))), ?_⟩
    refine ⟨_, rfl, v, rfl, kn, _, rfl, ?_⟩
    cases v with
    | int i =>
      refine ⟨_, rfl, _, rfl, _, _, rfl, rfl, _, rfl, ?_⟩
      replace k : Q (.bl (decide (lo ≤ i) && decide (i ≤ hi))) H := k
      cases q : decide (lo ≤ i) with
      | false =>
        rw [q] at k
        exact k
      | true =>
        rw [q] at k
        exact ⟨_, rfl, _, _, rfl, rfl, k⟩
    | _ => exact k

/-! ### digits -/
theorem scHas : FnScope ["text", "base"] ["text", "base"] (defScope sHas) := ⟨rfl, rfl, rfl, by decide +kernel, rfl, by decide +kernel, by decide +kernel⟩
def dgs : Str := "0123"
def inDg (b : Nat) (c : Nat) : Bool := decide (48 ≤ c) && decide (c < 48 + b)
end
section
variable {P : Program} {w : World} {K : PySem.W.Frag} {mg : Str → Option Value} {base : Heap}
/-- whether the sign of code c is one of the first b digits -/
def chk (b : Int) (c : Nat) : Bool := decide (c ∈ (cutS dgs none (some b)).cps.toList)
def spHas : Sp := fun vs H Q _ => ∃ (x : Str) (b : Int), vs = [.str x, .int b] ∧ x.cps.size ≤ 100 ∧ ∀ H', Same H H' → Q (.bl (x.cps.toList.all (chk b))) H'
theorem takeWhile_len {p : Nat → Bool} : ∀ {l : List Nat}, (l.takeWhile p).length = l.length → l.all p = true
  | [], _ => rfl
  | c :: l, h => by
    rw [List.takeWhile_cons] at h
    cases q : p c with
    | true =>
      rw [q, if_pos rfl, List.length_cons, List.length_cons] at h
      rw [List.all_cons, q, takeWhile_len (Nat.succ.inj h)]
      rfl
    | false =>
      rw [q, if_neg Bool.false_ne_true] at h
      cases h
theorem takeWhile_goes {p : Nat → Bool} : ∀ {l : List Nat}, (l.takeWhile p).all p = true
  | [] => rfl
  | c :: l => by
    rw [List.takeWhile_cons]
    cases q : p c with
    | true => rw [if_pos rfl, List.all_cons, q, takeWhile_goes]; rfl
    | false => rfl
theorem takeWhile_all {p : Nat → Bool} : ∀ {l : List Nat}, l.all p = true → l.takeWhile p = l
  | [], _ => rfl
  | c :: l, h => by
    rw [List.all_cons, Bool.and_eq_true] at h
    rw [List.takeWhile_cons, if_pos h.1, takeWhile_all h.2]
/-- nothing is left of a text exactly if all its signs go -/
theorem strip_empty (goes : Nat → Bool) (x : Str) : (Txt.stripBy goes true true x = Str.empty) ↔ x.cps.toList.all goes = true := by
  have lx : x.length = x.cps.toList.length := by
    show x.cps.size = _
    simp
  have em : ∀ y : Str, y = Str.empty ↔ y.cps.toList.length = 0 := fun y => by
    constructor
    · intro e
      subst e
      rfl
    · intro h
      obtain ⟨⟨l⟩⟩ := y
      have : l = [] := by simpa using h
      subst this
      rfl
  constructor
  · intro h
    cases q : x.cps.toList.all goes with
    | true => rfl
    | false =>
      exfalso
      have lo : (x.cps.toList.takeWhile goes).length < x.cps.toList.length := by
        have z : (x.cps.toList.takeWhile goes).length ≤ x.cps.toList.length := (List.takeWhile_sublist _).length_le
        rcases Nat.lt_or_eq_of_le z with z | z
        · exact z
        · rw [takeWhile_len z] at q
          cases q
      have hi : ((x.cps.toList.drop (x.cps.toList.takeWhile goes).length).reverse.takeWhile goes).length < x.cps.toList.length - (x.cps.toList.takeWhile goes).length := by
        have z : ((x.cps.toList.drop (x.cps.toList.takeWhile goes).length).reverse.takeWhile goes).length ≤ (x.cps.toList.drop (x.cps.toList.takeWhile goes).length).reverse.length := (List.takeWhile_sublist _).length_le
        rw [List.length_reverse, List.length_drop] at z
        rcases Nat.lt_or_eq_of_le z with z | z
        · exact z
        · exfalso
          have a1 := takeWhile_len (p := goes) (l := (x.cps.toList.drop (x.cps.toList.takeWhile goes).length).reverse) (by rw [z, List.length_reverse, List.length_drop])
          rw [List.all_reverse] at a1
          have a2 : (x.cps.toList.takeWhile goes).all goes = true := takeWhile_goes
          have a3 : x.cps.toList = x.cps.toList.takeWhile goes ++ x.cps.toList.drop (x.cps.toList.takeWhile goes).length := by
            have e1 := List.takeWhile_append_dropWhile (p := goes) (l := x.cps.toList)
            have e2 : x.cps.toList.drop (x.cps.toList.takeWhile goes).length = x.cps.toList.dropWhile goes := by
              conv => lhs; rw [← e1]
              rw [List.takeWhile_append_dropWhile]
              conv => lhs; arg 2; rw [← e1]
              rw [List.drop_left]
            rw [e2, e1]
          rw [a3, List.all_append, a2, a1] at q
          cases q
      unfold Txt.stripBy at h
      cases q2 : stripSame goes true true x with
      | true =>
        rw [q2, if_pos rfl] at h
        rw [em x] at h
        omega
      | false =>
        rw [q2, if_neg Bool.false_ne_true] at h
        unfold stripped stripHi stripLo at h
        rw [if_pos rfl, if_pos rfl, em, PySem.StrLaws.strSub_toList] at h
        rw [List.length_take, List.length_drop, lx] at h
        omega
  · intro h
    have t1 := takeWhile_all h
    unfold Txt.stripBy
    cases q2 : stripSame goes true true x with
    | true =>
      rw [if_pos rfl]
      unfold stripSame stripLo at q2
      rw [if_pos rfl, t1, Bool.and_eq_true, beq_iff_eq] at q2
      rw [em]
      exact q2.1
    | false =>
      rw [if_neg Bool.false_ne_true, em]
      unfold stripped stripLo
      rw [if_pos rfl, t1, PySem.StrLaws.strSub_toList, List.drop_length]
      simp
theorem ok_has {f : Addr} {fd : FuncData} {td : Tok} (F : Fun K "has_digits" "has_digits" sHas f fd) (T : Txw mg) (hD : mg "DIGITS" = some (.str dgs td)) : FnOk P w K mg base CX0 1 f fd ["text", "base"] spHas := by
  refine F.ok scHas (fun vs H Q E h => ?_) (fun cdv A outer s H vs Q E hr h => ?_)
  · obtain ⟨x, b, rfl, _⟩ := h
    rfl
  · obtain ⟨x, b, rfl, hx, k⟩ := h
    refine ⟨_, pss_one (ps_ret (pe_cmpR op_eq (pe_m1 PySem.F.slot_str_strip PySem.F.type_str_strip mt_stripChars (pv 0) (pe_slice sl_str (pe_glob (v := .str dgs) rfl hD ⟨_, rfl⟩) po_none (po_some (pv 1)))) pe_str (nomark _))), ?_⟩
    refine ⟨_, rfl, ⟨_, rfl⟩, _, rfl, b, rfl, dgs, rfl, by decide, x, _, rfl, rfl, Nat.le_trans (show x.length ≤ 100 from hx) (by decide), rfl, ?_⟩
    have e : decide (V.str (Txt.stripChars x (cutS dgs none (some b))) = V.str "") = x.cps.toList.all (chk b) := by
      have s := strip_empty (cutS dgs none (some b)).cps.contains x
      have c : x.cps.toList.all (chk b) = x.cps.toList.all (cutS dgs none (some b)).cps.contains := by
        congr 1
        funext c
        unfold chk
        simp
      rw [c]
      cases q : x.cps.toList.all (cutS dgs none (some b)).cps.contains with
      | true =>
        rw [q] at s
        exact decide_eq_true (congrArg V.str (s.mpr rfl))
      | false =>
        rw [q] at s
        exact decide_eq_false fun z => absurd (s.mp (V.str.inj z)) Bool.false_ne_true
    rw [e]
    exact k H (Same.refl H)
end
theorem scCkB : FnScope ["base"] ["base"] (defScope sCkBase) := ⟨rfl, rfl, rfl, by decide +kernel, rfl, by decide +kernel, by decide +kernel⟩
section
variable {P : Program} {w : World} {K : PySem.W.Frag} {mg : Str → Option Value} {base : Heap}
/-- C is raised with a copy of v in its field -/
def Rz (C : Addr) (v : V) (H : Hp) (E : XK) : Prop := ∃ D : PyData, Dq H 2 false v D ∧ ∀ (d : Addr) (H' : Hp) (v' : V), Same H H' → H d = none → H' d = some (.xd [("value", v')]) → Dq H' 2 false v' D → E (.ref C) (some d) H'
def spCk (K : PySem.W.Frag) (lo hi : Int) (C : Addr) : Sp := fun vs H Q E => ∃ v, vs = [v] ∧ Knd K H v ∧ if btw v lo hi = true then Q .non H else Rz C v H E
theorem rz_of {C : Addr} (O : OexC K C) (no : PySem.W.findIn K (.ref C) "value" = some none) {v : V} {H1 : Hp} {E : XK} (h : Rz C v H1 E) :
    [v].length ≤ 1000 ∧ ∀ a, H1 a = none → Kone.spI1 K "value" (.ref a :: ([v] ++ [])) (upd H1 a (exo a C none)) (fun u H2 => u = .non ∧ ∃ (d : Addr) (fs : List (Str × V)), H2 a = some (exo a C (some d)) ∧ H2 d = some (exd d fs) ∧ H1 d = none ∧ E (.ref C) (some d) (upd (L2.del H2 a) d (.xd fs))) (fun _ _ _ => False) := by
  obtain ⟨D, hD, k⟩ := h
  refine ⟨by show 1 ≤ 1000; decide, fun a ha => ⟨a, C, v, D, H1, rfl, O, no, upd_same, Kone.same_new ha, ha, hD, fun Hf v' dd s e1 e2 hn q => ⟨rfl, dd, [("value", v')], e1, e2, ?_, ?_⟩⟩⟩
  · by_cases z : dd = a
    · subst z; rw [upd_same] at hn; cases hn
    · rwa [upd_ne z] at hn
  · have nda : dd ≠ a := fun z => by subst z; rw [upd_same] at hn; cases hn
    have hd1 : H1 dd = none := by rwa [upd_ne nda] at hn
    refine k dd _ v' (fun b o e => ?_) hd1 upd_same (Kone.Dq.dat (fun b o c e => ?_) q)
    · have nb := ne_of_none e hd1
      have na := ne_of_none e ha
      rw [upd_ne nb, L2.del_ne na]
      exact s _ _ (Kone.hide_at na (by rw [upd_ne na]; exact e))
    · have nb : b ≠ dd := fun z => by subst z; rw [e2] at e; cases e; cases c
      have na : b ≠ a := fun z => by subst z; rw [e1] at e; cases e; cases c
      rw [upd_ne nb, L2.del_ne na]
      exact e
/-- the class of an error that is raised: x at C -/
structure Er (P : Program) (w : World) (K : PySem.W.Frag) (mg : Str → Option Value) (base : Heap) (S : Addr) (x : Str) (C : Addr) : Prop where
  c : Kone.XC K mg S x C
  ex : ∃ (fI : Addr) (fd : FuncData), PySem.W.findIn K (.ref C) "__init__" = some (some (.ref fI)) ∧ PySem.W.typeIn K (.ref fI) = some (.type "function") ∧ FnOk P w K mg base CX0 4 fI fd ["self", "value"] (Kone.spI1 K "value") ∧ Binds K fd ["self", "value"] []
  no : PySem.W.findIn K (.ref C) "value" = some none
theorem ok_ckB {f fB fI S C : Addr} {fd fdB fdI : FuncData} (F : Fun K "check_base" "check_base" sCkBase f fd) (T : Txw mg) (U : Def K mg "is_integer" sIsInt ["value"] fI fdI) (UB : Def K mg "is_between" sBetw ["value", "low", "high"] fB fdB)
    (R : Er P w K mg base S "BadBase" C) : FnOk P w K mg base (L2.CX P w) 6 f fd ["base"] (spCk K 2 4 C) := by
  have GB : FnOk P w K mg base CX0 2 fB fdB ["value", "low", "high"] (spBetw K) := ok_betw UB.F T U
  obtain ⟨fN, fdN, iC, tI, F1, kb⟩ := R.ex
  refine F.okX scCkB (fun vs H Q E h => ?_) (fun cdv A outer s H vs Q E hr h => ?_)
  · obtain ⟨v, rfl, _⟩ := h
    rfl
  · obtain ⟨v, rfl, kn, k⟩ := h
    refine ⟨_, pss_one (ps_if (pt_not (pt_val (pe_call GB (hr.mono (by decide)) rfl UB.g UB.k UB.b .nil pass0 (pa_cons (pv 0) (pa_cons pe_int (pa_cons pe_int pa_nil)))))) (pss_one (ps_raise rfl (takes_of rfl rfl rfl rfl) (pmk_oex R.c.o iC tI F1 hr kb .nil pass0 rfl R.c.g (pa_cons (pv 0) pa_nil)))) pss_nil), ?_⟩
    refine ⟨_, rfl, v, 2, 4, rfl, kn, _, rfl, ?_⟩
    cases q : btw v 2 4 with
    | true =>
      rw [q, if_pos rfl] at k
      exact k
    | false =>
      rw [q, if_neg Bool.false_ne_true] at k
      exact ⟨_, rfl, rz_of R.c.o R.no k⟩
end
theorem scIsW : FnScope ["value", "base"] ["value", "base"] (defScope sIsWord) := ⟨rfl, rfl, rfl, by decide +kernel, rfl, by decide +kernel, by decide +kernel⟩
/-- whether v is a word of base b -/
def isWd (b : Int) : V → Bool
  | .str x => decide (x.length ≤ 100) && x.cps.toList.all (chk b)
  | _ => false
/-- as v: what isinstance tells, and no text is too long -/
structure Vl (K : PySem.W.Frag) (H : Hp) (v : V) : Prop where
  k : Knd K H v
  l : ∀ x, v = .str x → x.length ≤ 1000
section
variable {P : Program} {w : World} {K : PySem.W.Frag} {mg : Str → Option Value} {base : Heap}
def spIsW (K : PySem.W.Frag) (C : Addr) : Sp := fun vs H Q E => ∃ v u, vs = [v, u] ∧ Vl K H v ∧ Knd K H u ∧ if btw u 2 4 = true then (∀ b H', u = .int b → Same H H' → Q (.bl (isWd b v)) H') else Rz C u H E
/-- the module's defs -/
structure Wds (P : Program) (w : World) (K : PySem.W.Frag) (mg : Str → Option Value) (base : Heap) (S CB CW fI fB fH fKB fIW fNO : Addr) (dI dB dH dKB dIW dNO : FuncData) : Prop where
  t : Txw mg
  dg : ∃ td, mg "DIGITS" = some (.str dgs td)
  eb : Er P w K mg base S "BadBase" CB
  i : Def K mg "is_integer" sIsInt ["value"] fI dI
  b : Def K mg "is_between" sBetw ["value", "low", "high"] fB dB
  h : Def K mg "has_digits" sHas ["text", "base"] fH dH
  kb : Def K mg "check_base" sCkBase ["base"] fKB dKB
  iw : Def K mg "is_word" sIsWord ["value", "base"] fIW dIW
  ew : Er P w K mg base S "BadWord" CW
  no : Def K mg "number_of" sNumOf ["word", "base"] fNO dNO
variable {S CB CW fI fB fH fKB fIW fNO : Addr} {dI dB dH dKB dIW dNO : FuncData}
theorem btw_int {u : V} {lo hi : Int} (h : btw u lo hi = true) : ∃ b, u = .int b ∧ lo ≤ b ∧ b ≤ hi := by
  cases u with
  | int i =>
    have h' : (decide (lo ≤ i) && decide (i ≤ hi)) = true := h
    simp only [Bool.and_eq_true, decide_eq_true_eq] at h'
    exact ⟨i, rfl, h'.1, h'.2⟩
  | _ => cases h
theorem ok_isW (D : Wds P w K mg base S CB CW fI fB fH fKB fIW fNO dI dB dH dKB dIW dNO) : FnOk P w K mg base (L2.CX P w) 7 fIW dIW ["value", "base"] (spIsW K CB) := by
  have GK : FnOk P w K mg base (L2.CX P w) 6 fKB dKB ["base"] (spCk K 2 4 CB) := ok_ckB D.kb.F D.t D.i D.b D.eb
  obtain ⟨td, hdg⟩ := D.dg
  have GH : FnOk P w K mg base CX0 1 fH dH ["text", "base"] spHas := ok_has D.h.F D.t hdg
  refine D.iw.F.okX scIsW (fun vs H Q E h => ?_) (fun cdv A outer s H vs Q E hr h => ?_)
  · obtain ⟨v, u, rfl, _⟩ := h
    rfl
  · obtain ⟨v, u, rfl, kn, ku, k⟩ := h
    obtain ⟨⟨t, ty, h1, h2, h3⟩, hl⟩ := kn
    refine ⟨_, pss_cons (ps_expr (pe_callS GK hr rfl D.kb.g D.kb.k D.kb.b (fun σ => passAt (takes_of rfl rfl rfl rfl) σ) (pa_cons (pv 1) pa_nil)))
      (pss_one (ps_ret (pe_and (pe_callB call_isi (by rfl) D.t.isi (by decide +kernel) (pa_cons (pv 0) (pa_cons (pe_bltn (v := .ty "str") rfl D.t.str rfl rfl) pa_nil)))
        (pe_and (pe_cmpR op_le (pe_callB call_len_str (by rfl) D.t.len PySem.boot_len (pa_cons (pv 0) pa_nil)) pe_int (nomark _))
          (pe_one (pe_call GH (hr.mono (by decide)) rfl D.h.g D.h.k D.h.b .nil pass0 (pa_cons (pv 0) (pa_cons (pv 1) pa_nil)))))))), ?_⟩
    refine ⟨_, rfl, u, rfl, ku, ?_⟩
    cases q : btw u 2 4 with
    | false =>
      rw [q, if_neg Bool.false_ne_true] at k
      exact k
    | true =>
      rw [q, if_pos rfl] at k
      obtain ⟨b, rfl, b2, b4⟩ := btw_int q
      rw [if_pos rfl]
      refine ⟨_, rfl, _, .ty "str", _, _, _, rfl, .ty _, ty, kit_ty h3, _, rfl, ?_⟩
      cases v with
      | str x =>
        have hz : x.length ≤ 1000 := hl x rfl
        refine ⟨_, rfl, x, rfl, Nat.le_trans hz (by decide), _, _, rfl, rfl, _, rfl, ?_⟩
        cases q2 : decide ((x.length : Int) ≤ 100) with
        | false =>
          have e : isWd b (.str x) = false := by
            have : ¬ x.length ≤ 100 := fun z => by
              rw [decide_eq_true (show (x.length : Int) ≤ 100 by omega)] at q2
              cases q2
            show (decide (x.length ≤ 100) && _) = false
            rw [decide_eq_false this, Bool.false_and]
          have k2 := k b H rfl (fun _ _ e => e)
          rw [e] at k2
          exact k2
        | true =>
          have hx : x.length ≤ 100 := by
            have := of_decide_eq_true q2
            omega
          refine ⟨_, rfl, _, rfl, x, b, rfl, hx, fun H' sm => ?_⟩
          have k2 := k b H' rfl sm
          have e : isWd b (.str x) = x.cps.toList.all (chk b) := by
            show (decide (x.length ≤ 100) && _) = _
            rw [decide_eq_true hx, Bool.true_and]
          rw [e] at k2
          exact k2
      | _ => exact k b H rfl (fun _ _ e => e)
end
end Kpa
namespace Kpa
open PySem L2 Gd
theorem scNO : FnScope ["word", "base", "number", "digit"] ["word", "base"] (defScope sNumOf) := ⟨rfl, rfl, rfl, by decide +kernel, rfl, by decide +kernel, by decide +kernel⟩
/-- the number of the digits with these codes -/
def numS (b : Nat) (cs : List Nat) : Nat := cs.foldl (fun n c => n * b + (c - 48)) 0
theorem numS_snoc {b : Nat} {cs : List Nat} {c : Nat} : numS b (cs ++ [c]) = numS b cs * b + (c - 48) := by
  unfold numS
  rw [List.foldl_append]
  rfl
theorem numS_lt {b : Nat} (hb : 0 < b) : ∀ (n : Nat) (cs : List Nat), cs.length = n → (∀ c ∈ cs, c - 48 < b) → numS b cs < b ^ n := by
  intro n
  induction n with
  | zero =>
    intro cs hl _
    cases cs with
    | nil => exact Nat.one_pos
    | cons a r => cases hl
  | succ n ih =>
    intro cs hl h
    have hn : cs ≠ [] := fun e => by rw [e] at hl; cases hl
    have e := List.dropLast_concat_getLast hn
    rw [← e, numS_snoc, Nat.pow_succ]
    have h1 := ih cs.dropLast (by rw [List.length_dropLast, hl]; rfl) (fun c hc => h c (List.dropLast_subset _ hc))
    have h2 := h _ (List.getLast_mem hn)
    have : (numS b cs.dropLast + 1) * b ≤ b ^ n * b := Nat.mul_le_mul_right b h1
    rw [Nat.add_mul, Nat.one_mul] at this
    omega
theorem chk_dig {b : Int} (b2 : 2 ≤ b) (b4 : b ≤ 4) {c : Nat} (h : chk b c = true) : 48 ≤ c ∧ ((c - 48 : Nat) : Int) < b := by
  have hb : b = 2 ∨ b = 3 ∨ b = 4 := by omega
  have h' := of_decide_eq_true h
  rcases hb with rfl | rfl | rfl
  · have e : (cutS dgs none (some 2)).cps.toList = [48, 49] := by decide +kernel
    rw [e] at h'
    simp only [List.mem_cons, List.not_mem_nil, or_false] at h'
    omega
  · have e : (cutS dgs none (some 3)).cps.toList = [48, 49, 50] := by decide +kernel
    rw [e] at h'
    simp only [List.mem_cons, List.not_mem_nil, or_false] at h'
    omega
  · have e : (cutS dgs none (some 4)).cps.toList = [48, 49, 50, 51] := by decide +kernel
    rw [e] at h'
    simp only [List.mem_cons, List.not_mem_nil, or_false] at h'
    omega
theorem int_dig {c : Nat} (h : 48 ≤ c) (h2 : c < 52) : PySem.intText? (⟨#[c]⟩ : Str) = some ((c - 48 : Nat) : Int) := by
  have : c = 48 ∨ c = 49 ∨ c = 50 ∨ c = 51 := by omega
  rcases this with rfl | rfl | rfl | rfl
  · decide +kernel
  · decide +kernel
  · decide +kernel
  · decide +kernel
theorem Rz.mono {C : Addr} {v : V} {H H1 : Hp} {E : XK} (h : Rz C v H E) (s : Same H H1) : Rz C v H1 E := by
  obtain ⟨D, q, k⟩ := h
  exact ⟨D, Dq.same s q, fun d H' v' s2 hd e => k d H' v' (s.trans s2) (s.free hd) e⟩
section
variable {P : Program} {w : World} {K : PySem.W.Frag} {mg : Str → Option Value} {base : Heap}
variable {S CB CW fI fB fH fKB fIW fNO : Addr} {dI dB dH dKB dIW dNO : FuncData}
theorem pow_small {b i m : Nat} (hb : b ≤ 4) (hi : i ≤ m) (hm : m ≤ 100) : b ^ i < 2 ^ 201 := by
  have h1 : b ^ i ≤ 4 ^ i := Nat.pow_le_pow_left hb i
  have h2 : (4 : Nat) ^ i ≤ 4 ^ 100 := Nat.pow_le_pow_right (by decide) (by omega)
  have h3 : (4 : Nat) ^ 100 < 2 ^ 201 := by decide
  omega
def spNO (K : PySem.W.Frag) (CB CW : Addr) : Sp := fun vs H Q E => ∃ v u, vs = [v, u] ∧ Vl K H v ∧ Knd K H u ∧ if btw u 2 4 = true then (∀ b : Nat, u = .int b → if isWd b v = true then (∀ x H', v = .str x → Same H H' → Q (.int (numS b x.cps.toList : Nat)) H') else Rz CW v H E) else Rz CB u H E
theorem ok_NO (D : Wds P w K mg base S CB CW fI fB fH fKB fIW fNO dI dB dH dKB dIW dNO) : FnOk P w K mg base (L2.CX P w) 8 fNO dNO ["word", "base"] (spNO K CB CW) := by
  have GW : FnOk P w K mg base (L2.CX P w) 7 fIW dIW ["value", "base"] (spIsW K CB) := ok_isW D
  obtain ⟨fN, fdN, iC, tI, F1, kb⟩ := D.ew.ex
  refine D.no.F.okX scNO (fun vs H Q E h => ?_) (fun cdv A outer s H vs Q E hr h => ?_)
  · obtain ⟨v, u, rfl, _⟩ := h
    rfl
  · obtain ⟨v, u, rfl, kn, ku, k⟩ := h
    refine ⟨_, pss_cons (ps_if (pt_not (pt_val (pe_callS GW hr rfl D.iw.g D.iw.k D.iw.b (fun σ => passAt (takes_of rfl rfl rfl rfl) σ) (pa_cons (pv 0) (pa_cons (pv 1) pa_nil)))))
        (pss_one (ps_raise rfl (takes_of rfl rfl rfl rfl) (pmk_oex D.ew.c.o iC tI F1 (hr.mono (by decide)) kb .nil pass0 rfl D.ew.c.g (pa_cons (pv 0) pa_nil)))) pss_nil)
      (pss_cons (ps_set (i := 2) scNO.nd rfl (Or.inl rfl) pe_int)
      (pss_cons (ps_for (passes_of rfl) rfl (pi_str (pv 0)) (pg_name (i := 3) scNO.nd rfl (Or.inl rfl)) (pss_one (ps_set (i := 2) scNO.nd rfl (Or.inl rfl) (pe_op op_add (pe_op op_mulW (pv 2) (pv 1)) (pe_callTy call_int_str (by rfl) D.t.int (by decide +kernel) (pa_cons (pv 3) pa_nil))))))
      (pss_one (ps_ret (pv 2))))), ?_⟩
    refine ⟨_, rfl, _, rfl, v, u, rfl, kn, ku, ?_⟩
    cases q : btw u 2 4 with
    | false =>
      rw [q, if_neg Bool.false_ne_true] at k
      rw [if_neg Bool.false_ne_true]
      exact k
    | true =>
      rw [q, if_pos rfl] at k
      obtain ⟨bi, rfl, b2, b4⟩ := btw_int q
      rw [if_pos rfl]
      obtain ⟨b, rfl⟩ : ∃ b : Nat, bi = (b : Int) := ⟨bi.toNat, by omega⟩
      intro b' H1 eb sm
      cases eb
      have k := k b rfl
      refine ⟨_, rfl, ?_⟩
      cases q2 : isWd (b : Int) v with
      | false =>
        rw [q2, if_neg Bool.false_ne_true] at k
        exact ⟨_, rfl, rz_of D.ew.c.o D.ew.no (k.mono sm)⟩
      | true =>
        rw [q2, if_pos rfl] at k
        cases v with
        | str x =>
          have hall := q2
          have h1 : x.length ≤ 100 ∧ ∀ c ∈ x.cps.toList, chk b c = true := by
            have h2 : (decide (x.length ≤ 100) && x.cps.toList.all (chk b)) = true := q2
            rw [Bool.and_eq_true, decide_eq_true_eq, List.all_eq_true] at h2
            exact h2
          obtain ⟨hx, hc⟩ := h1
          have hx' : x.cps.size ≤ 100 := hx
          have hd : ∀ c ∈ x.cps.toList, 48 ≤ c ∧ c - 48 < b := fun c h => by
            have h3 := chk_dig b2 b4 (hc c h)
            omega
          rw [if_neg (show ¬ (!true) = true by decide)]
          refine ⟨_, rfl, x, rfl, for_it walk_str (fun i σ G => G = H1 ∧ ∃ v, σ = [some (.str x), some (.int b), some (.int (numS b (x.cps.toList.take i) : Nat)), v]) ?_ ?_ ?_ ?_⟩
          · exact ⟨rfl, none, rfl⟩
          · intro i σ G hi hp
            exact True.intro
          · rintro i v σ G G' hi ⟨rfl, v0, rfl⟩ ⟨rfl, c, hci, rfl⟩
            have hcl : x.cps.toList[i]? = some c := by rw [Array.getElem?_toList]; exact hci
            have hm := List.mem_of_getElem? hcl
            obtain ⟨c1, c2⟩ := hd c hm
            refine ⟨_, rfl, _, rfl, _, _, rfl, rfl, ?_, _, rfl, _, _, rfl, int_dig c1 (by omega), by show 1 ≤ 640; decide, _, _, rfl, rfl, rfl, some (.str ⟨#[c]⟩), ?_⟩
            · have h1 : numS b (x.cps.toList.take i) < b ^ i := numS_lt (by omega) i _ (by rw [List.length_take, Array.length_toList]; omega) fun c hcc => (hd c (List.mem_of_mem_take hcc)).2
              have h2 := pow_small (b := b) (i := i) (m := 100) (by omega) (by omega) (by omega)
              exact wide_mul (a := 201) (b := 4) (by rw [Int.natAbs_natCast]; omega) (by rw [Int.natAbs_natCast]; omega) (by decide) (by decide) (by decide)
            · show [_, _, some (V.int (((numS b (x.cps.toList.take i) : Nat) : Int) * (b : Int) + ((c - 48 : Nat) : Int))), _] = _
              rw [List.take_add_one, hcl]
              show _ = [_, _, some (V.int ((numS b (x.cps.toList.take i ++ [c]) : Nat) : Int)), _]
              rw [numS_snoc, Int.natCast_add, Int.natCast_mul]
          · rintro σ G ⟨rfl, v0, rfl⟩
            refine ⟨_, rfl, ?_⟩
            have k2 := k x _ rfl sm
            rw [List.take_of_length_le (by simp)]
            exact k2
        | _ => cases q2
end
end Kpa
namespace Gd
open PySem L2 PyProof.Rows
/-! ### zip of two texts of one length, its tuple unpacked at once -/
section
variable {prog : Program} {w : World} {A : Around} {E : Value → Shared → Prop} {s : Shared}
theorem go_zip {elts : List Expr} {kk : Nat} {tpos : Pos} {z TI TO T : Addr} {f0 : Value} {f : Bool} {Q : Unit → Shared → Prop} (hz : IsZ s.heap z TI TO f0 f) (ow : Own f0)
    (hQ : ∀ h' f1, IsZ h' z TI TO f1 f → Own f1 → (∀ b, b ≠ z → h'.get? b = s.heap.get? b) → Q () { s with heap := h' }) : wpAny (model prog w) A (letOwnedTupleGo (.Tuple elts kk tpos) (.ref z) (.ref T)) Q E s := by
  unfold letOwnedTupleGo
  refine wpAny_bind (wpAny_load hz ?_)
  dsimp only
  split
  · refine wpAny_bind (wpAny_rule ?_)
    exact wpAny_setField_rec hz (by simp) fun h' z' sb => hQ h' .none z' (.inl rfl) sb.2
  · exact wpAny_pure (hQ s.heap f0 hz ow fun _ _ => rfl)
end
theorem turn_zipP2 {P : Program} {w : World} {K : PySem.W.Frag} {elts : List Expr} {kk : Nat} {tpos : Pos} {N : Nat} {x1 x2 : Str} {t1 t2 : Tok} (e2 : x2.cps.size = x1.cps.size) : Turn P w K (.Tuple elts kk tpos) (ItzS [x1, x2]) [N, N + 1, N + 2, N + 3, N + 4] (N + 4) (ZS2 N x1 x2 t1 t2) where
  mem := by simp
  obj := (turn_zipS2 (P := P) (w := w) (K := K) (nm := "x") (np := ⟨0, 0, 0, 0⟩) (N := N) (t1 := t1) (t2 := t2) e2).obj
  keep := (turn_zipS2 (P := P) (w := w) (K := K) (nm := "x") (np := ⟨0, 0, 0, 0⟩) (N := N) (t1 := t1) (t2 := t2) e2).keep
  item := by
    intro X hP hw hK hc i pins s σ H E I hf st hg
    subst hP hw hK
    obtain ⟨x, rest, e, hi⟩ := hg
    cases e
    have hT : s.TypeIs (.ref (N + 4)) "zip" := by obtain ⟨f0, f, hz, _⟩ := st.z; exact ⟨_, hz, rfl⟩
    have low : N + 4 < s.heap.objs.size := by obtain ⟨f0, f, hz, _⟩ := st.z; exact Heap.lt_size hz
    have five : ∀ c, c ∈ ([N, N + 1, N + 2, N + 3, N + 4] : List Addr) → c < s.heap.objs.size := fun c hc => by
      have q : c = N ∨ c = N + 1 ∨ c = N + 2 ∨ c = N + 3 ∨ c = N + 4 := by simpa using hc
      rcases q with q | q | q | q | q <;> (rw [q]; show (_ : Nat) < _; omega)
    unfold pyNext
    refine wpAny_bind (wpAny_attempt (wpAny_callSpecial?_slot (name := Str.ofString "__next__") hT F.slot_zip_next
      (wpAny_call_entry F.slot_zip_next hT F.entry_zip_next (zs2_item (show X.A.in1.handled = none from I.ok.hd hc) st hi (by rw [e2]; exact hi) fun v1 v2 h' tk y1 y2 st' hnew hsz hk => ?_) (F.args_zip_next_1 _))))
    refine wpAny_pure ⟨_, rfl, ?_⟩
    obtain ⟨⟨f0, f, hz, ow⟩, hTI, hTO, s1, s2⟩ := st'
    refine go_zip (s := { s with heap := h', toks := tk }) hz ow fun h2 f1 z1 ow1 sb => ?_
    have nz : ∀ c, c ≠ N + 4 → ∀ o, h'.get? c = some o → h2.get? c = some o := fun c n o e => (sb c n).trans e
    have st2 : ZS2 N x1 x2 t1 t2 (i + 1) h2 := ⟨⟨f1, f, z1, ow1⟩, nz _ (by omega) _ hTI, let ⟨a1, a2, q⟩ := hTO; ⟨a1, a2, nz _ (by omega) _ q⟩, let ⟨o, g, r⟩ := s1; ⟨o, nz _ (by omega) _ g, r⟩, let ⟨o, g, r⟩ := s2; ⟨o, nz _ (by omega) _ g, r⟩⟩
    have hnew2 := nz _ (Nat.ne_of_gt low) _ hnew
    have new : ObjOk X.prog X.w (upd H s.heap.objs.size (.tup ([x1, x2].map (sgn i)))) h2 s.heap.objs.size (.tup ([x1, x2].map (sgn i))) :=
      ⟨by show 2 ≤ sizeLine; decide, [v1, v2], .cons (sg_rel y1) (.cons (sg_rel y2) .nil), ⟨_, hnew2, rfl, _, rfl⟩⟩
    have I1 : Inv X pins σ (upd H s.heap.objs.size (.tup ([x1, x2].map (sgn i)))) { s with heap := h2, toks := tk } :=
      I.turnedNew (t' := tk) (ch := [N, N + 1, N + 2, N + 3, N + 4]) (fun c o hb q => nz c (fun q' => hb (by simp [q'])) o (hk c o (fun q' => hb (by simp [q'])) (fun q' => hb (by simp [q'])) (fun q' => hb (by simp [q'])) (fun q' => hb (by simp [q'])) q)) hf (Nat.le_refl _) new
    refine ⟨.ref s.heap.objs.size, _, I1, rfl, ⟨_, rfl, I.hok.fresh (Nat.le_refl _), rfl⟩, st2, fun c hcm => ?_⟩
    rw [upd_ne (Nat.ne_of_lt (five c hcm))]
    exact (hf c hcm).1
  done := (turn_zipS2 (P := P) (w := w) (K := K) (nm := "x") (np := ⟨0, 0, 0, 0⟩) (N := N) (t1 := t1) (t2 := t2) e2).done
  self := (turn_zipS2 (P := P) (w := w) (K := K) (nm := "x") (np := ⟨0, 0, 0, 0⟩) (N := N) (t1 := t1) (t2 := t2) e2).self
/-- zip(a, b), both texts -/
def iZipP (ta : TA) : TI := fun σ H R => ta σ H fun vs H1 => ∃ (x y : Str), vs = [.str x, .str y] ∧ y.cps.size = x.cps.size ∧ R (ItzS [x, y]) H1
theorem pi_zipP {X : Cx} {a b : Expr} {ta : TA} {p pos tpos : Pos} {elts : List Expr} {kk : Nat} (hg : Gl X "zip") (hm : X.mg "zip" = none) (ha : PA X [a, b] ta) (h1 : starEach [a, b] X.env = (false, eval a X.env) :: starEach [b] X.env := by rfl) (hpl : (backTo pos (starEach [b] X.env)).any (·.1) = false := by rfl) :
    PI X (.Tuple elts kk tpos) (.Call (.Name "zip" p) [a, b] [] pos) (iZipP ta) := by
  refine ⟨fun pins s σ H R I h => ?_⟩
  refine Call_ (ld_blt I hg hm PyProof.Rows.boot_zip (PyProof.Rows.callWith_type1 (thn (ha.run pos pins s σ H _ I h) fun us s1 ⟨vs, H1, I1, r1, q1⟩ => ?_) h1 hpl))
  obtain ⟨x1, x2, ex, hs, q⟩ := q1
  subst ex
  cases r1 with
  | cons r2 rr =>
    cases rr with
    | cons r3 rr =>
      cases rr
      obtain ⟨t1, rfl⟩ := r2
      obtain ⟨t2, rfl⟩ := r3
      refine zip_beg2 fun h' st hk => ?_
      obtain ⟨f0, f, hz, ow⟩ := id st.z
      refine wpAny_pyIter_zipS hz ?_
      have fresh : ∀ c, s1.heap.objs.size ≤ c → FpOk X pins H1 c := fun c hle => I1.fpOk hle (I1.hok.fresh hle)
      have I3 : Inv X pins σ H1 { s1 with heap := h' } := I1.kept (t' := s1.toks) hk
      refine ⟨_, _, _, _, H1, rfl, I3, turn_zipP2 hs, st, fun c hc => fresh c ?_, q⟩
      have e' : c = s1.heap.objs.size ∨ c = s1.heap.objs.size + 1 ∨ c = s1.heap.objs.size + 2 ∨ c = s1.heap.objs.size + 3 ∨ c = s1.heap.objs.size + 4 := by simpa using hc
      rcases e' with q | q | q | q | q <;> (rw [q]; show (_ : Nat) ≤ _; omega)
end Gd
namespace Kpa
open PySem L2 Gd
theorem noB {b : Bool} {F G : Prop} (hb : b = false) (h : G) : if b = true then F else G := by
  subst hb
  rw [if_neg Bool.false_ne_true]
  exact h
theorem yesB {b : Bool} {F G : Prop} (hb : b = true) (h : F) : if b = true then F else G := by
  subst hb
  rw [if_pos rfl]
  exact h
def one (c : Nat) : Str := ⟨#[c]⟩
theorem one_len {c : Nat} : (one c).length = 1 := rfl
theorem sum_one : ∀ (cs : List Nat), ((cs.map one).map (·.length)).sum = cs.length
  | [] => rfl
  | c :: cs => by
    rw [List.map_cons, List.map_cons, List.sum_cons, sum_one cs, one_len]
    simp [Nat.add_comm]
theorem join_one : ∀ (cs : List Nat), Txt.join Str.empty (cs.map one) = ⟨cs.toArray⟩
  | [] => by rw [TL.join_eq]; rfl
  | [c] => by rw [TL.join_eq]; rfl
  | c :: e :: r => by
    have ih := join_one (e :: r)
    rw [TL.join_eq] at ih ⊢
    show one c ++ Str.empty ++ Str.join Str.empty ((e :: r).map one) = _
    rw [ih]
    show Str.mk ((one c).cps ++ #[] ++ (e :: r).toArray) = _
    rw [Array.append_empty]
    congr 1
    simp [one]
theorem walk_zipS {ws : List Str} {n : Nat} (h : ∀ x, x ∈ ws → x.cps.size = n) (h0 : ws = [] → n = 0) : Walk (ItzS ws) n (fun _ => True) (fun i H v H' => ∃ T, v = .ref T ∧ H T = none ∧ H' = upd H T (.tup (ws.map (sgn i)))) :=
  ⟨fun i _ hi _ => by
    cases ws with
    | nil => rw [h0 rfl] at hi; exact absurd hi (Nat.not_lt_zero _)
    | cons x r => exact ⟨x, r, rfl, by rw [h x (List.mem_cons_self ..)]; exact hi⟩, fun _ _ x hx => (h x hx).symm, fun _ _ _ _ _ _ y => y⟩

/-- the digit of two digits -/
def pc (a b : Nat) : Nat := 48 + 2 * (a - 48) + (b - 48)
/-- the word of two words -/
def pairS (x y : Str) : Str := ⟨(List.zipWith pc x.cps.toList y.cps.toList).toArray⟩
theorem scPW : FnScope ["one", "other", "word", "first", "second"] ["one", "other"] (defScope sPair) := ⟨rfl, rfl, rfl, by decide +kernel, rfl, by decide +kernel, by decide +kernel⟩
def lenEq : V → V → Bool
  | .str x, .str y => decide (y.length = x.length)
  | _, _ => false
theorem str_dig {a b : Nat} (ha : a < 2) (hb : b < 2) : (toString (2 * (a : Int) + (b : Int)) : String) = toString (2 * a + b) := by
  have : a = 0 ∨ a = 1 := by omega
  have : b = 0 ∨ b = 1 := by omega
  rcases ‹a = 0 ∨ a = 1› with rfl | rfl <;> rcases ‹b = 0 ∨ b = 1› with rfl | rfl <;> decide +kernel
theorem pc_str {a b : Nat} (ha : a < 2) (hb : b < 2) : (Str.ofString (toString (2 * (a : Int) + (b : Int))) : Str) = one (48 + 2 * a + b) := by
  have : a = 0 ∨ a = 1 := by omega
  have : b = 0 ∨ b = 1 := by omega
  rcases ‹a = 0 ∨ a = 1› with rfl | rfl <;> rcases ‹b = 0 ∨ b = 1› with rfl | rfl <;> decide +kernel
theorem log_small {a b : Nat} (ha : a < 2) (hb : b < 2) : (2 * (a : Int) + (b : Int)).natAbs.log2 < 1920 := by
  have : a = 0 ∨ a = 1 := by omega
  have : b = 0 ∨ b = 1 := by omega
  rcases ‹a = 0 ∨ a = 1› with rfl | rfl <;> rcases ‹b = 0 ∨ b = 1› with rfl | rfl <;> decide +kernel
theorem getD_at {x : Str} {i : Nat} (h : i < x.cps.size) : x.cps.getD i 0 = x.cps.toList[i]'(by simpa using h) := by
  rw [Array.getD_eq_getD_getElem?, Array.getElem?_eq_getElem h]
  simp
theorem zip_range {x y : Str} (h : y.cps.size = x.cps.size) : (List.range x.cps.size).map (fun j => pc (x.cps.getD j 0) (y.cps.getD j 0)) = List.zipWith pc x.cps.toList y.cps.toList := by
  apply List.ext_getElem
  · simp [h]
  · intro i h1 h2
    have hi : i < x.cps.size := by simpa using h1
    rw [List.getElem_map, List.getElem_range, List.getElem_zipWith, getD_at hi, getD_at (x := y) (by omega)]
theorem okY {σ : L2.St} {H : Hp} {X Y : Hp → Prop} (h : X H) : tYes σ H (fun b H3 => if b = true then X H3 else Y H3) := by
  show (if true = true then X H else Y H)
  rw [if_pos rfl]
  exact h
/-- a word of base b: its length, its digits -/
theorem wd_dig {b : Int} (b2 : 2 ≤ b) (b4 : b ≤ 4) {x : Str} (h : isWd b (.str x) = true) : x.cps.size ≤ 100 ∧ ∀ c ∈ x.cps.toList, 48 ≤ c ∧ ((c - 48 : Nat) : Int) < b := by
  have h2 : (decide (x.length ≤ 100) && x.cps.toList.all (chk b)) = true := h
  rw [Bool.and_eq_true, decide_eq_true_eq, List.all_eq_true] at h2
  exact ⟨h2.1, fun c hc => chk_dig b2 b4 (h2.2 c hc)⟩
section
variable {P : Program} {w : World} {K : PySem.W.Frag} {mg : Str → Option Value} {base : Heap} {S CB CW fI fB fH fKB fIW fNO : Addr} {dI dB dH dKB dIW dNO : FuncData}
/-- what pair_word does -/
def PwO (CW : Addr) (v u : V) (H : Hp) (Q : VK) (E : XK) : Prop :=
  if isWd 2 v = true then (if (isWd 2 u && lenEq v u) = true then ∀ x y H', v = .str x → u = .str y → Same H H' → Q (.str (pairS x y)) H' else Rz CW u H E) else Rz CW v H E
def spPW (K : PySem.W.Frag) (CW : Addr) : Sp := fun vs H Q E => ∃ v u, vs = [v, u] ∧ (∀ H', Same H H' → Vl K H' v) ∧ (∀ H', Same H H' → Vl K H' u) ∧ PwO CW v u H Q E
theorem ok_PW (D : Wds P w K mg base S CB CW fI fB fH fKB fIW fNO dI dB dH dKB dIW dNO) {f : Addr} {fd : FuncData} (F : Fun K "pair_word" "pair_word" sPair f fd) : FnOk P w K mg base (L2.CX P w) 8 f fd ["one", "other"] (spPW K CW) := by
  have GW : FnOk P w K mg base (L2.CX P w) 7 fIW dIW ["value", "base"] (spIsW K CB) := ok_isW D
  obtain ⟨fN, fdN, iC, tI, F1, kb⟩ := D.ew.ex
  refine F.okX scPW (fun vs H Q E h => ?_) (fun cdv A outer s H vs Q E hr h => ?_)
  · obtain ⟨v, u, rfl, _⟩ := h
    rfl
  · obtain ⟨v, u, rfl, kv, ku, k⟩ := h
    refine ⟨_, pss_cons (ps_for (passes_of rfl) rfl (pi_tup (pe_tup (pa_cons (pv 0) (pa_cons (pv 1) pa_nil)))) (pg_name (i := 2) scPW.nd rfl (Or.inl rfl)) (pss_one (ps_if (PW.pt (pw_or (pt_not (pt_val (pe_callS GW hr rfl D.iw.g D.iw.k D.iw.b (fun σ => passAt (takes_of rfl rfl rfl rfl) σ) (pa_cons (pv 2) (pa_cons pe_int pa_nil)))))
          (pw_or1 (pt_cmpR op_ne (pe_callB call_len_str (by rfl) D.t.len PySem.boot_len (pa_cons (pv 2) pa_nil)) (pe_callB call_len_str (by rfl) D.t.len PySem.boot_len (pa_cons (pv 0) pa_nil)) (nomark _)))))
        (pss_one (ps_raise rfl (takes_of rfl rfl rfl rfl) (pmk_oex D.ew.c.o iC tI F1 (hr.mono (by decide)) kb .nil pass0 rfl D.ew.c.g (pa_cons (pv 2) pa_nil)))) pss_nil)))
      (pss_one (ps_ret (pe_join pe_str (pe_lc (own := [("first", 3), ("second", 4)]) (g := gTup K 2 (gCons (gName 3) (gCons (gName 4) gNil))) (tt := tYes) (te := _) rfl scPW.nd (pi_zipP rfl D.t.zip (pa_cons (pv 0) (pa_cons (pv 1) pa_nil))) (blkOk_by (N := ["one", "other", "word", "first", "second"]) (sc := defScope sPair) (by decide +kernel))
        (fun _ _ _ _ _ => pg_tup rfl (pgs_cons (pg_name (i := 3) scPW.nd rfl (Or.inl rfl)) (pgs_cons (pg_name (i := 4) scPW.nd rfl (Or.inl rfl)) pgs_nil))) (fun _ _ _ _ _ => pts_nil)
        (fun _ _ _ _ _ => pe_callTy call_str_int (by rfl) D.t.str (by decide +kernel) (pa_cons (pe_op op_add (pe_op op_mul pe_int (pe_callTy call_int_str (by rfl) D.t.int (by decide +kernel) (pa_cons (pv 3) pa_nil))) (pe_callTy call_int_str (by rfl) D.t.int (by decide +kernel) (pa_cons (pv 4) pa_nil))) pa_nil)))))), ?_⟩
    refine ⟨_, rfl, _, rfl, by show 2 ≤ sizeLine; decide, fun p hp => ⟨p, rfl, ⟨_, SqT.of upd_same⟩, for_tup (xs := [v, u]) (fun i σ G => Same H G ∧ G p = some (.tup [v, u]) ∧ (∃ z, σ = [some v, some u, z, none, none]) ∧ (1 ≤ i → isWd 2 v = true) ∧ (2 ≤ i → (isWd 2 u && lenEq v u) = true)) ?_ ?_ ?_ ?_⟩⟩
    · exact ⟨Kone.same_new hp, upd_same, ⟨none, rfl⟩, fun z => absurd z (by decide), fun z => absurd z (by decide)⟩
    · rintro i σ G hi ⟨_, e, _⟩
      exact SqT.of e
    · rintro i x σ G hx ⟨sm, et, ⟨z, rfl⟩, h1, h2⟩
      have kx : Vl K G x := by
        match i, hx with
        | 0, hx => cases hx; exact kv G sm
        | 1, hx => cases hx; exact ku G sm
        | i + 2, hx => simp at hx
      refine ⟨_, rfl, x, .int 2, rfl, kx, knd_int, ?_⟩
      rw [if_pos (show btw (.int 2) 2 4 = true by rfl)]
      intro b H1 eb sm1
      cases eb
      refine ⟨_, rfl, ?_⟩
      cases q : isWd 2 x with
      | false =>
        rw [if_pos (show (!false) = true from rfl)]
        refine yesB rfl ⟨_, rfl, rz_of D.ew.c.o D.ew.no (Rz.mono ?_ (sm.trans sm1))⟩
        unfold PwO at k
        match i, hx with
        | 0, hx =>
          cases hx
          rw [q, if_neg Bool.false_ne_true] at k
          exact k
        | 1, hx =>
          cases hx
          rw [h1 (Nat.le_refl _), if_pos rfl, q, Bool.false_and, if_neg Bool.false_ne_true] at k
          exact k
        | i + 2, hx => simp at hx
      | true =>
        rw [if_neg (show ¬ (!true) = true by decide)]
        obtain ⟨s1, rfl⟩ : ∃ s1, x = .str s1 := by
          cases x with
          | str s1 => exact ⟨s1, rfl⟩
          | _ => cases q
        obtain ⟨hs1, _⟩ := wd_dig (by decide) (by decide) q
        have hs1 : s1.length ≤ 100 := hs1
        have w1 : isWd 2 v = true := by
          match i, hx with
          | 0, hx => cases hx; exact q
          | 1, hx => exact h1 (Nat.le_refl _)
          | i + 2, hx => simp at hx
        obtain ⟨s0, rfl⟩ : ∃ s0, v = .str s0 := by
          cases v with
          | str s0 => exact ⟨s0, rfl⟩
          | _ => cases w1
        obtain ⟨hs0, _⟩ := wd_dig (by decide) (by decide) w1
        have hs0 : s0.length ≤ 100 := hs0
        refine ⟨_, rfl, s1, rfl, Nat.le_trans hs1 (by decide), _, rfl, s0, rfl, Nat.le_trans hs0 (by decide), rfl, _, rfl, ?_⟩
        have next : ∀ (H2 : Hp), i + 1 ≤ 2 → Same H1 H2 → (s1.length = s0.length) → Same H H2 ∧ H2 p = some (.tup [V.str s0, u]) ∧ (∃ z, [some (V.str s0), some u, some (V.str s1), none, none] = [some (V.str s0), some u, z, none, none]) ∧ (1 ≤ i + 1 → isWd 2 (.str s0) = true) ∧ (2 ≤ i + 1 → (isWd 2 u && lenEq (.str s0) u) = true) := fun H2 hi s2 el => by
          refine ⟨sm.trans (sm1.trans s2), s2 _ _ (sm1 _ _ et), ⟨_, rfl⟩, fun _ => w1, fun z => ?_⟩
          have : i = 1 := by omega
          subst this
          cases hx
          rw [q, Bool.true_and]
          exact decide_eq_true el
        have il : i + 1 ≤ 2 := by
          have := (List.getElem?_eq_some_iff.mp hx).1
          exact this
        by_cases q5 : s1.length = s0.length
        · have q3 : (!decide (V.int (s1.length : Int) = V.int (s0.length : Int))) = false := by rw [q5, decide_eq_true rfl]; rfl
          refine noB q3 ?_
          exact next H1 il (Same.refl _) q5
        · have q3 : (!decide (V.int (s1.length : Int) = V.int (s0.length : Int))) = true := by
            rw [decide_eq_false]
            · rfl
            · intro z
              injection z with z
              exact q5 (Int.ofNat.inj z)
          refine yesB q3 ⟨_, rfl, rz_of D.ew.c.o D.ew.no (Rz.mono ?_ (sm.trans sm1))⟩
          match i, hx with
          | 0, hx => cases hx; exact absurd rfl q5
          | 1, hx =>
            cases hx
            unfold PwO at k
            rw [w1, if_pos rfl, show lenEq (.str s0) (.str s1) = false from decide_eq_false q5, Bool.and_false, if_neg Bool.false_ne_true] at k
            exact k
          | i + 2, hx => simp at hx
    · rintro σ G ⟨sm, et, ⟨z, rfl⟩, h1, h2⟩
      have w1 := h1 (by show 1 ≤ 2; decide)
      have w2 := h2 (Nat.le_refl _)
      unfold PwO at k
      rw [w1, if_pos rfl, w2, if_pos rfl] at k
      rw [Bool.and_eq_true] at w2
      obtain ⟨x, rfl⟩ : ∃ x, v = .str x := by
        cases v with
        | str x => exact ⟨x, rfl⟩
        | _ => cases w1
      obtain ⟨y, rfl⟩ : ∃ y, u = .str y := by
        cases u with
        | str y => exact ⟨y, rfl⟩
        | _ => cases w2.1
      have el : y.cps.size = x.cps.size := of_decide_eq_true w2.2
      obtain ⟨hx, dx⟩ := wd_dig (by decide) (by decide) w1
      obtain ⟨hy, dy⟩ := wd_dig (by decide) (by decide) w2.1
      refine ⟨⟨_, rfl⟩, _, rfl, _, rfl, x, y, rfl, el, fun D1 hD1 => lc_it (walk_zipS (ws := [x, y]) (n := x.cps.size) (fun z hz => ?_) (fun z => by cases z)) (fun i G1 => Same G G1 ∧ G1 D1 = some (.lst ((List.range i).map fun j => .str (one (pc (x.cps.getD j 0) (y.cps.getD j 0)))))) ?_ (fun _ _ _ _ => True.intro) ?_ ?_⟩
      · rcases List.mem_cons.mp hz with e | e
        · rw [e]
        · rw [List.mem_singleton.mp e]; exact el
      · exact ⟨Kone.same_new hD1, by rw [upd_same]; rfl⟩
      · rintro i z G1 G2 hi ⟨s1, hL⟩ ⟨T, rfl, hT, rfl⟩
        have sT := Kone.same_new (o := .tup ([x, y].map (sgn i))) hT
        have iy : i < y.cps.size := by omega
        have ax := dx (x.cps.getD i 0) (by rw [getD_at hi]; exact List.getElem_mem _)
        have ay := dy (y.cps.getD i 0) (by rw [getD_at iy]; exact List.getElem_mem _)
        have a2 : x.cps.getD i 0 - 48 < 2 := by omega
        have b2 : y.cps.getD i 0 - 48 < 2 := by omega
        refine ⟨T, _, rfl, SqT.of upd_same, rfl, _, _, rfl, _, _, rfl, rfl, rfl, okY ?_⟩
        refine ⟨_, rfl, _, _, rfl, int_dig ax.1 (by omega), by show 1 ≤ 640; decide, _, _, rfl, rfl, .inl ⟨by decide, by decide⟩, _, rfl, _, _, rfl, int_dig ay.1 (by omega), by show 1 ≤ 640; decide, _, _, rfl, rfl, _, rfl, log_small a2 b2, ?_⟩
        refine ⟨_, sT _ _ hL, ?_, fun b o e => ?_, ?_⟩
        · rw [List.length_map, List.length_range]
          exact Nat.lt_of_lt_of_le hi (Nat.le_trans hx (by decide))
        · rw [upd_ne (ne_of_none e hD1)]
          exact sT _ _ (s1 _ _ e)
        · rw [upd_same, List.range_succ, List.map_append]
          show some (HO.lst (_ ++ [V.str (Str.ofString (toString (2 * ((x.cps.getD i 0 - 48 : Nat) : Int) + ((y.cps.getD i 0 - 48 : Nat) : Int))))])) = _
          rw [pc_str a2 b2]
          rfl
      · rintro G1 ⟨s1, hL⟩
        refine ⟨Str.empty, D1, ((List.range x.cps.size).map fun j => pc (x.cps.getD j 0) (y.cps.getD j 0)).map one, rfl, rfl, .inl (SqL.of ?_), ?_, ?_⟩
        · rw [hL, List.map_map, List.map_map]
          rfl
        · rw [sum_one, List.length_map, List.length_range]
          show x.cps.size + _ * 0 ≤ _
          omega
        · rw [join_one, zip_range el]
          exact k x y G1 rfl rfl (sm.trans s1)
end
end Kpa
namespace Kpa
open PySem L2 Gd
theorem scPt : FnScope ["word", "digit"] ["word"] (defScope sParted) := ⟨rfl, rfl, rfl, by decide +kernel, rfl, by decide +kernel, by decide +kernel⟩
/-- the bits of the digit of code c -/
def bitS (c : Nat) : Str := ⟨#[48 + (c - 48) / 2, 48 + (c - 48) % 2]⟩
def hiC (c : Nat) : Nat := 48 + (c - 48) / 2
def loC (c : Nat) : Nat := 48 + (c - 48) % 2
def hiS (x : Str) : Str := ⟨(x.cps.toList.map hiC).toArray⟩
def loS (x : Str) : Str := ⟨(x.cps.toList.map loC).toArray⟩
/-- the table of bits -/
structure Bts (K : PySem.W.Frag) (w : World) (mg : Str → Option Value) (aB : Addr) : Prop where
  g : mg "BITS" = some (.ref aB)
  d : ∀ c, 48 ≤ c → c < 52 → KDct K w aB (one c) (.str (bitS c))
section
variable {P : Program} {w : World} {K : PySem.W.Frag} {mg : Str → Option Value} {base : Heap} {S CB CW fI fB fH fKB fIW fNO : Addr} {dI dB dH dKB dIW dNO : FuncData}
/-- what parted does -/
def PtO (CW : Addr) (v : V) (H : Hp) (Q : VK) (E : XK) : Prop :=
  if isWd 4 v = true then ∀ x (t : Addr) H', v = .str x → Same H H' → H t = none → H' t = some (.tup [.str (hiS x), .str (loS x)]) → Q (.ref t) H' else Rz CW v H E
def spPt (K : PySem.W.Frag) (CW : Addr) : Sp := fun vs H Q E => ∃ v, vs = [v] ∧ (∀ H', Same H H' → Vl K H' v) ∧ PtO CW v H Q E
theorem ok_Pt (D : Wds P w K mg base S CB CW fI fB fH fKB fIW fNO dI dB dH dKB dIW dNO) {aB : Addr} (B : Bts K w mg aB) {f : Addr} {fd : FuncData} (F : Fun K "parted" "parted" sParted f fd) : FnOk P w K mg base (L2.CX P w) 8 f fd ["word"] (spPt K CW) := by
  have GW : FnOk P w K mg base (L2.CX P w) 7 fIW dIW ["value", "base"] (spIsW K CB) := ok_isW D
  obtain ⟨fN, fdN, iC, tI, F1, kb⟩ := D.ew.ex
  refine F.okX scPt (fun vs H Q E h => ?_) (fun cdv A outer s H vs Q E hr h => ?_)
  · obtain ⟨v, rfl, _⟩ := h
    rfl
  · obtain ⟨v, rfl, kv, k⟩ := h
    refine ⟨_, pss_cons (ps_if (pt_not (pt_val (pe_callS GW hr rfl D.iw.g D.iw.k D.iw.b (fun σ => passAt (takes_of rfl rfl rfl rfl) σ) (pa_cons (pv 0) (pa_cons pe_int pa_nil)))))
        (pss_one (ps_raise rfl (takes_of rfl rfl rfl rfl) (pmk_oex D.ew.c.o iC tI F1 (hr.mono (by decide)) kb .nil pass0 rfl D.ew.c.g (pa_cons (pv 0) pa_nil)))) pss_nil)
      (pss_one (ps_ret (pe_tup (pa_cons
        (pe_join pe_str (pe_lc (own := [("digit", 1)]) (g := gName 1) (tt := tYes) (te := tOp (fun x y H Q => ∃ z i c, x = .str z ∧ y = .int i ∧ 0 ≤ i ∧ i < 2 ^ 63 ∧ i < z.length ∧ z.cps[i.toNat]? = some c ∧ Q (.str ⟨#[c]⟩) H) (tOp (rIxD K w) (tC (.ref aB)) (tVar 1)) (tC (.int 0))) rfl scPt.nd (pi_str (pv 0)) (blkOk_by (N := ["word", "digit"]) (sc := defScope sParted) (by decide +kernel))
          (fun _ _ _ _ _ => pg_name (i := 1) scPt.nd rfl (Or.inl rfl)) (fun _ _ _ _ _ => pts_nil) (fun _ _ _ _ _ => pe_item_str (pe_ix ix_kdict (pe_glob (v := .ref aB) rfl B.g rfl) (pv 1) (fun _ _ => rfl)) pe_int (fun _ _ => rfl))))
        (pa_cons
        (pe_join pe_str (pe_lc (own := [("digit", 1)]) (g := gName 1) (tt := tYes) (te := tOp (fun x y H Q => ∃ z i c, x = .str z ∧ y = .int i ∧ 0 ≤ i ∧ i < 2 ^ 63 ∧ i < z.length ∧ z.cps[i.toNat]? = some c ∧ Q (.str ⟨#[c]⟩) H) (tOp (rIxD K w) (tC (.ref aB)) (tVar 1)) (tC (.int 1))) rfl scPt.nd (pi_str (pv 0)) (blkOk_by (N := ["word", "digit"]) (sc := defScope sParted) (by decide +kernel))
          (fun _ _ _ _ _ => pg_name (i := 1) scPt.nd rfl (Or.inl rfl)) (fun _ _ _ _ _ => pts_nil) (fun _ _ _ _ _ => pe_item_str (pe_ix ix_kdict (pe_glob (v := .ref aB) rfl B.g rfl) (pv 1) (fun _ _ => rfl)) pe_int (fun _ _ => rfl)))) pa_nil))))), ?_⟩
    refine ⟨_, rfl, v, .int 4, rfl, kv H (Same.refl _), knd_int, ?_⟩
    rw [if_pos (show btw (.int 4) 2 4 = true by rfl)]
    intro b H1 eb sm1
    cases eb
    refine ⟨_, rfl, ?_⟩
    unfold PtO at k
    cases q : isWd 4 v with
    | false =>
      rw [q, if_neg Bool.false_ne_true] at k
      exact ⟨_, rfl, rz_of D.ew.c.o D.ew.no (k.mono sm1)⟩
    | true =>
      rw [q, if_pos rfl] at k
      obtain ⟨x, rfl⟩ : ∃ x, v = .str x := by
        cases v with
        | str x => exact ⟨x, rfl⟩
        | _ => cases q
      obtain ⟨hx, dx⟩ := wd_dig (by decide) (by decide) q
      rw [if_neg (show ¬ (!true) = true by decide)]
      refine ⟨⟨_, rfl⟩, _, rfl, x, rfl, fun D1 hD1 => lc_it walk_str (fun i G => Same H1 G ∧ G D1 = some (.lst (((x.cps.toList.take i).map hiC).map fun c => .str (one c)))) ?_ (fun _ _ _ _ => True.intro) ?_ ?_⟩
      · exact ⟨Kone.same_new hD1, by rw [upd_same, List.take_zero]; rfl⟩
      · rintro i v0 G G' hi ⟨s1, hL⟩ ⟨rfl, c, hc, rfl⟩
        have hcl : x.cps.toList[i]? = some c := by rw [Array.getElem?_toList]; exact hc
        obtain ⟨c1, c2⟩ := dx c (List.mem_of_getElem? hcl)
        refine ⟨rfl, okY ?_⟩
        refine ⟨_, rfl, aB, one c, _, rfl, rfl, B.d c c1 (by omega), bitS c, 0, _, rfl, rfl, by decide, by decide, by show (0 : Int) < ((2 : Nat) : Int); decide, rfl, _, hL, ?_, fun b o e => ?_, ?_⟩
        · rw [List.length_map, List.length_map, List.length_take]
          have : x.cps.toList.length = x.cps.size := by simp
          exact Nat.lt_of_le_of_lt (Nat.min_le_right _ _) (by rw [this]; exact Nat.lt_of_le_of_lt hx (by decide))
        · rw [upd_ne (ne_of_none e hD1)]
          exact s1 _ _ e
        · rw [upd_same, List.take_add_one, hcl, List.map_append, List.map_append]
          rfl
      · rintro GD1 ⟨sD1, hLD1⟩
        rw [List.take_of_length_le (by simp)] at hLD1
        refine ⟨Str.empty, D1, (x.cps.toList.map hiC).map one, rfl, rfl, .inl (SqL.of ?_), ?_, ?_⟩
        · rw [hLD1, List.map_map, List.map_map, List.map_map]
          rfl
        · rw [sum_one, List.length_map, Array.length_toList]
          show x.cps.size + _ * 0 ≤ _
          omega
        · rw [join_one]
          refine ⟨⟨_, rfl⟩, _, rfl, x, rfl, fun D2 hD2 => lc_it walk_str (fun i G => Same GD1 G ∧ G D2 = some (.lst (((x.cps.toList.take i).map loC).map fun c => .str (one c)))) ?_ (fun _ _ _ _ => True.intro) ?_ ?_⟩
          · exact ⟨Kone.same_new hD2, by rw [upd_same, List.take_zero]; rfl⟩
          · rintro i v0 G G' hi ⟨s1, hL⟩ ⟨rfl, c, hc, rfl⟩
            have hcl : x.cps.toList[i]? = some c := by rw [Array.getElem?_toList]; exact hc
            obtain ⟨c1, c2⟩ := dx c (List.mem_of_getElem? hcl)
            refine ⟨rfl, okY ?_⟩
            refine ⟨_, rfl, aB, one c, _, rfl, rfl, B.d c c1 (by omega), bitS c, 1, _, rfl, rfl, by decide, by decide, by show (1 : Int) < ((2 : Nat) : Int); decide, rfl, _, hL, ?_, fun b o e => ?_, ?_⟩
            · rw [List.length_map, List.length_map, List.length_take]
              have : x.cps.toList.length = x.cps.size := by simp
              exact Nat.lt_of_le_of_lt (Nat.min_le_right _ _) (by rw [this]; exact Nat.lt_of_le_of_lt hx (by decide))
            · rw [upd_ne (ne_of_none e hD2)]
              exact s1 _ _ e
            · rw [upd_same, List.take_add_one, hcl, List.map_append, List.map_append]
              rfl
          · rintro GD2 ⟨sD2, hLD2⟩
            rw [List.take_of_length_le (by simp)] at hLD2
            refine ⟨Str.empty, D2, (x.cps.toList.map loC).map one, rfl, rfl, .inl (SqL.of ?_), ?_, ?_⟩
            · rw [hLD2, List.map_map, List.map_map, List.map_map]
              rfl
            · rw [sum_one, List.length_map, Array.length_toList]
              show x.cps.size + _ * 0 ≤ _
              omega
            · rw [join_one]
              refine ⟨by show 2 ≤ sizeLine; decide, fun t ht => ?_⟩
              have sA := (sm1.trans sD1).trans sD2
              exact k x t _ rfl (sA.trans (Kone.same_new ht)) (sA.free ht) upd_same
end
end Kpa
namespace Kpa
open PySem L2 Gd
open Kone (Pen Keep spPen spDraw spPick TxtD fmod_range keep_upd same_new dp_ints at_nat nzA nzB map_cut)
section
variable {P : Program} {w : World} {K : PySem.W.Frag} {mg : Str → Option Value} {base : Heap} {fD : Addr}
theorem scPen : FnScope ["_law_script"] ["_law_script"] (defScope sPen) := ⟨rfl, rfl, rfl, by decide +kernel, rfl, by decide +kernel, by decide +kernel⟩
theorem ok_pen {f : Addr} {fd : FuncData} (F : Fun K "_law_pen" "_law_pen" sPen f fd) (T : TxtD mg fD) : FnOk P w K mg base CX0 1 f fd ["_law_script"] (spPen K) := by
  refine F.ok scPen (fun vs H Q E h => ?_) (fun cdv A outer s H vs Q E hr h => ?_)
  · obtain ⟨a, ns, rfl, _⟩ := h
    rfl
  · obtain ⟨a, ns, rfl, hS, k⟩ := h
    refine ⟨_, pss_one (ps_ret (pe_lst (pa_cons (pe_callTy call_list_of (by rfl) T.list (by decide +kernel) (pa_cons (pe_slice sl_list (pv 0) po_none (po_some pe_int)) pa_nil)) (pa_cons pe_int (pa_cons pe_int pa_nil))))), ?_⟩
    refine ⟨_, rfl, _, rfl, a, _, rfl, hS, fun q hq => ?_⟩
    obtain ⟨ms, e⟩ := map_cut ns none (some 63)
    refine ⟨q, _, rfl, .inl (SqL.of upd_same), fun l hl => ?_⟩
    refine ⟨by show 3 ≤ sizeLine; decide, fun p hp => ?_⟩
    have hqp : H p = none := by
      by_cases z : p = l
      · subst z; rw [upd_same] at hp; cases hp
      · rw [upd_ne z] at hp
        by_cases z2 : p = q
        · subst z2; rw [upd_same] at hp; cases hp
        · rwa [upd_ne z2] at hp
    have nl : l ≠ p := fun z => by subst z; rw [upd_same] at hp; cases hp
    have nlq : l ≠ q := fun z => by subst z; rw [upd_same] at hl; cases hl
    have hl0 : H l = none := by rwa [upd_ne nlq] at hl
    refine k _ p l (fun b o e => ?_) ⟨ms, 0, 0, upd_same, ?_, nl, by omega, by omega⟩
    · rw [upd_ne (ne_of_none e hqp), upd_ne (ne_of_none e hl0), upd_ne (ne_of_none e hq)]
      exact e
    · rw [upd_ne nl, upd_same, ← e]
theorem scDraw : FnScope ["_law_pen_here", "_law_many", "_law_digit", "_law_used", "_law_cell", "_law_great", "_law_mixed"] ["_law_pen_here", "_law_many"] (defScope sDraw) := ⟨rfl, rfl, rfl, by decide +kernel, rfl, by decide +kernel, by decide +kernel⟩
theorem nzA2 : (2147483549 : Int) ≠ 0 := by decide
theorem nzB2 : (2147483629 : Int) ≠ 0 := by decide
theorem mix1 {x a : Int} (h0 : 0 ≤ a) (h1 : a < 200000) : (x.fmod 2147483549 + 95411 * a + 4111).natAbs < 2 ^ 64 := by
  have r := fmod_range (a := x) (m := 2147483549) (by decide)
  omega
theorem mix2 {x a : Int} (h0 : 0 ≤ a) (h1 : a < 200000) : (x.fmod 2147483629 * (2 * a + 661) + 68985 * a * a + 1027).natAbs < 2 ^ 64 := by
  have r := fmod_range (a := x) (m := 2147483629) (by decide)
  have e1 : x.fmod 2147483629 * (2 * a + 661) ≤ 2147483629 * 400661 := Int.mul_le_mul (by omega) (by omega) (by omega) (by omega)
  have e0 : 0 ≤ x.fmod 2147483629 * (2 * a + 661) := Int.mul_nonneg r.1 (by omega)
  have e2 : 68985 * a * a ≤ (68985 * 200000) * 200000 := Int.mul_le_mul (by omega) (by omega) (by omega) (by omega)
  have e3 : 0 ≤ 68985 * a * a := Int.mul_nonneg (by omega) h0
  omega
theorem ok_draw {f : Addr} {fd : FuncData} (F : Fun K "_law_draw" "_law_draw" sDraw f fd) (T : TxtD mg fD) : FnOk P w K mg base CX0 1 f fd ["_law_pen_here", "_law_many"] spDraw := by
  refine F.ok scDraw (fun vs H Q E h => ?_) (fun cdv A outer s H vs Q E hr h => ?_)
  · obtain ⟨p, c, m, n, rfl, _⟩ := h
    rfl
  · obtain ⟨p, c, m, n, rfl, ⟨cs, a, g, h1, h2, h3, h4, h5⟩, hn, m0, m1, k⟩ := h
    refine ⟨_, (pss_cons (ps_if (pt_cmpR op_gt (pe_ix ix_list (pv 0) pe_int (fun _ _ => rfl)) pe_int (nomark _)) (pss_cons (ps_set (i := 2) scDraw.nd rfl (Or.inl rfl) (pe_op op_modN (pe_callTy call_int1 (by rfl) T.int (by decide +kernel) (pa_cons (pe_ix ix_list (pv 0) pe_int (fun _ _ => rfl)) pa_nil)) (pv 1)))
        (pss_cons (ps_asg (pe_op op_fdivN (pe_callTy call_int1 (by rfl) T.int (by decide +kernel) (pa_cons (pe_ix ix_list (pv 0) pe_int (fun _ _ => rfl)) pa_nil)) (pv 1)) (pg_sub (pv 0) pe_int set_list))
        (pss_one (ps_ret (pv 2))))) pss_nil)
        (pss_cons (ps_set (i := 3) scDraw.nd rfl (Or.inl rfl) (pe_ix ix_list (pv 0) pe_int (fun _ _ => rfl)))
        (pss_cons (ps_asg (pe_op op_add (pv 3) pe_int) (pg_sub (pv 0) pe_int set_list))
        (pss_cons (ps_set (i := 4) scDraw.nd rfl (Or.inl rfl) (pe_op op_add (pe_op op_mul pe_int (pv 3)) pe_int))
        (pss_cons (ps_if (pt_cmpR (op_neD hr.units) (pe_ix ix_list (pv 0) pe_int (fun _ _ => rfl)) (pe_lst pa_nil) (nomark _)) (pss_one (ps_set (i := 4) scDraw.nd rfl (Or.inl rfl) (pe_ix ix_list (pe_ix ix_list (pv 0) pe_int (fun _ _ => rfl)) (pe_op op_modN (pe_callTy call_int1 (by rfl) T.int (by decide +kernel) (pa_cons (pv 3) pa_nil)) (pe_callB call_len_seq (by rfl) T.len PySem.boot_len (pa_cons (pe_ix ix_list (pv 0) pe_int (fun _ _ => rfl)) pa_nil))) (fun _ _ => rfl)))) pss_nil)
        (pss_cons (ps_if (PW.pt (pw_and (pt_cmpR op_lt (pv 3) (pe_callB call_len_seq (by rfl) T.len PySem.boot_len (pa_cons (pe_ix ix_list (pv 0) pe_int (fun _ _ => rfl)) pa_nil)) (nomark _)) (pw_and1 (pt_cmpR op_ge (pe_callB call_abs (by rfl) T.abs (by decide +kernel) (pa_cons (pv 4) pa_nil)) (pe_op op_pow pe_int pe_int) (nomark _))))) (pss_cons (ps_set (i := 5) scDraw.nd rfl (Or.inl rfl) (pe_op op_add (pe_op op_mul pe_int (pe_op op_sub (pe_callB call_abs (by rfl) T.abs (by decide +kernel) (pa_cons (pv 4) pa_nil)) (pe_op op_pow pe_int pe_int))) (pe_callTy call_int1 (by rfl) T.int (by decide +kernel) (pa_cons (pe_cmpR op_lt (pv 4) pe_int (nomark _)) pa_nil))))
        (pss_cons (ps_asg (pe_op op_fdivN (pe_callTy call_int1 (by rfl) T.int (by decide +kernel) (pa_cons (pv 5) pa_nil)) (pv 1)) (pg_sub (pv 0) pe_int set_list))
        (pss_one (ps_ret (pe_op op_modN (pe_callTy call_int1 (by rfl) T.int (by decide +kernel) (pa_cons (pv 5) pa_nil)) (pv 1)))))) pss_nil)
        (pss_cons (ps_set (i := 6) scDraw.nd rfl (Or.inl rfl) (pe_op op_modN (pe_callTy call_int1 (by rfl) T.int (by decide +kernel) (pa_cons (pe_op op_pow (pe_op op_add (pe_op op_add (pe_op op_modN (pe_callTy call_int1 (by rfl) T.int (by decide +kernel) (pa_cons (pv 4) pa_nil)) pe_int) (pe_op op_mul pe_int (pv 3))) pe_int) pe_int) pa_nil)) pe_int))
        (pss_cons (ps_set (i := 6) scDraw.nd rfl (Or.inl rfl) (pe_op op_modN (pe_callTy call_int1 (by rfl) T.int (by decide +kernel) (pa_cons (pe_op op_pow (pe_op op_add (pe_op op_add (pe_op op_mul (pv 6) (pe_op op_add (pe_op op_mul pe_int (pv 3)) pe_int)) (pe_op op_mul (pe_op op_mul pe_int (pv 3)) (pv 3))) pe_int) pe_int) pa_nil)) pe_int))
        (pss_one (ps_ret (pe_op op_modN (pe_callTy call_int1 (by rfl) T.int (by decide +kernel) (pa_cons (pe_op op_fdivN (pv 6) pe_int) pa_nil)) (pv 1)))))))))))), ?_⟩
    have r := fmod_range (a := g) m0
    refine ⟨_, rfl, p, _, 2, _, rfl, rfl, SqL.of h1, rfl, _, _, rfl, rfl, _, rfl, ?_⟩
    refine ite2 (fun _ => ?_) (fun _ => ?_)
    · refine ⟨_, rfl, p, _, 2, _, rfl, rfl, SqL.of h1, rfl, .inl ⟨_, rfl, _, rfl, _, _, rfl, rfl, by omega, ?_⟩⟩
      refine ⟨_, rfl, p, _, 2, _, rfl, rfl, SqL.of h1, rfl, .inl ⟨_, rfl, _, rfl, _, _, rfl, rfl, ⟨by omega, by omega⟩, ?_⟩⟩
      refine ⟨_, rfl, p, _, 2, 2, rfl, rfl, h1, rfl, ?_⟩
      exact ⟨_, rfl, k _ _ keep_upd ((Kone.Pen.set2 h2 h3 h4 h5).mono (Nat.le_succ _)) r.1 r.2⟩
    · -- at, the next index
      refine ⟨_, rfl, p, _, 1, _, rfl, rfl, SqL.of h1, rfl, ?_⟩
      refine ⟨_, rfl, _, _, rfl, rfl, _, rfl, p, _, 1, 1, rfl, rfl, h1, rfl, ?_⟩
      refine ⟨_, rfl, _, _, rfl, rfl, .inl ⟨by decide, by decide⟩, _, _, rfl, rfl, ?_⟩
      -- pen[0] != []
      generalize hH1 : upd H p (HO.lst ([V.ref c, V.int a, V.int g].set 1 ((fun i j => V.int (i + j)) a 1))) = H1
      have q1 : H1 p = some (.lst [.ref c, .int (a + 1), .int g]) := by subst hH1; exact upd_same
      have q2 : H1 c = some (.lst (cs.map V.int)) := by subst hH1; rw [upd_ne h3]; exact h2
      have kp1 : Keep p H H1 := by subst hH1; exact keep_upd
      refine ⟨_, rfl, p, _, 0, _, rfl, rfl, SqL.of q1, rfl, Nat.zero_le _, fun l hl => ?_⟩
      have s2 : Same H1 (upd H1 l (.lst [])) := same_new hl
      have q3 : upd H1 l (.lst []) l = some (.lst []) := upd_same
      generalize upd H1 l (.lst []) = H2 at s2 q3
      have q1' := s2 _ _ q1
      have q2' := s2 _ _ q2
      have kp2 : Keep p H H2 := kp1.trans (Kone.Keep.of s2)
      refine ⟨.list (cs.map PyData.int), .list [], .lst (SqL.of q2') (dp_ints cs), .lst (SqL.of q3) .nil, ?_, rfl, _, rfl, ?_⟩
      · exact PySem.W.ke_shaped_ints cs
      have hb2 : (a : Int) < 200000 := by omega
      have nn1 : n + 1 = n + 1 := rfl
      have pen2 : ∀ (H3 : Hp) (g' : Int), H3 = upd H2 p (.lst [.ref c, .int (a + 1), .int g']) → Pen H3 p c (n + 1) := fun H3 g' e =>
        ⟨cs, a + 1, g', by rw [e]; exact upd_same, by rw [e, upd_ne h3]; exact q2', h3, by omega, by omega⟩
      refine ite2 (fun hz => ?_) (fun _ => ?_)
      · have hc : 0 < cs.length := by
          cases cs with
          | nil => exact absurd hz (by decide)
          | cons x r => exact Nat.succ_pos _
        have rr := fmod_range (a := a) (m := (cs.length : Int)) (by omega)
        obtain ⟨v, hv, hm⟩ := at_nat (xs := cs.map V.int) (i := a.fmod (cs.length : Int)) rr.1 (by rw [List.length_map]; exact rr.2)
        obtain ⟨z, _, rfl⟩ := List.mem_map.mp hm
        refine ⟨_, rfl, p, _, 0, _, rfl, rfl, SqL.of q1', rfl, _, rfl, .inl ⟨_, rfl, ?_⟩⟩
        refine ⟨_, rfl, p, _, 0, _, rfl, rfl, SqL.of q1', rfl, c, _, rfl, .inl (SqL.of q2'), _, _, rfl, rfl, ?_, ?_⟩
        · show ((cs.map V.int).length : Int) ≠ 0
          rw [List.length_map]; omega
        refine ⟨c, _, _, _, rfl, rfl, SqL.of q2', (by rw [List.length_map]; exact hv), ?_⟩
        refine ⟨_, rfl, _, rfl, p, _, 0, _, rfl, rfl, SqL.of q1', rfl, c, _, rfl, .inl (SqL.of q2'), _, _, rfl, rfl, _, rfl, ?_⟩
        refine ite2 (fun _ => ?_) (fun _ => ?_)
        · refine ⟨_, rfl, _, rfl, _, _, rfl, rfl, ⟨by decide, by decide, by decide⟩, _, _, rfl, rfl, _, rfl, ?_⟩
          refine ite2 (fun _ => ?_) (fun _ => ?_)
          · refine ⟨_, rfl, _, rfl, _, _, rfl, rfl, ⟨by decide, by decide, by decide⟩, _, _, rfl, rfl, _, _, rfl, rfl, .inl ⟨by decide, by decide⟩, _, rfl, _, _, rfl, rfl, .inr ⟨_, rfl, _, _, rfl, rfl, ?_⟩⟩
            refine ⟨_, rfl, .inl ⟨_, rfl, _, rfl, _, _, rfl, rfl, ⟨by omega, by omega⟩, _, rfl, p, _, 2, 2, rfl, rfl, q1', rfl, ?_⟩⟩
            exact ⟨_, rfl, .inl ⟨_, rfl, _, rfl, _, _, rfl, rfl, by omega, k _ _ (kp2.trans keep_upd) (pen2 _ _ rfl) (fmod_range m0).1 (fmod_range m0).2⟩⟩
          · refine ⟨_, rfl, .inl ⟨_, rfl, _, _, rfl, rfl, nzA2, _, rfl, _, _, rfl, rfl, .inl ⟨by decide, by decide⟩, _, _, rfl, rfl, _, _, rfl, rfl, _, _, rfl, rfl, ⟨by decide, by decide, mix1 h4 hb2⟩, .inl ⟨_, rfl, _, _, rfl, rfl, nzB2, ?_⟩⟩⟩
            refine ⟨_, rfl, _, rfl, _, _, rfl, rfl, .inl ⟨by decide, by decide⟩, _, _, rfl, rfl, _, _, rfl, rfl, .inl ⟨Int.lt_of_lt_of_le (by decide) (fmod_range (by decide)).1, Int.lt_trans (fmod_range (by decide)).2 (by decide)⟩, _, rfl, _, _, rfl, rfl, .inl ⟨by decide, by decide⟩, _, rfl, _, _, rfl, rfl, .inl ⟨?_, ?_⟩, _, _, rfl, rfl, _, _, rfl, rfl, _, _, rfl, rfl, ⟨by decide, by decide, mix2 h4 hb2⟩, .inl ⟨_, rfl, _, _, rfl, rfl, nzA, ?_⟩⟩
            · show -(2 ^ 64) < 68985 * a; omega
            · show 68985 * a < 2 ^ 64; omega
            exact ⟨_, rfl, _, _, rfl, rfl, ⟨by decide, by decide⟩, .inl ⟨_, rfl, _, rfl, _, _, rfl, rfl, by omega, k _ _ kp2 ⟨cs, a + 1, g, q1', q2', h3, by omega, by omega⟩ (fmod_range m0).1 (fmod_range m0).2⟩⟩
        · refine ⟨_, rfl, .inl ⟨_, rfl, _, _, rfl, rfl, nzA2, _, rfl, _, _, rfl, rfl, .inl ⟨by decide, by decide⟩, _, _, rfl, rfl, _, _, rfl, rfl, _, _, rfl, rfl, ⟨by decide, by decide, mix1 h4 hb2⟩, .inl ⟨_, rfl, _, _, rfl, rfl, nzB2, ?_⟩⟩⟩
          refine ⟨_, rfl, _, rfl, _, _, rfl, rfl, .inl ⟨by decide, by decide⟩, _, _, rfl, rfl, _, _, rfl, rfl, .inl ⟨Int.lt_of_lt_of_le (by decide) (fmod_range (by decide)).1, Int.lt_trans (fmod_range (by decide)).2 (by decide)⟩, _, rfl, _, _, rfl, rfl, .inl ⟨by decide, by decide⟩, _, rfl, _, _, rfl, rfl, .inl ⟨?_, ?_⟩, _, _, rfl, rfl, _, _, rfl, rfl, _, _, rfl, rfl, ⟨by decide, by decide, mix2 h4 hb2⟩, .inl ⟨_, rfl, _, _, rfl, rfl, nzA, ?_⟩⟩
          · show -(2 ^ 64) < 68985 * a; omega
          · show 68985 * a < 2 ^ 64; omega
          exact ⟨_, rfl, _, _, rfl, rfl, ⟨by decide, by decide⟩, .inl ⟨_, rfl, _, rfl, _, _, rfl, rfl, by omega, k _ _ kp2 ⟨cs, a + 1, g, q1', q2', h3, by omega, by omega⟩ (fmod_range m0).1 (fmod_range m0).2⟩⟩
      · refine ⟨_, rfl, _, rfl, p, _, 0, _, rfl, rfl, SqL.of q1', rfl, c, _, rfl, .inl (SqL.of q2'), _, _, rfl, rfl, _, rfl, ?_⟩
        refine ite2 (fun _ => ?_) (fun _ => ?_)
        · refine ⟨_, rfl, _, rfl, _, _, rfl, rfl, ⟨by decide, by decide, by decide⟩, _, _, rfl, rfl, _, rfl, ?_⟩
          refine ite2 (fun _ => ?_) (fun _ => ?_)
          · refine ⟨_, rfl, _, rfl, _, _, rfl, rfl, ⟨by decide, by decide, by decide⟩, _, _, rfl, rfl, _, _, rfl, rfl, .inl ⟨by decide, by decide⟩, _, rfl, _, _, rfl, rfl, .inr ⟨_, rfl, _, _, rfl, rfl, ?_⟩⟩
            refine ⟨_, rfl, .inl ⟨_, rfl, _, rfl, _, _, rfl, rfl, ⟨by omega, by omega⟩, _, rfl, p, _, 2, 2, rfl, rfl, q1', rfl, ?_⟩⟩
            exact ⟨_, rfl, .inl ⟨_, rfl, _, rfl, _, _, rfl, rfl, by omega, k _ _ (kp2.trans keep_upd) (pen2 _ _ rfl) (fmod_range m0).1 (fmod_range m0).2⟩⟩
          · refine ⟨_, rfl, .inl ⟨_, rfl, _, _, rfl, rfl, nzA2, _, rfl, _, _, rfl, rfl, .inl ⟨by decide, by decide⟩, _, _, rfl, rfl, _, _, rfl, rfl, _, _, rfl, rfl, ⟨by decide, by decide, mix1 h4 hb2⟩, .inl ⟨_, rfl, _, _, rfl, rfl, nzB2, ?_⟩⟩⟩
            refine ⟨_, rfl, _, rfl, _, _, rfl, rfl, .inl ⟨by decide, by decide⟩, _, _, rfl, rfl, _, _, rfl, rfl, .inl ⟨Int.lt_of_lt_of_le (by decide) (fmod_range (by decide)).1, Int.lt_trans (fmod_range (by decide)).2 (by decide)⟩, _, rfl, _, _, rfl, rfl, .inl ⟨by decide, by decide⟩, _, rfl, _, _, rfl, rfl, .inl ⟨?_, ?_⟩, _, _, rfl, rfl, _, _, rfl, rfl, _, _, rfl, rfl, ⟨by decide, by decide, mix2 h4 hb2⟩, .inl ⟨_, rfl, _, _, rfl, rfl, nzA, ?_⟩⟩
            · show -(2 ^ 64) < 68985 * a; omega
            · show 68985 * a < 2 ^ 64; omega
            exact ⟨_, rfl, _, _, rfl, rfl, ⟨by decide, by decide⟩, .inl ⟨_, rfl, _, rfl, _, _, rfl, rfl, by omega, k _ _ kp2 ⟨cs, a + 1, g, q1', q2', h3, by omega, by omega⟩ (fmod_range m0).1 (fmod_range m0).2⟩⟩
        · refine ⟨_, rfl, .inl ⟨_, rfl, _, _, rfl, rfl, nzA2, _, rfl, _, _, rfl, rfl, .inl ⟨by decide, by decide⟩, _, _, rfl, rfl, _, _, rfl, rfl, _, _, rfl, rfl, ⟨by decide, by decide, mix1 h4 hb2⟩, .inl ⟨_, rfl, _, _, rfl, rfl, nzB2, ?_⟩⟩⟩
          refine ⟨_, rfl, _, rfl, _, _, rfl, rfl, .inl ⟨by decide, by decide⟩, _, _, rfl, rfl, _, _, rfl, rfl, .inl ⟨Int.lt_of_lt_of_le (by decide) (fmod_range (by decide)).1, Int.lt_trans (fmod_range (by decide)).2 (by decide)⟩, _, rfl, _, _, rfl, rfl, .inl ⟨by decide, by decide⟩, _, rfl, _, _, rfl, rfl, .inl ⟨?_, ?_⟩, _, _, rfl, rfl, _, _, rfl, rfl, _, _, rfl, rfl, ⟨by decide, by decide, mix2 h4 hb2⟩, .inl ⟨_, rfl, _, _, rfl, rfl, nzA, ?_⟩⟩
          · show -(2 ^ 64) < 68985 * a; omega
          · show 68985 * a < 2 ^ 64; omega
          exact ⟨_, rfl, _, _, rfl, rfl, ⟨by decide, by decide⟩, .inl ⟨_, rfl, _, rfl, _, _, rfl, rfl, by omega, k _ _ kp2 ⟨cs, a + 1, g, q1', q2', h3, by omega, by omega⟩ (fmod_range m0).1 (fmod_range m0).2⟩⟩
theorem scPick : FnScope ["_law_pen_here", "_law_some"] ["_law_pen_here", "_law_some"] (defScope sPick) := ⟨rfl, rfl, rfl, by decide +kernel, rfl, by decide +kernel, by decide +kernel⟩
theorem ok_pick {f fD : Addr} {fd fdD : FuncData} (F : Fun K "_law_pick" "_law_pick" sPick f fd) (T : TxtD mg fD) (U : Def K mg "_law_draw" sDraw ["_law_pen_here", "_law_many"] fD fdD) : FnOk P w K mg base CX0 2 f fd ["_law_pen_here", "_law_some"] spPick := by
  have GD : FnOk P w K mg base CX0 1 fD fdD ["_law_pen_here", "_law_many"] spDraw := ok_draw (fD := fD) U.F T
  refine F.ok scPick (fun vs H Q E h => ?_) (fun cdv A outer s H vs Q E hr h => ?_)
  · obtain ⟨p, c, l, n, xs, rfl, _⟩ := h
    rfl
  · obtain ⟨p, c, l, n, xs, rfl, hp, hn, hl, lp, x0, x1, k⟩ := h
    refine ⟨_, (pss_one (ps_ret (pe_ix ix_list (pv 1) (pe_call GD hr rfl U.g U.k U.b .nil pass0 (pa_cons (pv 0) (pa_cons (pe_callB call_len_seq (by rfl) T.len PySem.boot_len (pa_cons (pv 1) pa_nil)) pa_nil))) (fun _ _ => rfl)))), ?_⟩
    refine ⟨_, rfl, _, rfl, _, rfl, l, xs, rfl, .inl (SqL.of hl), p, c, _, n, rfl, hp, hn, by omega, by omega, fun H' d kp hp' d0 d1 => ?_⟩
    obtain ⟨v, hv, hm⟩ := at_nat (xs := xs) (i := d) d0 d1
    exact ⟨l, xs, d, v, rfl, rfl, SqL.of (kp l _ lp hl), hv, k H' v kp hp' hm⟩
end
end Kpa
namespace Kpa
open PySem L2 Gd
open Kone (Pen Keep spPen spDraw spPick TxtD same_new)
section
/-- nothing is raised -/
def EN : L2.St → XK := fun _ _ _ _ => False
theorem passN {X : Cx} (σ : L2.St) : PassesAt (L2.CX X.prog X.w) X σ (EN σ) := fun pins H s e s' I c => by
  obtain ⟨a, B, H', cls, d, ea, fl, hok, un, na, os, ag, he⟩ := c
  exact False.elim he
end
section
variable {P : Program} {w : World} {K : PySem.W.Frag} {mg : Str → Option Value} {base : Heap} {fD : Addr}
def spPickS : Sp := fun vs H Q _ => ∃ (p c : Addr) (n : Nat) (x : Str), vs = [.ref p, .str x] ∧ Pen H p c n ∧ n ≤ 100000 ∧ 0 < x.length ∧ x.length < 1000 ∧ ∀ (H' : Hp) (z : Nat), Keep p H H' → Pen H' p c (n + 1) → z ∈ x.cps.toList → Q (.str (one z)) H'
theorem ok_pickS {f fD : Addr} {fd fdD : FuncData} (F : Fun K "_law_pick" "_law_pick" sPick f fd) (T : TxtD mg fD) (U : Def K mg "_law_draw" sDraw ["_law_pen_here", "_law_many"] fD fdD) : FnOk P w K mg base CX0 2 f fd ["_law_pen_here", "_law_some"] spPickS := by
  have GD : FnOk P w K mg base CX0 1 fD fdD ["_law_pen_here", "_law_many"] spDraw := ok_draw (fD := fD) U.F T
  refine F.ok scPick (fun vs H Q E h => ?_) (fun cdv A outer s H vs Q E hr h => ?_)
  · obtain ⟨p, c, n, x, rfl, _⟩ := h
    rfl
  · obtain ⟨p, c, n, x, rfl, hp, hn, x0, x1, k⟩ := h
    refine ⟨_, (pss_one (ps_ret (pe_item_str (pv 1) (pe_call GD hr rfl U.g U.k U.b .nil pass0 (pa_cons (pv 0) (pa_cons (pe_callB call_len_str (by rfl) T.len PySem.boot_len (pa_cons (pv 1) pa_nil)) pa_nil))) (fun _ _ => rfl)))), ?_⟩
    refine ⟨_, rfl, _, rfl, _, rfl, x, rfl, Nat.le_trans (Nat.le_of_lt x1) (by decide), p, c, _, n, rfl, hp, hn, by omega, by omega, fun H' d kp hp' d0 d1 => ?_⟩
    have hi : d.toNat < x.cps.size := by
      have : (x.cps.size : Int) = x.length := rfl
      omega
    refine ⟨x, d, x.cps[d.toNat], rfl, rfl, d0, by omega, d1, Array.getElem?_eq_getElem hi, k H' _ kp hp' ?_⟩
    exact Array.getElem_mem_toList hi
theorem scWord : FnScope ["_law_pen_here", "_law_signs", "_law_length", "_law_turn"] ["_law_pen_here", "_law_signs", "_law_length"] (defScope sWord) := ⟨rfl, rfl, rfl, by decide +kernel, rfl, by decide +kernel, by decide +kernel⟩
def spWord : Sp := fun vs H Q _ => ∃ (p c : Addr) (m n : Nat) (sg : Str) (b : Int), vs = [.ref p, .str sg, .int m] ∧ Pen H p c n ∧ n + m ≤ 100000 ∧ m ≤ 100 ∧ 0 < sg.length ∧ sg.length < 1000 ∧ (∀ z, z ∈ sg.cps.toList → chk b z = true) ∧
  ∀ (H' : Hp) (x : Str), Keep p H H' → Pen H' p c (n + m) → x.length = m → isWd b (.str x) = true → Q (.str x) H'
theorem ok_word {f fP fD : Addr} {fd fdP fdD : FuncData} (F : Fun K "_law_word" "_law_word" sWord f fd) (T : Txw mg) (TD : TxtD mg fD) (UP : Def K mg "_law_pick" sPick ["_law_pen_here", "_law_some"] fP fdP) (U : Def K mg "_law_draw" sDraw ["_law_pen_here", "_law_many"] fD fdD) : FnOk P w K mg base CX0 3 f fd ["_law_pen_here", "_law_signs", "_law_length"] spWord := by
  have GP : FnOk P w K mg base CX0 2 fP fdP ["_law_pen_here", "_law_some"] spPickS := ok_pickS UP.F TD U
  refine F.ok scWord (fun vs H Q E h => ?_) (fun cdv A outer s H vs Q E hr h => ?_)
  · obtain ⟨p, c, m, n, sg, b, rfl, _⟩ := h
    rfl
  · obtain ⟨p, c, m, n, sg, b, rfl, hp, hn, hm, g0, g1, gc, k⟩ := h
    refine ⟨_, pss_one (ps_ret (pe_join pe_str (pe_lc (own := [("_law_turn", 3)]) (g := gName 3) (tt := tYes) (te := _) rfl scWord.nd (pi_range1 rfl T.range (pa_cons (pv 2) pa_nil)) (blkOk_by (N := ["_law_pen_here", "_law_signs", "_law_length", "_law_turn"]) (sc := defScope sWord) (by decide +kernel)) (fun _ _ _ _ _ => pg_name (i := 3) scWord.nd rfl (Or.inl rfl)) (fun _ _ _ _ _ => pts_nil)
        (fun _ _ _ _ _ => pe_call GP hr rfl UP.g UP.k UP.b .nil pass0 (pa_cons (pv 0) (pa_cons (pv 1) pa_nil)))))), ?_⟩
    refine ⟨⟨_, rfl⟩, _, rfl, (m : Int), rfl, by omega, by omega, fun D hD => lc_range (n := m) (fun i G => ∃ cs : List Nat, cs.length = i ∧ (∀ z, z ∈ cs → chk b z = true) ∧ G D = some (.lst (cs.map fun z => .str (one z))) ∧ Keep p H G ∧ Pen G p c (n + i)) ?_ ?_ ?_⟩
    · exact ⟨[], rfl, (fun d h => nomatch h), upd_same, Kone.Keep.of (same_new hD), hp.keep (same_new hD)⟩
    · rintro i G hi ⟨cs, hl, hcs, hDl, kp, pen⟩
      have nD : D ≠ p := by
        obtain ⟨_, _, _, e, _⟩ := hp
        intro z
        rw [← z, hD] at e
        cases e
      refine ⟨rfl, _, rfl, _, rfl, p, c, n + i, sg, rfl, pen, by omega, g0, g1, fun G2 z kp2 pen2 hz => ?_⟩
      have hD2 := kp2 D _ nD hDl
      refine ⟨_, hD2, ?_, cs ++ [z], ?_, ?_, ?_, ?_, ?_⟩
      · rw [List.length_map, hl]
        have : (101 : Nat) < sizeLine := by decide
        omega
      · rw [List.length_append, hl]
        rfl
      · intro d h
        rcases List.mem_append.mp h with h | h
        · exact hcs d h
        · cases List.mem_singleton.mp h
          exact gc _ hz
      · rw [upd_same, List.map_append]
        rfl
      · intro b1 o n1 e1
        rw [upd_ne (ne_of_none e1 hD)]
        exact kp2 b1 o n1 (kp b1 o n1 e1)
      · obtain ⟨cs, a, g, q1, q2, q3, q4, q5⟩ := pen2
        obtain ⟨cs0, a0, g0, p1, p2, _⟩ := hp
        refine ⟨cs, a, g, ?_, ?_, q3, q4, by omega⟩
        · rw [upd_ne nD.symm]
          exact q1
        · rw [upd_ne (ne_of_none p2 hD)]
          exact q2
    · rintro G ⟨cs, hl, hcs, hDl, kp, pen⟩
      refine ⟨Str.empty, D, cs.map one, rfl, rfl, .inl (SqL.of ?_), ?_, ?_⟩
      · rw [hDl, List.map_map]
        rfl
      · rw [sum_one, hl]
        show m + _ * 0 ≤ _
        omega
      · rw [join_one]
        refine k _ ⟨cs.toArray⟩ kp pen (by show cs.toArray.size = m; rw [List.size_toArray, hl]) ?_
        show (decide (cs.toArray.size ≤ 100) && cs.toArray.toList.all (chk b)) = true
        rw [List.size_toArray, hl, decide_eq_true hm, Bool.true_and, List.all_eq_true]
        exact hcs
end
end Kpa
namespace Kpa
open PySem L2 Gd
theorem scHeard : FnScope ["_law_ask", "_law_caught", "_law_found", "error", "_law_some"] ["_law_ask"] (defScope sHeard) := ⟨rfl, rfl, rfl, by decide +kernel, rfl, by decide +kernel, by decide +kernel⟩
/-- the errors that the law hears -/
structure Her (K : PySem.W.Frag) (mg : Str → Option Value) (S CW : Addr) : Prop where
  s : mg "SumError" = some (.ref S)
  cW : Kone.XC K mg S "BadWord" CW
  fW_value : PySem.W.findIn K (.ref CW) "value" = some none
  sW : CW ≠ S
  isi : mg "isinstance" = none
  ve : mg "ValueError" = none
  rp : mg "repr" = none
  len : mg "len" = none
/-- v is shown as D is -/
def Sh (H : Hp) (v : V) (D : PyData) : Prop := Dq H 2 false v D ∧ D.showable = true ∧ D.shown.length ≤ sizeLine ∧ D.depth ≤ 60 ∧ nice D = true
theorem Sh.same {H H' : Hp} {v : V} {D : PyData} (h : Sh H v D) (s : Same H H') : Sh H' v D := ⟨h.1.same s, h.2⟩
/-- which error it is, and what is told of it -/
def Kinds (CW C : Addr) (fs : List (Str × V)) (H : Hp) (out : List V) : Prop :=
  (C = CW ∧ ∃ v D, fs = ([("value", v)] : List (Str × V)) ∧ Sh H v D ∧ out = [.str "word", .str D.shown])
/-- what is heard of an error -/
def Hears (K : PySem.W.Frag) (S CW : Addr) (Q : VK) : XK := fun cls d H => ∃ (C e : Addr) (fs : List (Str × V)) (out : List V), cls = .ref C ∧ d = some e ∧ H e = some (.xd fs) ∧ Kinds CW C fs H out ∧ PySem.W.exmOne K cls (.ref S) = some true ∧
  ∀ (t : Addr) (H1 : Hp), Same H H1 → H t = none → H1 t = some (.tup out) → Q (.ref t) H1
def THeard (K : PySem.W.Frag) (S CW : Addr) : (XK → Hp → VK → Prop) → Hp → VK → Prop := fun tl H Q =>
  ∀ (H0 : Hp) (Z : VK), Same H H0 → (∀ v H1, (∀ l, H1 l = none → Q (.ref l) (upd H1 l (.lst [v]))) → Z v H1) → tl (Hears K S CW Q) H0 Z
section
variable {X : Cx} {S CW : Addr}
theorem heard_gives {q : Str} {g : Addr} {cdg : Value} (hG : X.A.guards = some []) (hu : (X.A.deeper (PyProof.Rows.envOfC "_law_heard" (defScope sHeard) 0 g cdg)).units + 64 < cLine) (T : Her X.K X.mg S CW) :
    LamX.GivesTo X ["_law_ask", "_law_caught", "_law_found", "error", "_law_some"] "_law_heard" (defScope sHeard) g cdg (defBody sHeard) "_law_ask" q (THeard X.K S CW) := by
  intro f c' s H Q tl act hc want
  refine ⟨_, pss_cons (ps_asg (pe_tup (pa_cons pe_non (pa_cons pe_non pa_nil))) (pg_tup (by rfl) (pgs_cons (pg_name (i := 1) scHeard.nd rfl (Or.inl rfl)) (pgs_cons (pg_name (i := 2) scHeard.nd rfl (Or.inl rfl)) pgs_nil))))
    (pss_cons (ps_keep (i := 3) (c := .ref S) (tb := fun W D σ H => ∃ Ech : XK, (∀ cls d σ' H', Ech cls d H' → W cls d σ' H') ∧ σ[0]? = some (some (.ref f)) ∧ H c' = some (LamX.CodeO c' q) ∧ tl Ech H fun v H1 => D.nx (σ.set 2 (some v)) H1)
        rfl rfl rfl scHeard.nd rfl rfl ⟨rfl, by decide, .inl T.s⟩ (fun W pn xe tk _ => ?_) (fun a oe cls d pn _ _ => pss_one (ps_set (i := 1) scHeard.nd rfl (Or.inl rfl) (pv 3))))
    (pss_cons (ps_if (pt_cmpR op_isN (pv 1) pe_non (nomark _)) (pss_one (ps_ret (pe_lst (pa_cons (pv 2) pa_nil)))) pss_nil)
    (pss_cons (ps_set (i := 4) scHeard.nd rfl (Or.inl rfl) (pe_lst pa_nil))
    (pss_cons (ps_if (pt_val (pe_callB call_isV (by rfl) T.isi PyProof.Rows.boot_isinstance (pa_cons (pv 1) (pa_cons (pe_glob (v := .ref CW) rfl T.cW.g rfl) pa_nil)))) (pss_one (ps_expr (pe_bm PySem.F.plainAttrs_list PySem.F.slot_list_append PySem.F.type_list_append mt_append (pv 4) (pa_cons (pe_tup (pa_cons pe_str (pa_cons (pe_callB (call_repr ?g1 ?u1) (by rfl) T.rp (by decide +kernel) (pa_cons (pe_vf (pv 1)) pa_nil)) pa_nil))) pa_nil)))) pss_nil)
    (pss_one (ps_ret (pe_ifExp (PW.pt (pw_and (pt_cmpR op_eq (pe_callB call_len_seq (by rfl) T.len PySem.boot_len (pa_cons (pv 4) pa_nil)) pe_int (nomark _)) (pw_and1 (pt_val (pe_callB call_isV (by rfl) T.isi PyProof.Rows.boot_isinstance (pa_cons (pv 1) (pa_cons (pe_bltn (v := .ty "ValueError") rfl T.ve rfl rfl) pa_nil)))))))
      (pe_ix ix_list (pv 4) pe_int (fun _ _ => rfl)) (pe_tup (pa_cons pe_str pa_nil))))))))), ?_⟩
  case g1 => exact hG
  case u1 => exact hu
  · constructor
    intro pins s1 σ H1 D I h
    obtain ⟨Ech, hW, h1, h2, h3⟩ := h
    exact (pss_one (ps_set (i := 2) scHeard.nd rfl (Or.inl rfl) (act W pn xe Ech _ _ tk hW))).run pins s1 σ H1 D I ⟨h1, h2, h3⟩
  · refine ⟨by show 2 ≤ sizeLine; decide, fun p hp => ⟨p, _, rfl, SqT.of upd_same, rfl, ?_⟩⟩
    have sm : Same H (upd H p (.tup [.non, .non])) := Kone.same_new hp
    refine ⟨_, _, rfl, _, _, rfl, rfl, Hears X.K S CW Q, ?_, rfl, sm _ _ hc, ?_⟩
    · rintro cls d σ1 H1 ⟨C, e, fs, out, rfl, rfl, he, ht, hm, k⟩ hlen
      refine ⟨hm, fun a ha => ?_⟩
      obtain ⟨a0, a1, a2, a3, a4, rfl⟩ : ∃ a0 a1 a2 a3 a4, σ1 = [a0, a1, a2, a3, a4] := by
        match σ1, hlen with
        | [a0, a1, a2, a3, a4], _ => exact ⟨a0, a1, a2, a3, a4, rfl⟩
      refine ⟨_, rfl, fun _ => ?_⟩
      have nB : a ≠ e := fun y => by rw [← y, ha] at he; cases he
      have hc1 : CAt (upd H1 a (exv a (.ref C) (some e))) a C fs := ⟨e, upd_same, by rw [upd_ne nB.symm]; exact he⟩
      have s1 : Same H1 (upd H1 a (exv a (.ref C) (some e))) := Kone.same_new ha
      generalize upd H1 a (exv a (.ref C) (some e)) = H2 at hc1 s1
      refine ⟨_, rfl, rfl, _, rfl, ?_⟩
      rw [decide_eq_false (show ¬ (V.ref a = V.non) from fun z => by cases z)]
      refine iteF ?_
      refine ⟨Nat.zero_le _, fun l hl => ?_⟩
      have s3 : Same H2 (upd H2 l (.lst [])) := Kone.same_new hl
      have hl3 : upd H2 l (.lst []) l = some (.lst []) := upd_same
      generalize upd H2 l (.lst []) = H3 at s3 hl3
      rcases ht with ⟨hC, v, D, rfl, hD, rfl⟩
      · have hC2 := hC.symm
        subst hC2
        have kv : PySem.W.kitOne X.K (.ref CW) (.type "ValueError") = some true := by rw [Kone.kit_type T.cW "ValueError" (by decide +kernel)]; decide +kernel
        have c3 := hc1.same s3
        refine ⟨_, rfl, a, CW, _, .ref CW, _, true, rfl, c3, .own _, T.cW.e, (Kone.kit_own T.cW T.cW T.sW).trans (congrArg some (decide_eq_true rfl)), _, rfl, ?_⟩
        refine iteT ?_
        refine ⟨_, rfl, .inl ⟨rfl, _, SqL.of hl3⟩, _, rfl, a, CW, _, v, rfl, c3, T.cW.e, T.fW_value, rfl, 2, v, D, rfl, (hD.1.same s1).same s3, .inl hD.2.2.2.2, hD.2.1, hD.2.2.1, hD.2.2.2.1, by show 2 ≤ sizeLine; decide, fun t ht => ⟨l, [], _, rfl, rfl, ?_, by show 0 < sizeLine; decide, ?_⟩⟩
        · rw [upd_ne (ne_of_none hl3 ht)]; exact hl3
        have nt : t ≠ l := (ne_of_none hl3 ht).symm
        have t1 : H1 t = none := (s1.trans s3).free ht
        have e4 : upd (upd H3 t (.tup [.str "word", .str D.shown])) l (.lst ([] ++ [.ref t])) l = some (.lst [.ref t]) := upd_same
        have e5 : upd (upd H3 t (.tup [.str "word", .str D.shown])) l (.lst ([] ++ [.ref t])) t = some (.tup [.str "word", .str D.shown]) := by rw [upd_ne nt, upd_same]
        have s4 : Same H2 (upd (upd H3 t (.tup [.str "word", .str D.shown])) l (.lst ([] ++ [.ref t]))) := fun b o z => by rw [upd_ne (ne_of_none z hl), upd_ne (ne_of_none (s3 _ _ z) ht)]; exact s3 _ _ z
        generalize upd (upd H3 t (.tup [.str "word", .str D.shown])) l (.lst ([] ++ [.ref t])) = H4 at e4 e5 s4
        replace c3 := hc1.same s4
        refine ⟨_, rfl, l, _, rfl, .inl (SqL.of e4), rfl, _, rfl, ?_⟩
        refine iteT ?_
        refine ⟨_, rfl, a, CW, _, .ty "ValueError", _, true, rfl, c3, .ty _, T.cW.e, kv, _, rfl, ?_⟩
        refine iteT ?_
        exact ⟨_, rfl, l, _, 0, _, rfl, rfl, SqL.of e4, rfl, k t _ (s1.trans s4) t1 e5⟩
    · refine want _ _ sm fun v H1 hq => ?_
      refine ⟨_, rfl, rfl, _, rfl, ?_⟩
      rw [decide_eq_true rfl]
      refine iteT ?_
      exact ⟨_, rfl, by show 1 ≤ sizeLine; decide, hq⟩
end
end Kpa
namespace Kpa
open PySem L2 Gd
open Kone (Pen Keep spPen spDraw spPick TxtD same_new)
/-! ### a call by names alone -/
section
variable {X : Cx} {CX : CXT} {k : Nat} {f : Addr} {fd : FuncData} {ps ks : List Str} {sp : Sp} {E : XK} {x : Str} {p pos : Pos} {tk : TA} {g : List Value → List Value → List Value} {gV : List V → List V → List V} {kws : List Keyword}
theorem pe_callK0 (F : FnOk X.prog X.w X.K X.mg X.base CX k f fd ps sp) (hr : Room k X.A) (hg : Gl X x) (hm : X.mg x = some (.ref f)) (hk : PySem.W.keepIn X.K (.ref f) = true) (hb : KBinds X.K fd ps ks g gV) (hx : Passes CX X E)
    (hkw : PK X kws tk) (hall : (backToKw pos (keywordEach kws X.env)).all (·.1.isSome) = true := by rfl) (hks : (backToKw pos (keywordEach kws X.env)).filterMap (·.1) = ks := by rfl)
    (hdb : (x == ("__debug__" : Str)) = false := by decide)
    (hpl : ((backTo pos (starEach [] X.env)).any (·.1) || (backToKw pos (keywordEach kws X.env)).any (·.1.isNone)) = false := by rfl) :
    PE X (.Call (.Name x p) [] kws pos) (tCallK sp gV E tNil tk) := by
  refine ⟨fun pins s σ H Q I h => ?_⟩
  refine wpAny_Call_Name_kw (ld_glob I hg hm ?_ hdb)
  refine PySem.W.callWith_KW0 (h₀ := X.base) I.ok.mod.kin hk hall ?_ hpl
  refine thn (hkw.run pos pins s σ H _ I h) fun ws s2 ⟨zs, H2, I2, rz, q2⟩ => ⟨I2.kIn, ?_⟩
  rw [hks]
  exact run_fnk F hr hb hx I2 .nil rz q2
theorem passNx {X : Cx} : Passes (L2.CX X.prog X.w) X (fun _ _ _ => False) := fun pins σ H s e s' I c => by
  obtain ⟨a, B, H', cls, d, ea, fl, hok, un, na, os, ag, he⟩ := c
  exact False.elim he
end
def gSw {α : Type} (us ws : List α) : List α := match us, ws with
  | [], [u, l] => [l, u]
  | _, _ => []
theorem lay_strs : ∀ ws : List Str, (∀ x, x ∈ ws → PyData.strOk x = true) → PyData.canLayAll0 (ws.map PyData.str) = true
  | [], _ => rfl
  | x :: r, h => by
    have h1 := h x (List.mem_cons_self ..)
    have h2 := lay_strs r fun y hy => h y (List.mem_cons_of_mem _ hy)
    simp [PyData.canLayAll0, PyData.canLay0, h1, h2]
theorem dep_strs : ∀ ws : List Str, PyData.depthAll (ws.map PyData.str) = 0
  | [] => rfl
  | _ :: r => by simp [PyData.depthAll, PyData.depth, dep_strs r]
theorem sht_strs (ws : List Str) (h : ∀ x, x ∈ ws → PyData.strOk x = true) : SeqAt.shaped (.tuple (ws.map PyData.str)) = true := by
  simp [SeqAt.shaped, PyData.canLay0, PyData.depth, lay_strs ws h, dep_strs]
theorem eqvAll_strs : ∀ ws : List Str, PyData.eqvAll (ws.map PyData.str) (ws.map PyData.str) = true
  | [] => rfl
  | x :: r => by
    show (x == x && PyData.eqvAll _ _) = true
    rw [beq_self_eq_true, eqvAll_strs r]
    rfl
theorem eqvt_strs (ws : List Str) : (PyData.tuple (ws.map PyData.str)).eqv (.tuple (ws.map PyData.str)) = true := eqvAll_strs ws
theorem dp_strs {K : PySem.W.Frag} {H : Hp} : ∀ ws : List Str, DpAll K H (ws.map V.str) (ws.map PyData.str)
  | [] => .nil
  | x :: r => .cons (.str x) (dp_strs r)

theorem so_dig {b : Int} (b2 : 2 ≤ b) (b4 : b ≤ 4) {x : Str} (h : isWd b (.str x) = true) : ∀ c ∈ x.cps.toList, 48 ≤ c ∧ c < 52 := fun c hc => by
  have := (wd_dig b2 b4 h).2 c hc
  omega
/-! ### numbers and words -/
theorem pc_two {a b : Nat} (ha : 48 ≤ a ∧ a < 50) (hb : 48 ≤ b ∧ b < 50) : hiC (pc a b) = a ∧ loC (pc a b) = b ∧ 48 ≤ pc a b ∧ pc a b < 52 := by
  unfold hiC loC pc
  refine ⟨?_, ?_, ?_, ?_⟩ <;> omega
theorem zip_hi : ∀ {xs ys : List Nat}, ys.length = xs.length → (∀ c ∈ xs, 48 ≤ c ∧ c < 50) → (∀ c ∈ ys, 48 ≤ c ∧ c < 50) → (List.zipWith pc xs ys).map hiC = xs
  | [], [], _, _, _ => rfl
  | a :: xs, b :: ys, h, ha, hb => by
    rw [List.zipWith_cons_cons, List.map_cons, zip_hi (Nat.succ.inj h) (fun c hc => ha c (List.mem_cons_of_mem _ hc)) (fun c hc => hb c (List.mem_cons_of_mem _ hc)), (pc_two (ha a (List.mem_cons_self ..)) (hb b (List.mem_cons_self ..))).1]
theorem zip_lo : ∀ {xs ys : List Nat}, ys.length = xs.length → (∀ c ∈ xs, 48 ≤ c ∧ c < 50) → (∀ c ∈ ys, 48 ≤ c ∧ c < 50) → (List.zipWith pc xs ys).map loC = ys
  | [], [], _, _, _ => rfl
  | a :: xs, b :: ys, h, ha, hb => by
    rw [List.zipWith_cons_cons, List.map_cons, zip_lo (Nat.succ.inj h) (fun c hc => ha c (List.mem_cons_of_mem _ hc)) (fun c hc => hb c (List.mem_cons_of_mem _ hc)), (pc_two (ha a (List.mem_cons_self ..)) (hb b (List.mem_cons_self ..))).2.1]
theorem zip_mem : ∀ {xs ys : List Nat}, (∀ c ∈ xs, 48 ≤ c ∧ c < 50) → (∀ c ∈ ys, 48 ≤ c ∧ c < 50) → ∀ c ∈ List.zipWith pc xs ys, 48 ≤ c ∧ c < 52
  | [], _, _, _, c, hc => by simp at hc
  | _ :: _, [], _, _, c, hc => by simp at hc
  | a :: xs, b :: ys, ha, hb, c, hc => by
    rw [List.zipWith_cons_cons] at hc
    rcases List.mem_cons.mp hc with e | e
    · rw [e]
      exact (pc_two (ha a (List.mem_cons_self ..)) (hb b (List.mem_cons_self ..))).2.2
    · exact zip_mem (fun c hc => ha c (List.mem_cons_of_mem _ hc)) (fun c hc => hb c (List.mem_cons_of_mem _ hc)) c e
theorem chk_of {c : Nat} (h : 48 ≤ c ∧ c < 52) : chk 4 c = true := by
  have : c = 48 ∨ c = 49 ∨ c = 50 ∨ c = 51 := by omega
  rcases this with rfl | rfl | rfl | rfl <;> decide +kernel
theorem two_dig {x : Str} (h : isWd 2 (.str x) = true) : ∀ c ∈ x.cps.toList, 48 ≤ c ∧ c < 50 := fun c hc => by
  have := (wd_dig (by decide) (by decide) h).2 c hc
  omega
section
variable {x y : Str} (hx : isWd 2 (.str x) = true) (hy : isWd 2 (.str y) = true) (el : y.cps.size = x.cps.size)
theorem str_of_list {x : Str} {l : List Nat} (h : l = x.cps.toList) : (⟨l.toArray⟩ : Str) = x := by
  subst h
  rfl
include hx hy el
theorem pair_hi : hiS (pairS x y) = x := str_of_list (zip_hi (by simpa using el) (two_dig hx) (two_dig hy))
theorem pair_lo : loS (pairS x y) = y := str_of_list (zip_lo (by simpa using el) (two_dig hx) (two_dig hy))
theorem pair_wd : isWd 4 (.str (pairS x y)) = true := by
  have h1 := (wd_dig (by decide) (by decide) hx).1
  show (decide ((pairS x y).cps.size ≤ 100) && (pairS x y).cps.toList.all (chk 4)) = true
  rw [Bool.and_eq_true, decide_eq_true_eq, List.all_eq_true]
  refine ⟨?_, fun c hc => chk_of (zip_mem (two_dig hx) (two_dig hy) c hc)⟩
  show (List.zipWith pc x.cps.toList y.cps.toList).toArray.size ≤ 100
  rw [List.size_toArray, List.length_zipWith, Array.length_toList, Array.length_toList]
  omega
end
theorem repr_small {x : Str} (h : x.cps.size ≤ 100) (hd : ∀ c ∈ x.cps.toList, 48 ≤ c ∧ c < 52) : (reprText x).length ≤ 1002 := by
  have := StrLaws.reprText_len x (fun c hc => Nat.lt_of_lt_of_le (hd c hc).2 (by decide))
  have hl : x.length ≤ 100 := h
  omega
/-- two words, shown -/
theorem two_shown {x y : Str} (hx : x.cps.size ≤ 100) (hy : y.cps.size ≤ 100) (dx : ∀ c ∈ x.cps.toList, 48 ≤ c ∧ c < 52) (dy : ∀ c ∈ y.cps.toList, 48 ≤ c ∧ c < 52) :
    (PyData.tuple [.str x, .str y]).showable = true ∧ (PyData.tuple [.str x, .str y]).shown.length ≤ sizeLine ∧ (PyData.tuple [.str x, .str y]).depth ≤ 60 := by
  refine ⟨by simp [PyData.showable, PyData.showableAll], ?_, by simp [PyData.depth, PyData.depthAll]⟩
  have e : (PyData.tuple [.str x, .str y]).shown = tupleText [reprText x, reprText y] := by simp [PyData.shown, PyData.shownAll]
  rw [e]
  have h1 := tupleText_len_le [reprText x, reprText y]
  have a1 := repr_small hx dx
  have a2 := repr_small hy dy
  have e2 : (([reprText x, reprText y] : List Str).map (·.length)).sum = (reprText x).length + (reprText y).length := by simp
  rw [e2] at h1
  refine Nat.le_trans h1 (Nat.le_trans ?_ (show 3000 ≤ sizeLine by decide))
  show (reprText x).length + (reprText y).length + 2 * 2 + 3 ≤ 3000
  omega
end Kpa
namespace Kpa
open PySem L2 Gd
open Kone (Pen Keep spPen spDraw spPick TxtD same_new)
theorem gset {i : Nat} {x : V} {σ σ2 : L2.St} {H : Hp} {K : L2.St → Hp → Prop} (e : σ.set i (some x) = σ2) (h : K σ2 H) : gName i x σ H K := by
  show K (σ.set i (some x)) H
  rw [e]
  exact h
theorem cset {i : Nat} {v : V} {B : TS} {E : L2.Ends} {σ σ2 : L2.St} {H : Hp} (e : σ.set i (some v) = σ2) (h : B E σ2 H) : tSeq (tAsg (tC v) (gName i)) B E σ H := by
  show B E (σ.set i (some v)) H
  rw [e]
  exact h
def gOne {α : Type} (us ws : List α) : List α := match us, ws with
  | [], [u] => [u]
  | _, _ => []
/-- what the law leans on -/
structure Lp (P : Program) (w : World) (K : PySem.W.Frag) (mg : Str → Option Value) (base : Heap) (S CB CW fI fB fH fKB fIW fNO fPW fPt aB fD fP fWo : Addr) (dI dB dH dKB dIW dNO dPW dPt dD dP dWo : FuncData) : Prop where
  d : Wds P w K mg base S CB CW fI fB fH fKB fIW fNO dI dB dH dKB dIW dNO
  b : Bts K w mg aB
  pw : Def K mg "pair_word" sPair ["one", "other"] fPW dPW
  pwk : KBinds K dPW ["one", "other"] ["other", "one"] gSw gSw
  pt : Def K mg "parted" sParted ["word"] fPt dPt
  ptk : KBinds K dPt ["word"] ["word"] gOne gOne
  rp : mg "repr" = none
  t : TxtD mg fD
  dr : Def K mg "_law_draw" sDraw ["_law_pen_here", "_law_many"] fD dD
  p : Def K mg "_law_pick" sPick ["_law_pen_here", "_law_some"] fP dP
  wo : Def K mg "_law_word" sWord ["_law_pen_here", "_law_signs", "_law_length"] fWo dWo
abbrev NRi : List Str := ["_law_one", "_law_other", "_law_found", "_law_due", "_law_first", "_law_second", "_law_total"]
theorem scRight : FnScope NRi ["_law_one", "_law_other"] (defScope sRight) := ⟨rfl, rfl, rfl, by decide +kernel, rfl, by decide +kernel, by decide +kernel⟩
def spRight : Sp := fun vs H Q _ => ∃ (x y : Str), vs = [.str x, .str y] ∧ isWd 2 (.str x) = true ∧ isWd 2 (.str y) = true ∧ y.cps.size = x.cps.size ∧ ∀ H', Same H H' → Q (.bl true) H'
theorem bootRepr : bootBuiltins "repr" = some (.builtin "repr") := by decide +kernel
theorem vl_str {K : PySem.W.Frag} {H : Hp} {x : Str} (h : x.length ≤ 1000) : Vl K H (.str x) := ⟨knd_str, fun z e => by cases e; exact h⟩
theorem due_tab {a b : Nat} (ha : 48 ≤ a ∧ a < 50) (hb : 48 ≤ b ∧ b < 50) : some (V.str (one (pc a b))) = valV ([(Sum.inr "00", .str "0"), (Sum.inr "01", .str "1"), (Sum.inr "10", .str "2"), (Sum.inr "11", .str "3")] : List (Key × V)) (Sum.inr (one a ++ one b)) := by
  have : a = 48 ∨ a = 49 := by omega
  have : b = 48 ∨ b = 49 := by omega
  rcases ‹a = 48 ∨ a = 49› with rfl | rfl <;> rcases ‹b = 48 ∨ b = 49› with rfl | rfl <;> rfl
theorem so_dg {x : Str} (h : ∀ c ∈ x.cps.toList, 48 ≤ c ∧ c < 52) : PyData.strOk x = true := by
  show x.cps.all (· < 0x110000) = true
  rw [← Array.all_toList, List.all_eq_true]
  intro c hc
  exact decide_eq_true (Nat.lt_trans (h c hc).2 (by decide))
theorem snoc_one {l : List Nat} {c : Nat} : (⟨l.toArray⟩ : Str) ++ one c = ⟨(l ++ [c]).toArray⟩ := by
  show Str.mk (l.toArray ++ #[c]) = _
  simp
theorem zip_at {x y : Str} {i : Nat} (el : y.cps.size = x.cps.size) (hi : i < x.cps.size) : (List.zipWith pc x.cps.toList y.cps.toList)[i]? = some (pc (x.cps.getD i 0) (y.cps.getD i 0)) := by
  rw [List.getElem?_eq_getElem (by simp; omega), List.getElem_zipWith, getD_at hi, getD_at (x := y) (by omega)]
section
variable {P : Program} {w : World} {K : PySem.W.Frag} {mg : Str → Option Value} {base : Heap} {S CB CW fI fB fH fKB fIW fNO fPW fPt aB fD fP fWo : Addr} {dI dB dH dKB dIW dNO dPW dPt dD dP dWo : FuncData}
theorem ok_right (D : Lp P w K mg base S CB CW fI fB fH fKB fIW fNO fPW fPt aB fD fP fWo dI dB dH dKB dIW dNO dPW dPt dD dP dWo) {f : Addr} {fd : FuncData} (F : Fun K "_law_right" "_law_right" sRight f fd) : FnG P w K mg base CX0 9 f fd ["_law_one", "_law_other"] spRight := by
  have T := D.d.t
  have GP : FnOk P w K mg base (L2.CX P w) 8 fPW dPW ["one", "other"] (spPW K CW) := ok_PW D.d D.pw.F
  have GT : FnOk P w K mg base (L2.CX P w) 8 fPt dPt ["word"] (spPt K CW) := ok_Pt D.d D.b D.pt.F
  have GN : FnOk P w K mg base (L2.CX P w) 8 fNO dNO ["word", "base"] (spNO K CB CW) := ok_NO D.d
  refine Fun.okG F scRight (fun vs H Q E h => ?_) (fun cdv A outer s H vs Q E hG hr h => ?_)
  · obtain ⟨x, y, rfl, _⟩ := h
    rfl
  · obtain ⟨x, y, rfl, hx, hy, el, k⟩ := h
    have hG2 : (A.deeper (PyProof.Rows.envOfC "_law_right" (defScope sRight) s.heap.objs.size f cdv)).guards = some [] := hG
    refine ⟨_, pss_cons (ps_set (i := 2) scRight.nd rfl (Or.inl rfl) (pe_callS (E := EN) GP hr rfl D.pw.g D.pw.k D.pw.b passN (pa_cons (pv 0) (pa_cons (pv 1) pa_nil))))
      (pss_cons (ps_set (i := 3) scRight.nd rfl (Or.inl rfl) pe_str)
      (pss_cons (ps_for PassesOwn.never rfl (pi_zipP rfl T.zip (pa_cons (pv 0) (pa_cons (pv 1) pa_nil))) (pg_tup rfl (pgs_cons (pg_name (i := 4) scRight.nd rfl (Or.inl rfl)) (pgs_cons (pg_name (i := 5) scRight.nd rfl (Or.inl rfl)) pgs_nil)))
        (pss_one (ps_set (i := 3) scRight.nd rfl (Or.inl rfl) (pe_op op_add_str (pv 3) (pe_dget (hu_of hr) (pe_disp (pps_cons pe_str pe_str (pps_cons pe_str pe_str (pps_cons pe_str pe_str (pps_cons pe_str pe_str pps_nil)))) (by rfl) (by rfl) (fun z => by cases z) (by decide)) (pe_op op_add_str (pv 4) (pv 5)) (fun _ _ => rfl))))))
      (pss_cons (ps_if (PW.pt (pw_or (pt_cmpR op_ne (pv 2) (pv 3) (nomark _)) (pw_or (pt_cmpR op_ne (pe_callK0 GP hr rfl D.pw.g D.pw.k D.pwk passNx (pk_cons (pv 1) (pk_cons (pv 0) pk_nil))) (pv 3) (nomark _))
          (pw_or1 (pt_cmpR op_ne (pe_callB (call_repr hG2 hr.units) (by rfl) D.rp bootRepr (pa_cons (pe_callS (E := EN) GT hr rfl D.pt.g D.pt.k D.pt.b passN (pa_cons (pv 2) pa_nil)) pa_nil)) (pe_callB (call_repr hG2 hr.units) (by rfl) D.rp bootRepr (pa_cons (pe_tup (pa_cons (pv 0) (pa_cons (pv 1) pa_nil))) pa_nil)) (nomark _))))))
        (pss_one (ps_ret pe_bl)) pss_nil)
      (pss_cons (ps_set (i := 6) scRight.nd rfl (Or.inl rfl) pe_int)
      (pss_cons (ps_for PassesOwn.never rfl (pi_zipP rfl T.zip (pa_cons (pv 0) (pa_cons (pv 1) pa_nil))) (pg_tup rfl (pgs_cons (pg_name (i := 4) scRight.nd rfl (Or.inl rfl)) (pgs_cons (pg_name (i := 5) scRight.nd rfl (Or.inl rfl)) pgs_nil)))
        (pss_one (ps_set (i := 6) scRight.nd rfl (Or.inl rfl) (pe_op op_add (pe_op op_add (pe_op op_mul pe_int (pv 6)) (pe_op op_mul pe_int (pe_callTy call_int_str (by rfl) T.int (by decide +kernel) (pa_cons (pv 4) pa_nil)))) (pe_callTy call_int_str (by rfl) T.int (by decide +kernel) (pa_cons (pv 5) pa_nil))))))
      (pss_one (ps_ret (pe_and (pe_cmpR op_eq (pe_callS (E := EN) GN hr rfl D.d.no.g D.d.no.k D.d.no.b passN (pa_cons (pv 2) (pa_cons pe_int pa_nil))) (pv 6) (nomark _))
        (pe_one (pe_cmpR (op_eqD hr.units) (pe_callK0 GT hr rfl D.pt.g D.pt.k D.ptk passNx (pk_cons (pv 2) pk_nil)) (pe_tup (pa_cons (pv 0) (pa_cons (pv 1) pa_nil))) (nomark _))))))))))), ?_⟩
    obtain ⟨zx, _⟩ := wd_dig (by decide) (by decide) hx
    obtain ⟨zy, _⟩ := wd_dig (by decide) (by decide) hy
    have dx := two_dig hx
    have dy := two_dig hy
    have vx : ∀ G, Vl K G (.str x) := fun G => vl_str (Nat.le_trans (show x.length ≤ 100 from zx) (by decide))
    have vy : ∀ G, Vl K G (.str y) := fun G => vl_str (Nat.le_trans (show y.length ≤ 100 from zy) (by decide))
    have both : ∀ z, z ∈ [x, y] → z.cps.size = x.cps.size := fun z hz => by
      rcases List.mem_cons.mp hz with e | e
      · rw [e]
      · rw [List.mem_singleton.mp e]; exact el
    have pw : ∀ {G : Hp} {Q : VK} {E : XK}, (∀ H', Same G H' → Q (.str (pairS x y)) H') → PwO CW (.str x) (.str y) G Q E := fun k => by
      unfold PwO
      rw [if_pos hx, if_pos (show (isWd 2 (.str y) && lenEq (.str x) (.str y)) = true by rw [hy]; exact decide_eq_true el)]
      intro x' y' H' e1 e2 s
      cases e1
      cases e2
      exact k H' s
    refine ⟨_, rfl, _, rfl, .str x, .str y, rfl, fun G _ => vx G, fun G _ => vy G, pw fun H1 s1 => ?_⟩
    refine gset (σ2 := [some (.str x), some (.str y), some (.str (pairS x y)), none, none, none, none]) rfl ?_
    show tSeq _ _ _ [some (.str x), some (.str y), some (.str (pairS x y)), none, none, none, none] H1
    refine cset (σ2 := [some (.str x), some (.str y), some (.str (pairS x y)), some (.str ""), none, none, none]) rfl ?_
    refine ⟨_, rfl, _, rfl, x, y, rfl, el, for_it (walk_zipS (ws := [x, y]) (n := x.cps.size) both (fun z => by cases z)) (fun i σ G => Same H1 G ∧ ∃ a b, σ = [some (.str x), some (.str y), some (.str (pairS x y)), some (.str ⟨((List.zipWith pc x.cps.toList y.cps.toList).take i).toArray⟩), a, b, none]) ?_ (fun _ _ _ _ _ => True.intro) ?_ ?_⟩
    · exact ⟨Same.refl _, none, none, rfl⟩
    · rintro i v0 σ G G' hi ⟨sm, a, b, rfl⟩ ⟨T, rfl, hT, rfl⟩
      refine ⟨T, _, rfl, SqT.of upd_same, rfl, _, _, rfl, _, _, rfl, rfl, ?_⟩
      refine ⟨_, rfl, fun p hp => ⟨upd_same, [(Sum.inr "00", .str "0"), (Sum.inr "01", .str "1"), (Sum.inr "10", .str "2"), (Sum.inr "11", .str "3")], rfl, by show 4 ≤ 15; decide, ?_⟩⟩
      have iy : i < y.cps.size := by omega
      have ax := dx (x.cps.getD i 0) (by rw [getD_at hi]; exact List.getElem_mem _)
      have ay := dy (y.cps.getD i 0) (by rw [getD_at iy]; exact List.getElem_mem _)
      have lz : (List.zipWith pc x.cps.toList y.cps.toList).length ≤ 100 := by
        rw [List.length_zipWith, Array.length_toList, Array.length_toList]
        omega
      refine ⟨_, rfl, _, rfl, _, _, rfl, rfl, by show 2 ≤ sizeLine; decide, p, .str (one (pc (x.cps.getD i 0) (y.cps.getD i 0))), rfl, .inl ⟨_, _, .inl upd_same, rfl, due_tab ax ay⟩, _, _, rfl, rfl, ?_, ?_⟩
      · show (List.take i (List.zipWith pc x.cps.toList y.cps.toList)).toArray.size + 1 ≤ sizeLine
        rw [List.size_toArray, List.length_take]
        exact Nat.le_trans (show _ ≤ 101 by omega) (by decide)
      · refine ⟨(sm.trans (Kone.same_new hT)).trans (fun b o e => by rw [upd_ne (ne_of_none e hp), upd_ne (ne_of_none e hp)]; exact e), some (sgn i x), some (sgn i y), ?_⟩
        rw [snoc_one, List.take_add_one, zip_at el hi]
        rfl
    · rintro σ G ⟨sm, a, b, rfl⟩
      have e0 : (⟨(List.take x.cps.size (List.zipWith pc x.cps.toList y.cps.toList)).toArray⟩ : Str) = pairS x y := by
        rw [List.take_of_length_le (by rw [List.length_zipWith, Array.length_toList]; exact Nat.min_le_left _ _)]
        rfl
      rw [e0]
      refine ⟨_, rfl, _, rfl, rfl, _, rfl, noB (by rw [decide_eq_true rfl]; rfl) ?_⟩
      refine ⟨_, rfl, _, rfl, .str x, .str y, rfl, fun G _ => vx G, fun G _ => vy G, pw fun H2 s2 => ?_⟩
      refine ⟨_, rfl, rfl, _, rfl, noB (by rw [decide_eq_true rfl]; rfl) ?_⟩
      have w4 := pair_wd hx hy el
      obtain ⟨z4, _⟩ := wd_dig (by decide) (by decide) w4
      have v4 : ∀ G, Vl K G (.str (pairS x y)) := fun G => vl_str (Nat.le_trans (show (pairS x y).length ≤ 100 from z4) (by decide))
      have pt : ∀ {G : Hp} {Q : VK} {E : XK}, (∀ (t : Addr) H', Same G H' → G t = none → H' t = some (.tup [.str x, .str y]) → Q (.ref t) H') → PtO CW (.str (pairS x y)) G Q E := fun k => by
        unfold PtO
        rw [if_pos w4]
        intro x' t H' e1 s h0 h1
        cases e1
        rw [pair_hi hx hy el, pair_lo hx hy el] at h1
        exact k t H' s h0 h1
      have sho := two_shown zx zy (so_dig (by decide) (by decide) hx) (so_dig (by decide) (by decide) hy)
      have dq : ∀ {G : Hp} {t : Addr}, G t = some (.tup [.str x, .str y]) → Dq G 1 false (.ref t) (.tuple [.str x, .str y]) := fun h => .inr (.inr (.inl ⟨_, _, _, rfl, rfl, h, .cons rfl (.cons rfl .nil), by show 2 ≤ 100; decide⟩))
      refine ⟨_, rfl, .str (pairS x y), rfl, fun G _ => v4 G, pt fun t1 H3 s3 _ h3 => ?_⟩
      refine ⟨1, _, _, rfl, dq h3, .inl rfl, sho.1, sho.2.1, sho.2.2, ?_⟩
      refine ⟨_, rfl, _, rfl, by show 2 ≤ sizeLine; decide, fun t2 h2 => ⟨1, _, _, rfl, dq upd_same, .inl rfl, sho.1, sho.2.1, sho.2.2, ?_⟩⟩
      refine ⟨rfl, _, rfl, noB (by rw [decide_eq_true rfl]; rfl) ?_⟩
      have sT2 : Same H1 (upd H3 t2 (.tup [.str x, .str y])) := ((sm.trans s2).trans s3).trans (Kone.same_new h2)
      show tSeq _ _ _ [some (.str x), some (.str y), some (.str (pairS x y)), some (.str (pairS x y)), a, b, none] (upd H3 t2 (.tup [.str x, .str y]))
      refine cset (σ2 := [some (.str x), some (.str y), some (.str (pairS x y)), some (.str (pairS x y)), a, b, some (.int 0)]) rfl ?_
      have zl : (List.zipWith pc x.cps.toList y.cps.toList).length = x.cps.size := by
        rw [List.length_zipWith, Array.length_toList, Array.length_toList]
        omega
      have zd : ∀ c ∈ List.zipWith pc x.cps.toList y.cps.toList, 48 ≤ c ∧ c < 52 := zip_mem dx dy
      refine ⟨_, rfl, _, rfl, x, y, rfl, el, for_it (walk_zipS (ws := [x, y]) (n := x.cps.size) both (fun z => by cases z)) (fun i σ G => Same H1 G ∧ ∃ a b, σ = [some (.str x), some (.str y), some (.str (pairS x y)), some (.str (pairS x y)), a, b, some (.int (numS 4 ((List.zipWith pc x.cps.toList y.cps.toList).take i) : Nat))]) ?_ (fun _ _ _ _ _ => True.intro) ?_ ?_⟩
      · exact ⟨sT2, a, b, rfl⟩
      · rintro i v0 σ G G' hi ⟨sm, a, b, rfl⟩ ⟨T, rfl, hT, rfl⟩
        have iy : i < y.cps.size := by omega
        have ax := dx (x.cps.getD i 0) (by rw [getD_at hi]; exact List.getElem_mem _)
        have ay := dy (y.cps.getD i 0) (by rw [getD_at iy]; exact List.getElem_mem _)
        refine ⟨T, _, rfl, SqT.of upd_same, rfl, _, _, rfl, _, _, rfl, rfl, ?_⟩
        refine ⟨_, rfl, _, _, rfl, rfl, .inl ⟨by decide, by decide⟩, _, rfl, _, _, rfl, int_dig ax.1 (by omega), by show 1 ≤ 640; decide, _, _, rfl, rfl, .inl ⟨by decide, by decide⟩, _, _, rfl, rfl, _, rfl, _, _, rfl, int_dig ay.1 (by omega), by show 1 ≤ 640; decide, _, _, rfl, rfl, ?_⟩
        refine ⟨sm.trans (Kone.same_new hT), some (sgn i x), some (sgn i y), ?_⟩
        rw [List.take_add_one, zip_at el hi]
        show [_, _, _, _, _, _, some (V.int (4 * ((numS 4 ((List.zipWith pc x.cps.toList y.cps.toList).take i) : Nat) : Int) + 2 * ((x.cps.getD i 0 - 48 : Nat) : Int) + ((y.cps.getD i 0 - 48 : Nat) : Int)))] = [_, _, _, _, _, _, some (V.int ((numS 4 ((List.zipWith pc x.cps.toList y.cps.toList).take i ++ [pc (x.cps.getD i 0) (y.cps.getD i 0)]) : Nat) : Int))]
        rw [numS_snoc]
        have e3 : pc (x.cps.getD i 0) (y.cps.getD i 0) - 48 = 2 * (x.cps.getD i 0 - 48) + (y.cps.getD i 0 - 48) := by
          unfold pc
          omega
        rw [e3, Int.natCast_add, Int.natCast_mul, Int.natCast_add, Int.natCast_mul]
        have e4 : (4 * ((numS 4 ((List.zipWith pc x.cps.toList y.cps.toList).take i) : Nat) : Int) + 2 * ((x.cps.getD i 0 - 48 : Nat) : Int) + ((y.cps.getD i 0 - 48 : Nat) : Int)) = (((numS 4 ((List.zipWith pc x.cps.toList y.cps.toList).take i) : Nat) : Int) * ((4 : Nat) : Int) + (((2 : Nat) : Int) * ((x.cps.getD i 0 - 48 : Nat) : Int) + ((y.cps.getD i 0 - 48 : Nat) : Int))) := by omega
        rw [e4]
      · rintro σ G ⟨sm, a, b, rfl⟩
        rw [List.take_of_length_le (by rw [zl]; exact Nat.le_refl _)]
        refine ⟨_, rfl, .str (pairS x y), .int 4, rfl, v4 _, knd_int, ?_⟩
        rw [if_pos (show btw (.int 4) 2 4 = true by rfl)]
        intro b4 eb
        cases eb
        rw [if_pos (show isWd ((4 : Nat) : Int) (.str (pairS x y)) = true from w4)]
        intro x' H4 e1 s4
        cases e1
        refine ⟨_, rfl, rfl, _, rfl, yesB (decide_eq_true rfl) ?_⟩
        refine ⟨_, rfl, .str (pairS x y), rfl, fun G _ => v4 G, pt fun t4 H5 s5 _ h5 => ?_⟩
        refine ⟨_, rfl, _, rfl, by show 2 ≤ sizeLine; decide, fun t6 h6 => ?_⟩
        have so : ∀ z, z ∈ [x, y] → PyData.strOk z = true := fun z hz => by
          rcases List.mem_cons.mp hz with e | e
          · rw [e]; exact so_dg (so_dig (by decide) (by decide) hx)
          · rw [List.mem_singleton.mp e]; exact so_dg (so_dig (by decide) (by decide) hy)
        refine ⟨.tuple (([x, y] : List Str).map PyData.str), .tuple (([x, y] : List Str).map PyData.str), .tup (SqT.of (Kone.same_new h6 _ _ h5)) (dp_strs [x, y]), .tup (SqT.of upd_same) (dp_strs [x, y]), sht_strs _ so, sht_strs _ so, ?_⟩
        rw [eqvt_strs]
        exact k _ ((((s1.trans sm).trans s4).trans s5).trans (Kone.same_new h6))
end
end Kpa
namespace Kpa
open PySem L2 Gd
open Kone (Pen Keep spPen spDraw spPick TxtD same_new)
/-- a hundred and one times a digit -/
def rep1 (d : Str) : Str := ⟨(List.replicate 101 d.cps).foldl (· ++ ·) #[]⟩
theorem op_rep1 {X : Cx} : OpR X (binaryOp .Mult) (fun x y H Q => ∃ d, x = .str d ∧ (d = "0" ∨ d = "1" ∨ d = "3") ∧ y = .int 101 ∧ Q (.str (rep1 d)) H) := by
  intro pins s σ H x y v u Q I rx ry h
  obtain ⟨d, rfl, hd, rfl, q⟩ := h
  obtain ⟨t, rfl⟩ := rx
  obtain ⟨t', rfl⟩ := ry
  rcases hd with rfl | rfl | rfl
  all_goals
    refine P.mul_str (by decide) (fun _ _ => by decide) (fun _ _ => by decide) ?_
    rw [if_neg (by decide), if_neg (by decide)]
    exact ⟨by decide +kernel, ⟨.str _, H, I.tok _, ⟨_, rfl⟩, q⟩⟩
/-! ### what stands still while lists grow and codes are kept -/
def KeepX (ex : List Addr) (H H' : Hp) : Prop := ∀ b o, b ∉ ex → (∀ ps, o ≠ .tbl ps) → H b = some o → H' b = some o
def core (ex : List Addr) (H : Hp) : Hp := fun b => if b ∈ ex then none else match H b with
  | some (.tbl _) => none
  | o => o
theorem core_at {ex : List Addr} {H : Hp} {b : Addr} {o : HO} (n : b ∉ ex) (t : ∀ ps, o ≠ .tbl ps) (e : H b = some o) : core ex H b = some o := by
  unfold core
  rw [if_neg n, e]
  cases o with
  | tbl ps => exact absurd rfl (t ps)
  | _ => rfl
theorem core_of {ex : List Addr} {H : Hp} {b : Addr} {o : HO} (e : core ex H b = some o) : b ∉ ex ∧ (∀ ps, o ≠ .tbl ps) ∧ H b = some o := by
  unfold core at e
  by_cases n : b ∈ ex
  · rw [if_pos n] at e
    cases e
  · rw [if_neg n] at e
    cases q : H b with
    | none => rw [q] at e; cases e
    | some u =>
      rw [q] at e
      cases u with
      | tbl ps => cases e
      | _ =>
        cases e
        exact ⟨n, fun ps z => (nomatch z), rfl⟩
theorem core_sub {ex : List Addr} {H : Hp} : Same (core ex H) H := fun b o e => (core_of e).2.2
theorem core_mono {ex : List Addr} {H H' : Hp} (k : KeepX ex H H') : Same (core ex H) (core ex H') := fun b o e => by
  obtain ⟨n, t, h⟩ := core_of e
  exact core_at n t (k b o n t h)
theorem KeepX.keep {p : Addr} {ex : List Addr} {H H' : Hp} (hp : p ∈ ex) (k : Keep p H H') : KeepX ex H H' := fun b o n _ e => k b o (fun z => n (by rw [z]; exact hp)) e
theorem KeepX.same {ex : List Addr} {H H' : Hp} (k : Same H H') : KeepX ex H H' := fun b o _ _ e => k b o e
theorem KeepX.ext {ex : List Addr} {H H' : Hp} (k : LamX.ExtN H H') : KeepX ex H H' := fun b o _ t e => k b o e t
theorem KeepX.put {ex : List Addr} {H : Hp} {a : Addr} {o : HO} (h : a ∈ ex) : KeepX ex H (upd H a o) := fun b u n _ e => by rw [upd_ne (fun z => n (by rw [z]; exact h))]; exact e
theorem KeepX.trans {ex : List Addr} {H H1 H2 : Hp} (a : KeepX ex H H1) (b : KeepX ex H1 H2) : KeepX ex H H2 := fun c o n t e => b c o n t (a c o n t e)
theorem Pen.ext {H H' : Hp} {p c : Addr} {n : Nat} (x : Pen H p c n) (s : LamX.ExtN H H') : Pen H' p c n := by
  obtain ⟨cs, a, g, h1, h2, h3, h4, h5⟩ := x
  exact ⟨cs, a, g, s _ _ h1 (fun _ z => nomatch z), s _ _ h2 (fun _ z => nomatch z), h3, h4, h5⟩
theorem Pen.put {H : Hp} {p c a : Addr} {n : Nat} {o : HO} (x : Pen H p c n) (h1 : a ≠ p) (h2 : a ≠ c) : Pen (upd H a o) p c n := by
  obtain ⟨cs, i, g, q1, q2, q3, q4, q5⟩ := x
  exact ⟨cs, i, g, by rw [upd_ne h1.symm]; exact q1, by rw [upd_ne h2.symm]; exact q2, q3, q4, q5⟩
abbrev TL (Pt : Addr) : List (Addr × Str) := [(Pt, "law.<locals>.<lambda>")]
/-! ### tables of codes while lists are written -/
theorem Tabs.put {T : List (Addr × Str)} {H : Hp} {a : Addr} {xs : List V} {o : HO} (h : LamX.Tabs T H) (ha : H a = some (.lst xs)) : LamX.Tabs T (upd H a o) := by
  intro p hp
  obtain ⟨ps, h1, h2, h3⟩ := h p hp
  refine ⟨ps, ?_, h2, fun pos cv e => ?_⟩
  · rw [upd_ne (ne_of h1 ha (fun z => nomatch z))]
    exact h1
  · obtain ⟨c, e1, e2⟩ := h3 pos cv e
    refine ⟨c, e1, ?_⟩
    rw [upd_ne (ne_of e2 ha (fun z => by unfold LamX.CodeO at z; cases z))]
    exact e2
theorem Tabs.keep {T : List (Addr × Str)} {H H' : Hp} {a : Addr} {xs : List V} (h : LamX.Tabs T H) (ha : H a = some (.lst xs)) (k : Keep a H H') : LamX.Tabs T H' := by
  intro p hp
  obtain ⟨ps, h1, h2, h3⟩ := h p hp
  refine ⟨ps, k _ _ (ne_of h1 ha (fun z => nomatch z)) h1, h2, fun pos cv e => ?_⟩
  obtain ⟨c, e1, e2⟩ := h3 pos cv e
  exact ⟨c, e1, k _ _ (ne_of e2 ha (fun z => by unfold LamX.CodeO at z; cases z)) e2⟩
theorem Tabs.same {T : List (Addr × Str)} {H H' : Hp} (h : LamX.Tabs T H) (s : Same H H') : LamX.Tabs T H' := h.ext s
end Kpa
namespace Gd
open PySem PySem.Spec PyProof.Rows L2
section
variable {P : Program} {w : World} {K : PySem.W.Frag} {mg : Str → Option Value} {base : Heap} {CX : CXT}
/-- as fnG_of, the code's place known -/
theorem fnG_at {x qual : Str} {st : Stmt} {f : Addr} {N ps : List Str} {k : Nat} {sp : Sp} {oc : Value} {od an : Option Addr} {osl : Array (Option Value)} {kV doc pm cdv ct : Value}
    (lk : K.lookup f = some ⟨oc, od, .func (PySem.W.fnOf x qual (defArgs st) (defBody st) (defScope st) .none kV doc pm an cdv ct), osl⟩) (hcd : PySem.W.codeIn K cdv qual = true) (S : FnScope N ps (defScope st))
    (len : ∀ vs H Q E, sp vs H Q E → vs.length = ps.length)
    (body : ∀ (A : Around) (outer : List Env) (s : Shared) (H : Hp) (vs : List V) (Q : VK) (E : XK), A.guards = some [] → Room k (A.deeper (envOfC qual (defScope st) s.heap.objs.size f cdv)) → sp vs H Q E →
      ∃ t, PSs (cxOf CX P w K mg base N qual (defScope st) f cdv A outer s H E).nox (defBody st) t ∧ t { nx := fun _ H' => Q .non H', rt := Q } (start N vs) H) : FnG P w K mg base CX (k + 1) f (PySem.W.fnOf x qual (defArgs st) (defBody st) (defScope st) .none kV doc pm an cdv ct) ps sp := by
  constructor
  · exact len
  · intro A outer s H args us vs Q E hG hr e0 hb r hsp
    obtain ⟨t, ht0, hq⟩ := body A outer s H vs Q E hG (hr.deeper _) hsp
    have ht := ht0.nox
    have KX : K.In s.heap := e0.mod.kin.keeps fun b o e => (e0.bs b o e).1
    have places : ∀ y ∈ ps.zip us, (defScope st).names.lookup y.1 = some .local ∨ ((defScope st).names.lookup y.1 = some .cell ∧ ((cellsFrom (s.heap.objs.size + 1) (defScope st).names []).lookup y.1).isSome = true) := by
      rintro ⟨n, v⟩ hy
      cases S.par n (List.of_mem_zip hy).1 with
      | inl q => exact .inl q
      | inr q => exact .inr ⟨q, PySem.W.cellsFrom_some _ _ _ (.inl q)⟩
    apply codeAny_call_function hr.depth (KX _ _ lk) rfl S.co S.gen rfl (PySem.W.codeRec_of KX hcd)
    apply hb
    apply wpAny_newFunctionEnv_cells S.kind places
    intro env he s1 x
    subst he
    refine ⟨(e0.mod.nolimit.keeps fun b o e => (e0.bs b o e).1).keeps x.toInCall.keep, codeAny_func ?_⟩
    have I := inv_start (CX := CX) (E := E) S hr.hd e0 (len _ _ _ _ hsp) r x
    apply wpAny_mono (ht.run [] s1 (start N vs) H _ I hq)
    · intro fl s' hs
      cases fl with
      | ret u =>
        obtain ⟨v, σ', H', J, rv, q⟩ := hs
        exact ⟨v, H', J.os, J.bare, J.base, J.hok, rv, q⟩
      | next =>
        obtain ⟨σ', H', J, q⟩ := hs
        exact ⟨.non, H', J.os, J.bare, J.base, J.hok, rfl, q⟩
      | brk => exact (hs.choose_spec.choose_spec.2 : False).elim
      | cont => exact (hs.choose_spec.choose_spec.2 : False).elim
    · intro e s' hs
      exact hs
end
/-! ### a call of a def that wants no repr under way -/
section
variable {X : Cx} {CX : CXT} {k : Nat} {f : Addr} {fd : FuncData} {ps : List Str} {sp : Sp} {E : XK} {x : Str} {p pos : Pos} {e : Expr} {es : List Expr} {t : TA}
theorem run_G {pins : List (Addr × Obj)} {σ : L2.St} {H : Hp} {s : Shared} {Q : VK} {us : List Value} {vs : List V} (F : FnG X.prog X.w X.K X.mg X.base CX k f fd ps sp) (hG : X.A.guards = some []) (hr : Room k X.A) (hb : Binds X.K fd ps []) (hx : Passes CX X E)
    (I : Inv X pins σ H s) (r : Vals vs us) (h : sp vs H Q E) : wpAny (model X.prog X.w) X.A (call (.ref f) us) (EP X pins σ Q) X.xe s := by
  have hl : us.length = ps.length := by rw [← r.length]; exact F.len _ _ _ _ h
  have b := hb s us I.kIn (by rw [List.append_nil]; exact hl)
  rw [List.append_nil] at b
  apply wpAny_call
  apply codeAny_mono (F.run X.A X.stack s H ⟨us, []⟩ us vs Q E hG hr I.env0 b r h)
  intro r s' hq
  match r, hq with
  | .error e, hq => exact hx pins σ H s e s' I hq
  | .ok (.ret u), hq => exact I.after hq
  | .ok .next, hq => exact False.elim hq
  | .ok .brk, hq => exact False.elim hq
  | .ok .cont, hq => exact False.elim hq
theorem pe_callG (F : FnG X.prog X.w X.K X.mg X.base CX k f fd ps sp) (hG : X.A.guards = some []) (hr : Room k X.A) (hg : Gl X x) (hm : X.mg x = some (.ref f)) (hk : PySem.W.keepIn X.K (.ref f) = true) (hb : Binds X.K fd ps []) (hx : Passes CX X E)
    (ha : PA X (e :: es) t) (hdb : (x == ("__debug__" : Str)) = false := by decide) (he : starEach (e :: es) X.env = (false, eval e X.env) :: starEach es X.env := by rfl) (hpl : (backTo pos (starEach es X.env)).any (·.1) = false := by rfl) :
    PE X (.Call (.Name x p) (e :: es) [] pos) (fun σ H Q => t σ H fun vs H1 => sp vs H1 Q E) := by
  constructor
  intro pins s σ H Q I h
  apply wpAny_Call_Name_kw
  apply ld_glob I hg hm ?_ hdb
  refine PySem.W.callWith_K (h₀ := X.base) I.ok.mod.kin hk (thn (ha.run pos pins s σ H _ I h) ?_) he hpl
  intro us s1 ⟨vs, H1, I1, r, q⟩
  exact ⟨I1.kIn, run_G F hG hr hb hx I1 r q⟩
end
end Gd
namespace Kpa
open PySem L2 Gd
open Kone (Pen Keep spPen spDraw spPick TxtD same_new)
/-! ### the state of what is heard -/
structure Stt (p cc hl Pt : Addr) (n : Nat) (ts : List Addr) (H : Hp) : Prop where
  pen : Pen H p cc n
  tab : LamX.Tabs (TL Pt) H
  lst : H hl = some (.lst (ts.map V.ref))
  np : hl ≠ p
  nc : hl ≠ cc
section
variable {p cc hl Pt : Addr} {n : Nat} {ts : List Addr} {H H2 Hn : Hp}
theorem Stt.same (S : Stt p cc hl Pt n ts H) (s : Same H Hn) : Stt p cc hl Pt n ts Hn := ⟨S.pen.keep s, S.tab.ext s, s _ _ S.lst, S.np, S.nc⟩
theorem Stt.ext (S : Stt p cc hl Pt n ts H) (e : LamX.ExtN H H2) (T2 : LamX.Tabs (TL Pt) H2) : Stt p cc hl Pt n ts H2 := ⟨Pen.ext S.pen e, T2, e _ _ S.lst (fun _ z => nomatch z), S.np, S.nc⟩
theorem Stt.pick {m : Nat} (S : Stt p cc hl Pt n ts H) (k : Keep p H Hn) (pen : Pen Hn p cc m) : Stt p cc hl Pt m ts Hn := by
  obtain ⟨_, _, _, e, _⟩ := S.pen
  exact ⟨pen, Tabs.keep S.tab e k, k _ _ S.np S.lst, S.np, S.nc⟩
theorem Stt.put {t : Addr} {out : List V} (S : Stt p cc hl Pt n ts H) (ht : H t = some (.tup out)) : Stt p cc hl Pt n (ts ++ [t]) (upd H hl (.lst (ts.map V.ref ++ [.ref t]))) ∧ core [p, hl] (upd H hl (.lst (ts.map V.ref ++ [.ref t]))) t = some (.tup out) := by
  have hL := S.lst
  have tp : t ≠ p := by
    obtain ⟨_, _, _, q, _⟩ := S.pen
    exact ne_of ht q (fun z => nomatch z)
  have th : t ≠ hl := ne_of ht hL (fun z => nomatch z)
  exact ⟨⟨Pen.put S.pen S.np S.nc, Tabs.put S.tab hL, by rw [upd_same, List.map_append]; rfl, S.np, S.nc⟩, core_at (by simp [tp, th]) (fun _ z => nomatch z) ((upd_ne th).trans ht)⟩
theorem core_grow {p hl : Addr} {H4 H7 : Hp} {o : HO} (k : KeepX [p] H4 H7) (n : H7 hl = none) : Same (core [p] H4) (core [p, hl] (upd H7 hl o)) := fun b u e => by
  obtain ⟨n1, t, h⟩ := core_of e
  have h7 := k b u n1 t h
  have nb := ne_of_none h7 n
  exact core_at (by simp at n1; simp [n1, nb]) t ((upd_ne nb).trans h7)
end
/-! ### the drawn values -/
def Fine (D : PyData) : Prop := (D.showable = true ∧ D.shown.length ≤ sizeLine ∧ D.depth ≤ 60 ∧ nice D = true) ∧ PyData.strOk D.shown = true
section
variable {K : PySem.W.Frag} {G : Hp}
/-- shown, as a text that can be compared -/
def Shw (G : Hp) (v : V) (D : PyData) : Prop := (∀ H, Same G H → Sh H v D) ∧ PyData.strOk D.shown = true
theorem Shw.mono {G G' : Hp} {v : V} {D : PyData} (h : Shw G v D) (s : Same G G') : Shw G' v D := ⟨fun H k => h.1 H (s.trans k), h.2⟩
/-- no word of base b -/
def Odd (K : PySem.W.Frag) (b : Int) (G : Hp) (v : V) : Prop := (∀ H, Same G H → Vl K H v) ∧ isWd b v = false ∧ ∃ D, Shw G v D
theorem Odd.mono {b : Int} {G G' : Hp} {v : V} (h : Odd K b G v) (s : Same G G') : Odd K b G' v := ⟨fun H k => h.1 H (s.trans k), h.2.1, let ⟨D, d⟩ := h.2.2; ⟨D, d.mono s⟩⟩
/-- no word of base 2 as long as one -/
def Bad (K : PySem.W.Frag) (one : Str) (G : Hp) (v : V) : Prop := (∀ H, Same G H → Vl K H v) ∧ (isWd 2 v && lenEq (.str one) v) = false ∧ ∃ D, Shw G v D
theorem Bad.mono {x : Str} {G G' : Hp} {v : V} (h : Bad K x G v) (s : Same G G') : Bad K x G' v := ⟨fun H k => h.1 H (s.trans k), h.2.1, let ⟨D, d⟩ := h.2.2; ⟨D, d.mono s⟩⟩
theorem shw_sc {v : V} {D : PyData} (sc : Sc v D) (h : Fine D) : Shw G v D := ⟨fun H _ => ⟨.inl sc, h.1⟩, h.2⟩
theorem shw_lst {a : Addr} {xs : List V} {ds : List PyData} (e : G a = some (.lst xs)) (pr : ∀ H, Paired (Dq H 1 false) xs ds) (h : Fine (.list ds)) (hl : xs.length ≤ 100 := by decide) : Shw G (.ref a) (.list ds) :=
  ⟨fun H s => ⟨.inr (.inl ⟨rfl, a, xs, ds, rfl, rfl, s _ _ e, pr H, hl⟩), h.1⟩, h.2⟩
theorem shw_tup {a : Addr} {xs : List V} {ds : List PyData} (e : G a = some (.tup xs)) (pr : ∀ H, Paired (Dq H 1 false) xs ds) (h : Fine (.tuple ds)) (hl : xs.length ≤ 100 := by decide) : Shw G (.ref a) (.tuple ds) :=
  ⟨fun H s => ⟨.inr (.inr (.inl ⟨a, xs, ds, rfl, rfl, s _ _ e, pr H, hl⟩)), h.1⟩, h.2⟩
theorem shw_dct {a : Addr} (e : G a = some (.dK [])) (h : Fine (.dict [])) : Shw G (.ref a) (.dict []) :=
  ⟨fun H s => ⟨.inr (.inr (.inr ⟨rfl, a, [], [], rfl, rfl, s _ _ e, .nil, by decide, .nil⟩)), h.1⟩, h.2⟩
theorem dq_sc {H : Hp} {v : V} {d : PyData} (h : Sc v d) : Dq H 1 false v d := .inl h
theorem vl_non {H : Hp} : Vl K H .non := ⟨knd_non, fun _ e => nomatch e⟩
theorem vl_int {H : Hp} {i : Int} : Vl K H (.int i) := ⟨knd_int, fun _ e => nomatch e⟩
theorem vl_bl {H : Hp} {b : Bool} : Vl K H (.bl b) := ⟨knd_bl, fun _ e => nomatch e⟩
theorem vl_lst {H : Hp} {a : Addr} {xs : List V} (e : H a = some (.lst xs)) : Vl K H (.ref a) := ⟨knd_lst e, fun _ e => nomatch e⟩
theorem vl_tup {H : Hp} {a : Addr} {xs : List V} (e : H a = some (.tup xs)) : Vl K H (.ref a) := ⟨knd_tup e, fun _ e => nomatch e⟩
theorem vl_dct {H : Hp} {a : Addr} {xs : List (Key × V)} (e : H a = some (.dK xs)) : Vl K H (.ref a) := ⟨knd_dK e, fun _ e => nomatch e⟩
theorem odd_menu {l t d : Addr} (et : G t = some (.tup [.str "0"])) (el : G l = some (.lst [.str "0"])) (ed : G d = some (.dK [])) {x : V} (h : x ∈ [V.non, .int 0, .bl true, .str "2", .str "01 ", .ref t, .ref l, .ref d, .str (rep1 "0")]) : Odd K 2 G x := by
  simp only [List.mem_cons, List.not_mem_nil, or_false] at h
  rcases h with rfl | rfl | rfl | rfl | rfl | rfl | rfl | rfl | rfl
  · exact ⟨fun _ _ => vl_non, rfl, .none, shw_sc True.intro (by unfold Fine; decide +kernel)⟩
  · exact ⟨fun _ _ => vl_int, rfl, .int 0, shw_sc rfl (by unfold Fine; decide +kernel)⟩
  · exact ⟨fun _ _ => vl_bl, rfl, .bool true, shw_sc rfl (by unfold Fine; decide +kernel)⟩
  · exact ⟨fun _ _ => vl_str (by decide), by decide +kernel, .str "2", shw_sc rfl (by unfold Fine; decide +kernel)⟩
  · exact ⟨fun _ _ => vl_str (by decide), by decide +kernel, .str "01 ", shw_sc rfl (by unfold Fine; decide +kernel)⟩
  · exact ⟨fun H s => vl_tup (s _ _ et), rfl, .tuple [.str "0"], shw_tup et (fun H => .cons (dq_sc rfl) .nil) (by unfold Fine; decide +kernel)⟩
  · exact ⟨fun H s => vl_lst (s _ _ el), rfl, .list [.str "0"], shw_lst el (fun H => .cons (dq_sc rfl) .nil) (by unfold Fine; decide +kernel)⟩
  · exact ⟨fun H s => vl_dct (s _ _ ed), rfl, .dict [], shw_dct ed (by unfold Fine; decide +kernel)⟩
  · exact ⟨fun _ _ => vl_str (by decide +kernel), by decide +kernel, .str (rep1 "0"), shw_sc rfl (by unfold Fine; decide +kernel)⟩
theorem odd4_menu {l t d : Addr} (et : G t = some (.tup [.str "0"])) (el : G l = some (.lst [.str "0"])) (ed : G d = some (.dK [])) {x : V} (h : x ∈ [V.non, .int 0, .bl true, .str "4", .str "01 ", .ref t, .ref l, .ref d, .str (rep1 "3")]) : Odd K 4 G x := by
  simp only [List.mem_cons, List.not_mem_nil, or_false] at h
  rcases h with rfl | rfl | rfl | rfl | rfl | rfl | rfl | rfl | rfl
  · exact ⟨fun _ _ => vl_non, rfl, .none, shw_sc True.intro (by unfold Fine; decide +kernel)⟩
  · exact ⟨fun _ _ => vl_int, rfl, .int 0, shw_sc rfl (by unfold Fine; decide +kernel)⟩
  · exact ⟨fun _ _ => vl_bl, rfl, .bool true, shw_sc rfl (by unfold Fine; decide +kernel)⟩
  · exact ⟨fun _ _ => vl_str (by decide), by decide +kernel, .str "4", shw_sc rfl (by unfold Fine; decide +kernel)⟩
  · exact ⟨fun _ _ => vl_str (by decide), by decide +kernel, .str "01 ", shw_sc rfl (by unfold Fine; decide +kernel)⟩
  · exact ⟨fun H s => vl_tup (s _ _ et), rfl, .tuple [.str "0"], shw_tup et (fun H => .cons (dq_sc rfl) .nil) (by unfold Fine; decide +kernel)⟩
  · exact ⟨fun H s => vl_lst (s _ _ el), rfl, .list [.str "0"], shw_lst el (fun H => .cons (dq_sc rfl) .nil) (by unfold Fine; decide +kernel)⟩
  · exact ⟨fun H s => vl_dct (s _ _ ed), rfl, .dict [], shw_dct ed (by unfold Fine; decide +kernel)⟩
  · exact ⟨fun _ _ => vl_str (by decide +kernel), by decide +kernel, .str (rep1 "3"), shw_sc rfl (by unfold Fine; decide +kernel)⟩
/-! ### texts of digits, shown -/
theorem ch_ok {q c : Nat} (hq : q = 34 ∨ q = 39) (h : 48 ≤ c ∧ c < 52) : ∀ z ∈ Builtin.Str.reprChar q c, z < 1114112 := by
  have : c = 48 ∨ c = 49 ∨ c = 50 ∨ c = 51 := by omega
  rcases hq with rfl | rfl <;> rcases this with rfl | rfl | rfl | rfl <;> decide +kernel
theorem fold_ok {q : Nat} (hq : q = 34 ∨ q = 39) : ∀ (l : List Nat) (acc : Array Nat), (∀ c ∈ l, 48 ≤ c ∧ c < 52) → (∀ z ∈ acc.toList, z < 1114112) → ∀ z ∈ (l.foldl (fun out c => out ++ (Builtin.Str.reprChar q c).toArray) acc).toList, z < 1114112
  | [], acc, _, h => h
  | c :: r, acc, h, h2 => by
    refine fold_ok hq r _ (fun d hd => h d (List.mem_cons_of_mem _ hd)) fun z hz => ?_
    rw [Array.toList_append, List.mem_append] at hz
    rcases hz with hz | hz
    · exact h2 z hz
    · exact ch_ok hq (h c (List.mem_cons_self ..)) z (by simpa using hz)
theorem q_of (x : Str) : reprQuote x = 34 ∨ reprQuote x = 39 := by
  unfold reprQuote
  split
  · exact .inl rfl
  · exact .inr rfl
theorem so_repr {x : Str} (h : ∀ c ∈ x.cps.toList, 48 ≤ c ∧ c < 52) : PyData.strOk (reprText x) = true := by
  show (reprText x).cps.all (· < 0x110000) = true
  rw [← Array.all_toList, List.all_eq_true]
  intro z hz
  refine decide_eq_true ?_
  have e : (reprText x).cps.toList = (x.cps.toList.foldl (fun out c => out ++ (Builtin.Str.reprChar (reprQuote x) c).toArray) #[reprQuote x]).toList ++ [reprQuote x] := by
    unfold reprText
    rw [Array.toList_push, ← Array.foldl_toList]
  rw [e, List.mem_append] at hz
  have hq : reprQuote x < 1114112 := by rcases q_of x with q | q <;> rw [q] <;> decide
  rcases hz with hz | hz
  · exact fold_ok (q_of x) _ _ h (fun z hz => by simp at hz; rw [hz]; exact hq) z hz
  · rw [List.mem_singleton.mp hz]
    exact hq
theorem fine_dig {x : Str} (h : ∀ c ∈ x.cps.toList, 48 ≤ c ∧ c < 52) (hl : x.length ≤ 102) : Fine (.str x) := by
  have e : (PyData.str x).shown = reprText x := by simp [PyData.shown]
  unfold Fine
  rw [e]
  have := StrLaws.reprText_len x (fun c hc => Nat.lt_of_lt_of_le (h c hc).2 (by decide))
  exact ⟨⟨by simp [PyData.showable], Nat.le_trans this (Nat.le_trans (show _ ≤ 1022 by omega) (by decide)), by simp [PyData.depth], rfl⟩, so_repr h⟩
theorem bad_dig {one x : Str} (h : ∀ c ∈ x.cps.toList, 48 ≤ c ∧ c < 52) (hl : x.length ≤ 102) (hn : x.length ≠ one.length) : Bad K one G (.str x) :=
  ⟨fun _ _ => vl_str (Nat.le_trans hl (by decide)), by rw [show lenEq (.str one) (.str x) = false from decide_eq_false hn, Bool.and_false], .str x, shw_sc rfl (fine_dig h hl)⟩
theorem cut1 (x : Str) : (cutS x (some 1) none).cps.toList = x.cps.toList.drop 1 := by
  show ((x.cps.toList.drop (HT.sIx x.length 0 (some 1))).take (HT.sIx x.length x.length none - HT.sIx x.length 0 (some 1))) = _
  have e2 : HT.sIx x.length x.length none = x.length := rfl
  have e1 : HT.sIx x.length 0 (some 1) = min 1 x.length := by
    unfold HT.sIx
    simp
  rw [e1, e2, List.take_of_length_le (by rw [List.length_drop]; show x.cps.toList.length - _ ≤ _; rw [Array.length_toList]; exact Nat.le_refl _)]
  by_cases q : 1 ≤ x.length
  · rw [Nat.min_eq_left q]
  · have : x.length = 0 := by omega
    have e3 : x.cps.toList = [] := List.eq_nil_of_length_eq_zero (by rw [Array.length_toList]; exact this)
    rw [e3]
    simp
theorem app_list (x y : Str) : (x ++ y).cps.toList = x.cps.toList ++ y.cps.toList := by
  show (x.cps ++ y.cps).toList = _
  simp
theorem bad_menu {one other : Str} (h1 : isWd 2 (.str one) = true) (h2 : isWd 2 (.str other) = true) (el : other.cps.size = one.cps.size) {l : Addr} (e : G l = some (.lst [.str "1"])) {x : V}
    (h : x ∈ [V.non, .int 1, .str "3", .str "a", .ref l, .str (other ++ "0"), .str (cutS one (some 1) none ++ "00"), .str (rep1 "1")]) : Bad K one G x := by
  have nw : ∀ {v : V}, isWd 2 v = false → (isWd 2 v && lenEq (.str one) v) = false := fun h => by rw [h]; rfl
  obtain ⟨z1, _⟩ := wd_dig (by decide) (by decide) h1
  obtain ⟨z2, _⟩ := wd_dig (by decide) (by decide) h2
  have d1 := two_dig h1
  have d2 := two_dig h2
  simp only [List.mem_cons, List.not_mem_nil, or_false] at h
  rcases h with rfl | rfl | rfl | rfl | rfl | rfl | rfl | rfl
  · exact ⟨fun _ _ => vl_non, rfl, .none, shw_sc True.intro (by unfold Fine; decide +kernel)⟩
  · exact ⟨fun _ _ => vl_int, rfl, .int 1, shw_sc rfl (by unfold Fine; decide +kernel)⟩
  · exact ⟨fun _ _ => vl_str (by decide), nw (by decide +kernel), .str "3", shw_sc rfl (by unfold Fine; decide +kernel)⟩
  · exact ⟨fun _ _ => vl_str (by decide), nw (by decide +kernel), .str "a", shw_sc rfl (by unfold Fine; decide +kernel)⟩
  · exact ⟨fun H s => vl_lst (s _ _ e), rfl, .list [.str "1"], shw_lst e (fun H => .cons (dq_sc rfl) .nil) (by unfold Fine; decide +kernel)⟩
  · have sz : (other ++ "0").length = other.cps.size + 1 := by
      show (other ++ "0").cps.size = _
      rw [← Array.length_toList, app_list, List.length_append, Array.length_toList]
      rfl
    refine bad_dig (fun c hc => ?_) (by omega) (by rw [sz]; show _ ≠ one.cps.size; omega)
    rw [app_list, List.mem_append] at hc
    rcases hc with hc | hc
    · have := d2 c hc; omega
    · have : c = 48 := by simpa using (show c ∈ [48] from hc)
      omega
  · have sz : (cutS one (some 1) none ++ "00").length = (one.cps.size - 1) + 2 := by
      show (cutS one (some 1) none ++ "00").cps.size = _
      rw [← Array.length_toList, app_list, List.length_append, cut1, List.length_drop, Array.length_toList]
      rfl
    refine bad_dig (fun c hc => ?_) (by omega) (by rw [sz]; show _ ≠ one.cps.size; omega)
    rw [app_list, List.mem_append, cut1] at hc
    rcases hc with hc | hc
    · have := d1 c (List.mem_of_mem_drop hc); omega
    · have : c = 48 := by simpa using (show c ∈ [48, 48] from hc)
      omega
  · exact ⟨fun _ _ => vl_str (by decide +kernel), nw (by decide +kernel), .str (rep1 "1"), shw_sc rfl (by unfold Fine; decide +kernel)⟩
end
end Kpa
namespace Kpa
open PySem L2 Gd
open Kone (Pen Keep spPen spDraw spPick TxtD same_new)
section
variable {K : PySem.W.Frag} {S CW : Addr} {Q : VK} {H0 G : Hp} {v : V} {D : PyData}
theorem h_word (x : PySem.W.exmOne K (.ref CW) (.ref S) = some true) (h : Shw G v D) (s : Same G H0) (k : ∀ (t : Addr) (H1 : Hp), Same H0 H1 → H0 t = none → H1 t = some (.tup [.str "word", .str D.shown]) → Q (.ref t) H1) : Rz CW v H0 (Hears K S CW Q) :=
  ⟨D, (h.1 H0 s).1, fun d H' v' s' hd e q => ⟨CW, d, [("value", v')], _, rfl, rfl, e, ⟨rfl, v', D, rfl, ⟨q, (h.1 H0 s).2⟩, rfl⟩, x, fun t H1 s1 ht e1 => k t H1 (s'.trans s1) (s'.free ht) e1⟩⟩
/-! ### what is compared at the end -/
def tupD (it : List Str) : PyData := .tuple (it.map PyData.str)
theorem dp_tups {Hn : Hp} : ∀ {ts : List Addr} {its : List (List Str)}, Paired (fun t (it : List Str) => Hn t = some (.tup (it.map V.str))) ts its → DpAll K Hn (ts.map V.ref) (its.map tupD)
  | _, _, .nil => .nil
  | _, _, .cons h r => .cons (.tup (SqT.of h) (dp_strs _)) (dp_tups r)
theorem eqv_tups : ∀ its : List (List Str), PyData.eqvAll (its.map tupD) (its.map tupD) = true
  | [] => rfl
  | it :: r => by
    show ((tupD it).eqv (tupD it) && PyData.eqvAll _ _) = true
    rw [show (tupD it).eqv (tupD it) = true from eqvt_strs it, eqv_tups r]
    rfl
theorem lay_tups : ∀ its : List (List Str), (∀ it, it ∈ its → ∀ x, x ∈ it → PyData.strOk x = true) → PyData.canLayAll0 (its.map tupD) = true
  | [], _ => rfl
  | it :: r, h => by
    have h1 := lay_strs it (h it (List.mem_cons_self ..))
    have h2 := lay_tups r fun y hy => h y (List.mem_cons_of_mem _ hy)
    simp [tupD, PyData.canLayAll0, PyData.canLay0] at h1 h2 ⊢
    exact ⟨h1, h2⟩
theorem dep_tups : ∀ its : List (List Str), PyData.depthAll (its.map tupD) ≤ 1
  | [] => Nat.zero_le _
  | it :: r => by
    have h2 := dep_tups r
    have h1 := dep_strs it
    simp [tupD, PyData.depthAll, PyData.depth] at h1 h2 ⊢
    omega
theorem sh_tups (its : List (List Str)) (h : ∀ it, it ∈ its → ∀ x, x ∈ it → PyData.strOk x = true) : SeqAt.shaped (.list (its.map tupD)) = true := by
  have h1 := lay_tups its h
  have h2 := dep_tups its
  simp [SeqAt.shaped, PyData.canLay0, PyData.depth, h1]
  omega
end
theorem at_zero {v : V} {r : List V} : atI (v :: r) 0 = some v := by
  unfold atI ixN
  rw [if_pos (by decide), if_pos (by simp)]
  rfl
theorem at_one {a b : V} {r : List V} : atI (a :: b :: r) 1 = some b := by
  unfold atI ixN
  rw [if_pos (by decide), if_pos (by simp; omega)]
  rfl
/-! ### a word parted and paired again -/
theorem chk_two {c : Nat} (h : c = 48 ∨ c = 49) : chk 2 c = true := by
  rcases h with rfl | rfl <;> decide +kernel
theorem zip_back : ∀ (l : List Nat), (∀ c ∈ l, 48 ≤ c ∧ c < 52) → List.zipWith pc (l.map hiC) (l.map loC) = l
  | [], _ => rfl
  | c :: r, h => by
    have h1 := h c (List.mem_cons_self ..)
    rw [List.map_cons, List.map_cons, List.zipWith_cons_cons, zip_back r fun d hd => h d (List.mem_cons_of_mem _ hd)]
    have e : pc (hiC c) (loC c) = c := by
      unfold pc hiC loC
      omega
    rw [e]
theorem part_back {x : Str} (h : isWd 4 (.str x) = true) : isWd 2 (.str (hiS x)) = true ∧ isWd 2 (.str (loS x)) = true ∧ (loS x).cps.size = (hiS x).cps.size ∧ pairS (hiS x) (loS x) = x := by
  have hz := (wd_dig (by decide) (by decide) h).1
  have hd := so_dig (by decide) (by decide) h
  refine ⟨?_, ?_, ?_, ?_⟩
  · show (decide ((hiS x).cps.size ≤ 100) && (hiS x).cps.toList.all (chk 2)) = true
    rw [Bool.and_eq_true, decide_eq_true_eq, List.all_eq_true]
    refine ⟨?_, fun c hc => ?_⟩
    · show (x.cps.toList.map hiC).toArray.size ≤ 100
      rw [List.size_toArray, List.length_map, Array.length_toList]
      exact hz
    · obtain ⟨a, ha, rfl⟩ := List.mem_map.mp (show c ∈ x.cps.toList.map hiC from hc)
      have := hd a ha
      refine chk_two ?_
      unfold hiC
      omega
  · show (decide ((loS x).cps.size ≤ 100) && (loS x).cps.toList.all (chk 2)) = true
    rw [Bool.and_eq_true, decide_eq_true_eq, List.all_eq_true]
    refine ⟨?_, fun c hc => ?_⟩
    · show (x.cps.toList.map loC).toArray.size ≤ 100
      rw [List.size_toArray, List.length_map, Array.length_toList]
      exact hz
    · obtain ⟨a, ha, rfl⟩ := List.mem_map.mp (show c ∈ x.cps.toList.map loC from hc)
      have := hd a ha
      refine chk_two ?_
      unfold loC
      omega
  · show (x.cps.toList.map loC).toArray.size = (x.cps.toList.map hiC).toArray.size
    simp
  · refine str_of_list ?_
    show List.zipWith pc (x.cps.toList.map hiC) (x.cps.toList.map loC) = _
    exact zip_back _ hd
section
variable {K : PySem.W.Frag} {CW : Addr} {H : Hp} {Q : VK} {E : XK}
theorem pw_ok {x y : Str} (hx : isWd 2 (.str x) = true) (hy : isWd 2 (.str y) = true) (el : y.cps.size = x.cps.size) (k : ∀ H', Same H H' → Q (.str (pairS x y)) H') : PwO CW (.str x) (.str y) H Q E := by
  unfold PwO
  rw [if_pos hx, if_pos (show (isWd 2 (.str y) && lenEq (.str x) (.str y)) = true by rw [hy]; exact decide_eq_true el)]
  intro x' y' H' e1 e2 s
  cases e1
  cases e2
  exact k H' s
theorem pw_odd {v u : V} (b : isWd 2 v = false) (h : Rz CW v H E) : PwO CW v u H Q E := by
  unfold PwO
  rw [b, if_neg Bool.false_ne_true]
  exact h
theorem pw_bad {x : Str} {u : V} (hx : isWd 2 (.str x) = true) (b : (isWd 2 u && lenEq (.str x) u) = false) (h : Rz CW u H E) : PwO CW (.str x) u H Q E := by
  unfold PwO
  rw [if_pos hx, b, if_neg Bool.false_ne_true]
  exact h
theorem pt_okS {x : Str} (hx : isWd 4 (.str x) = true) (k : ∀ (t : Addr) H', Same H H' → H t = none → H' t = some (.tup [.str (hiS x), .str (loS x)]) → Q (.ref t) H') : PtO CW (.str x) H Q E := by
  unfold PtO
  rw [if_pos hx]
  intro x' t H' e1 s h0 h1
  cases e1
  exact k t H' s h0 h1
theorem pt_odd {v : V} (b : isWd 4 v = false) (h : Rz CW v H E) : PtO CW v H Q E := by
  unfold PtO
  rw [b, if_neg Bool.false_ne_true]
  exact h
end
end Kpa
namespace Kpa
open PySem L2 Gd
open Kone (Pen Keep spPen spDraw spPick TxtD same_new)
abbrev NL : List Str := ["_law_script", "_law_turn", "_law_length", "_law_other", "_law_four", "_law_heard_here", "_law_bad", "_law_odd", "_law_one", "_law_pen_here"]
theorem scLaw : FnScope NL ["_law_script"] (defScope sLaw) := ⟨rfl, rfl, rfl, by decide +kernel, rfl, by decide +kernel, by decide +kernel⟩
def spLaw (K : PySem.W.Frag) (Pt : Addr) : Sp := fun vs H Q _ => ∃ (a : Addr) (ns : List Int), vs = [.ref a] ∧ SqL K H a (ns.map V.int) ∧ LamX.Tabs (TL Pt) H ∧ ∀ H', Q (.bl true) H'
section
variable {P : Program} {w : World} {K : PySem.W.Frag} {mg : Str → Option Value} {base : Heap} {S CB CW fI fB fH fKB fIW fNO fPW fPt aB fD fP fWo : Addr} {dI dB dH dKB dIW dNO dPW dPt dD dP dWo : FuncData}
theorem ok_law (D : Lp P w K mg base S CB CW fI fB fH fKB fIW fNO fPW fPt aB fD fP fWo dI dB dH dKB dIW dNO dPW dPt dD dP dWo) (TH : Her K mg S CW) (HX : PySem.W.exmOne K (.ref CW) (.ref S) = some true)
    {fG fR fN fL c Pt : Addr} {dR dN : FuncData} {ocG : Value} {odG anG : Option Addr} {oslG : Array (Option Value)} {kVG dcG pmG cdG ctG : Value} {oc : Value} {od an : Option Addr} {osl : Array (Option Value)} {kV dc pm ct : Value}
    (UN : Def K mg "_law_pen" sPen ["_law_script"] fN dN) (UR : Def K mg "_law_right" sRight ["_law_one", "_law_other"] fR dR)
    (gG : mg "_law_heard" = some (.ref fG)) (kG : PySem.W.keepIn K (.ref fG) = true) (lkG : K.lookup fG = some ⟨ocG, odG, .func (PySem.W.fnOf "_law_heard" "_law_heard" (defArgs sHeard) (defBody sHeard) (defScope sHeard) .none kVG dcG pmG anG cdG ctG), oslG⟩) (hcG : PySem.W.codeIn K cdG "_law_heard" = true)
    (bG : Binds K (PySem.W.fnOf "_law_heard" "_law_heard" (defArgs sHeard) (defBody sHeard) (defScope sHeard) .none kVG dcG pmG anG cdG ctG) ["_law_ask"] [])
    (lk : K.lookup fL = some ⟨oc, od, .func (PySem.W.fnOf "law" "law" (defArgs sLaw) (defBody sLaw) (defScope sLaw) .none kV dc pm an (.ref c) ct), osl⟩) (hcd : PySem.W.codeIn K (.ref c) "law" = true)
    (TB : LamX.TabB base mg c Pt) : FnG P w K mg base CX0 11 fL (PySem.W.fnOf "law" "law" (defArgs sLaw) (defBody sLaw) (defScope sLaw) .none kV dc pm an (.ref c) ct) ["_law_script"] (spLaw K Pt) := by
  have T := D.d.t
  have GN : FnOk P w K mg base CX0 1 fN dN ["_law_script"] (spPen K) := ok_pen UN.F D.t
  have GR : FnG P w K mg base CX0 9 fR dR ["_law_one", "_law_other"] spRight := ok_right D UR.F
  have GK : FnOk P w K mg base CX0 2 fP dP ["_law_pen_here", "_law_some"] spPick := ok_pick D.p.F D.t D.dr
  have GW : FnOk P w K mg base CX0 3 fWo dWo ["_law_pen_here", "_law_signs", "_law_length"] spWord := ok_word D.wo.F T D.t D.p D.dr
  have GP : FnOk P w K mg base (L2.CX P w) 8 fPW dPW ["one", "other"] (spPW K CW) := ok_PW D.d D.pw.F
  have GT : FnOk P w K mg base (L2.CX P w) 8 fPt dPt ["word"] (spPt K CW) := ok_Pt D.d D.b D.pt.F
  refine fnG_at lk hcd scLaw (fun vs H Q E h => ?_) (fun A outer s H vs Q E hG hr h => ?_)
  · obtain ⟨a, ns, rfl, _⟩ := h
    rfl
  · obtain ⟨a, ns, rfl, hS, hT, k⟩ := h
    have hr2 := hr.mono (show 2 ≤ 10 by decide)
    have hr3 := hr.mono (show 3 ≤ 10 by decide)
    have hr8 := hr.mono (show 8 ≤ 10 by decide)
    have hr9 := hr.mono (show 9 ≤ 10 by decide)
    have hGd : (A.deeper (PyProof.Rows.envOfC "law" (defScope sLaw) s.heap.objs.size fL (.ref c))).guards = some [] := hG
    have hud := hr.units
    refine ⟨_, (pss_cons (ps_set (i := 9) scLaw.nd rfl (Or.inr rfl) (pe_call GN (hr.mono (by decide)) rfl UN.g UN.k UN.b .nil pass0 (pa_cons (pv 0) pa_nil)))
      (pss_cons (ps_for PassesOwn.never rfl (pi_range1 rfl T.range (pa_cons pe_int pa_nil)) (pg_name (i := 1) scLaw.nd rfl (Or.inl rfl))
        (pss_cons (ps_set (i := 2) scLaw.nd rfl (Or.inl rfl) (pe_call GK hr2 rfl D.p.g D.p.k D.p.b .nil pass0 (pa_cons (pv 9) (pa_cons (pe_lst (pa_cons pe_int (pa_cons pe_int (pa_cons pe_int (pa_cons pe_int (pa_cons pe_int (pa_cons pe_int pa_nil))))))) pa_nil))))
        (pss_cons (ps_asg (pe_tup (pa_cons (pe_call GW hr3 rfl D.wo.g D.wo.k D.wo.b .nil pass0 (pa_cons (pv 9) (pa_cons pe_str (pa_cons (pv 2) pa_nil)))) (pa_cons (pe_call GW hr3 rfl D.wo.g D.wo.k D.wo.b .nil pass0 (pa_cons (pv 9) (pa_cons pe_str (pa_cons (pv 2) pa_nil)))) (pa_cons (pe_call GW hr3 rfl D.wo.g D.wo.k D.wo.b .nil pass0 (pa_cons (pv 9) (pa_cons pe_str (pa_cons (pv 2) pa_nil)))) pa_nil))))
            (pg_tup (by rfl) (pgs_cons (pg_name (i := 8) scLaw.nd rfl (Or.inr rfl)) (pgs_cons (pg_name (i := 3) scLaw.nd rfl (Or.inl rfl)) (pgs_cons (pg_name (i := 4) scLaw.nd rfl (Or.inl rfl)) pgs_nil)))))
        (pss_cons (ps_if (PW.pt (pw_or (pt_not (pt_val (pe_callG GR hGd hr9 rfl UR.g UR.k UR.b pass0 (pa_cons (pv 8) (pa_cons (pv 3) pa_nil)))))
            (pw_or1 (pt_cmpR op_ne (pe_callS (E := EN) GP hr8 rfl D.pw.g D.pw.k D.pw.b passN (pa_cons (pe_ix ix_tup (pe_callS (E := EN) GT hr8 rfl D.pt.g D.pt.k D.pt.b passN (pa_cons (pv 4) pa_nil)) pe_int (fun _ _ => rfl)) (pa_cons (pe_ix ix_tup (pe_callS (E := EN) GT hr8 rfl D.pt.g D.pt.k D.pt.b passN (pa_cons (pv 4) pa_nil)) pe_int (fun _ _ => rfl)) pa_nil))) (pv 4) (nomark _))))) (pss_one (ps_ret pe_bl)) pss_nil)
        (pss_cons (ps_set (i := 7) scLaw.nd rfl (Or.inr rfl) (pe_call GK hr2 rfl D.p.g D.p.k D.p.b .nil pass0 (pa_cons (pv 9) (pa_cons (pe_lst (pa_cons pe_non (pa_cons pe_int (pa_cons pe_bl (pa_cons pe_str (pa_cons pe_str (pa_cons (pe_tup (pa_cons pe_str pa_nil)) (pa_cons (pe_lst (pa_cons pe_str pa_nil)) (pa_cons pe_dnewK (pa_cons (pe_op op_rep1 pe_str pe_int) pa_nil)))))))))) pa_nil))))
        (pss_cons (ps_set (i := 6) scLaw.nd rfl (Or.inr rfl) (pe_call GK hr2 rfl D.p.g D.p.k D.p.b .nil pass0 (pa_cons (pv 9) (pa_cons (pe_lst (pa_cons pe_non (pa_cons pe_int (pa_cons pe_str (pa_cons pe_str (pa_cons (pe_lst (pa_cons pe_str pa_nil)) (pa_cons (pe_op op_add_str (pv 3) pe_str) (pa_cons (pe_op op_add_str (pe_slice sl_str (pv 8) (po_some pe_int) po_none) pe_str) (pa_cons (pe_op op_rep1 pe_str pe_int) pa_nil))))))))) pa_nil))))
        (pss_cons (ps_set (i := 5) scLaw.nd rfl (Or.inl rfl) (pe_lst (pa_cons (LamX.pe_lamcall (T := TL Pt) (TT := THeard K S CW) (P := Pt) (c := c) (k := 8) rfl gG kG lkG hcG bG scHeard rfl (Or.inl rfl) (heard_gives (X := (cxOf CX0 P w K mg base NL "law" (defScope sLaw) fL (.ref c) A outer s H E).nox) ?g1 ?u1 TH) TB rfl ?m1 ?un1 hr (LamX.lamS_by (by show LamX.lamSB (defScope sLaw) _ = true; decide +kernel)) rfl (fun _ _ _ _ _ => rfl) (fun A2 outer2 s2 H2 E2 f c' hr2 => pe_callS GP hr2 rfl D.pw.g D.pw.k D.pw.b (fun σ => passAt (takes_of rfl rfl rfl rfl) σ) (pa_cons (pv 7) (pa_cons (pv 6) pa_nil)))) pa_nil)))
        (pss_cons (ps_expr (pe_bm PySem.F.plainAttrs_list PySem.F.slot_list_append PySem.F.type_list_append mt_append (pv 5) (pa_cons (LamX.pe_lamcall (T := TL Pt) (TT := THeard K S CW) (P := Pt) (c := c) (k := 8) rfl gG kG lkG hcG bG scHeard rfl (Or.inl rfl) (heard_gives (X := (cxOf CX0 P w K mg base NL "law" (defScope sLaw) fL (.ref c) A outer s H E).nox) ?g2 ?u2 TH) TB rfl ?m2 ?un2 hr (LamX.lamS_by (by show LamX.lamSB (defScope sLaw) _ = true; decide +kernel)) rfl (fun _ _ _ _ _ => rfl) (fun A2 outer2 s2 H2 E2 f c' hr2 => pe_callS GP hr2 rfl D.pw.g D.pw.k D.pw.b (fun σ => passAt (takes_of rfl rfl rfl rfl) σ) (pa_cons (pv 8) (pa_cons (pv 6) pa_nil)))) pa_nil)))
        (pss_cons (ps_expr (pe_bm PySem.F.plainAttrs_list PySem.F.slot_list_append PySem.F.type_list_append mt_append (pv 5) (pa_cons (LamX.pe_lamcall (T := TL Pt) (TT := THeard K S CW) (P := Pt) (c := c) (k := 8) rfl gG kG lkG hcG bG scHeard rfl (Or.inl rfl) (heard_gives (X := (cxOf CX0 P w K mg base NL "law" (defScope sLaw) fL (.ref c) A outer s H E).nox) ?g3 ?u3 TH) TB rfl ?m3 ?un3 hr (LamX.lamS_by (by show LamX.lamSB (defScope sLaw) _ = true; decide +kernel)) rfl (fun _ _ _ _ _ => rfl) (fun A2 outer2 s2 H2 E2 f c' hr2 => pe_callS GT hr2 rfl D.pt.g D.pt.k D.pt.b (fun σ => passAt (takes_of rfl rfl rfl rfl) σ) (pa_cons (pe_call GK (hr2.mono (by decide)) rfl D.p.g D.p.k D.p.b .nil pass0 (pa_cons (pv 9) (pa_cons (pe_lst (pa_cons pe_str pa_nil)) pa_nil))) pa_nil))) pa_nil)))
        (pss_cons (ps_if (pt_cmpR (op_neD hr.units) (pv 5) (pe_lst (pa_cons (pe_tup (pa_cons pe_str (pa_cons (pe_callB (call_repr hGd hud) (by rfl) TH.rp bootRepr (pa_cons (pv 7) pa_nil)) pa_nil))) (pa_cons (pe_tup (pa_cons pe_str (pa_cons (pe_callB (call_repr hGd hud) (by rfl) TH.rp bootRepr (pa_cons (pv 6) pa_nil)) pa_nil))) (pa_cons (pe_tup (pa_cons pe_str (pa_cons pe_str pa_nil))) pa_nil)))) (nomark _)) (pss_one (ps_ret pe_bl)) pss_nil)
        (pss_cons (ps_set (i := 7) scLaw.nd rfl (Or.inr rfl) (pe_call GK hr2 rfl D.p.g D.p.k D.p.b .nil pass0 (pa_cons (pv 9) (pa_cons (pe_lst (pa_cons pe_non (pa_cons pe_int (pa_cons pe_bl (pa_cons pe_str (pa_cons pe_str (pa_cons (pe_tup (pa_cons pe_str pa_nil)) (pa_cons (pe_lst (pa_cons pe_str pa_nil)) (pa_cons pe_dnewK (pa_cons (pe_op op_rep1 pe_str pe_int) pa_nil)))))))))) pa_nil))))
        (pss_one (ps_if (pt_cmpR (op_neD hr.units) (LamX.pe_lamcall (T := TL Pt) (TT := THeard K S CW) (P := Pt) (c := c) (k := 8) rfl gG kG lkG hcG bG scHeard rfl (Or.inl rfl) (heard_gives (X := (cxOf CX0 P w K mg base NL "law" (defScope sLaw) fL (.ref c) A outer s H E).nox) ?g4 ?u4 TH) TB rfl ?m4 ?un4 hr (LamX.lamS_by (by show LamX.lamSB (defScope sLaw) _ = true; decide +kernel)) rfl (fun _ _ _ _ _ => rfl) (fun A2 outer2 s2 H2 E2 f c' hr2 => pe_callS GT hr2 rfl D.pt.g D.pt.k D.pt.b (fun σ => passAt (takes_of rfl rfl rfl rfl) σ) (pa_cons (pv 7) pa_nil))) (pe_tup (pa_cons pe_str (pa_cons (pe_callB (call_repr hGd hud) (by rfl) TH.rp bootRepr (pa_cons (pv 7) pa_nil)) pa_nil))) (nomark _)) (pss_one (ps_ret pe_bl)) pss_nil)))))))))))))
      (pss_one (ps_ret (pe_and (pe_cmpR (op_eqD hr.units) (pe_callS (E := EN) GT hr8 rfl D.pt.g D.pt.k D.pt.b passN (pa_cons pe_str pa_nil)) (pe_tup (pa_cons pe_str (pa_cons pe_str pa_nil))) (nomark _))
        (pe_and (pe_cmpR op_eq (pe_callS (E := EN) GP hr8 rfl D.pw.g D.pw.k D.pw.b passN (pa_cons pe_str (pa_cons pe_str pa_nil))) pe_str (nomark _))
        (pe_one (pe_cmpR op_eq (pe_callS (E := EN) GP hr8 rfl D.pw.g D.pw.k D.pw.b passN (pa_cons pe_str (pa_cons pe_str pa_nil))) pe_str (nomark _))))))))), ?_⟩
    case g1 => exact hG
    case u1 => exact (hr.deeper _).units
    case m1 => exact List.mem_singleton.mpr rfl
    case un1 =>
      intro p hp _
      rw [List.mem_singleton.mp hp]
      rfl
    case g2 => exact hG
    case u2 => exact (hr.deeper _).units
    case m2 => exact List.mem_singleton.mpr rfl
    case un2 =>
      intro p hp _
      rw [List.mem_singleton.mp hp]
      rfl
    case g3 => exact hG
    case u3 => exact (hr.deeper _).units
    case m3 => exact List.mem_singleton.mpr rfl
    case un3 =>
      intro p hp _
      rw [List.mem_singleton.mp hp]
      rfl
    case g4 => exact hG
    case u4 => exact (hr.deeper _).units
    case m4 => exact List.mem_singleton.mpr rfl
    case un4 =>
      intro p hp _
      rw [List.mem_singleton.mp hp]
      rfl
    refine ⟨_, rfl, a, ns, rfl, hS, fun H1 p cc s1 pen1 => ?_⟩
    refine gset (σ2 := [some (.ref a), none, none, none, none, none, none, none, none, some (.ref p)]) rfl ?_
    refine ⟨6, rfl, by decide, by decide, for_range (n := 6) (fun i σ G => Pen G p cc (i * 400) ∧ LamX.Tabs (TL Pt) G ∧ ∃ v1 v2 v3 v4 v5 v6 v7 v8, σ = [some (.ref a), v1, v2, v3, v4, v5, v6, v7, v8, some (.ref p)]) ?_ ?_ ?_⟩
    · exact ⟨pen1, hT.ext s1, none, none, none, none, none, none, none, none, rfl⟩
    · rintro i σ G hi ⟨pen, tab, v1, v2, v3, v4, v5, v6, v7, v8, rfl⟩
      refine gset (σ2 := [some (.ref a), some (.int (0 + (i : Int))), v2, v3, v4, v5, v6, v7, v8, some (.ref p)]) rfl ?_
      have hpp : ∃ xs, G p = some (.lst xs) := by
        obtain ⟨_, _, _, e, _⟩ := pen
        exact ⟨_, e⟩
      obtain ⟨xp, hpp⟩ := hpp
      -- the length
      refine ⟨_, rfl, by show 6 ≤ sizeLine; decide, fun l hl => ?_⟩
      have lp : l ≠ p := (ne_of_none hpp hl).symm
      have sl := same_new (o := .lst [.int 0, .int 1, .int 2, .int 3, .int 8, .int 100]) hl
      refine ⟨p, cc, l, i * 400, _, rfl, pen.keep sl, by omega, upd_same, lp, by show 0 < 6; decide, by show 6 < 1000; decide, fun H2 ln kp2 pen2 hx => ?_⟩
      have tab2 : LamX.Tabs (TL Pt) H2 := Tabs.keep (tab.ext sl) (sl _ _ hpp) kp2
      obtain ⟨m, rfl, hm⟩ : ∃ m : Nat, ln = .int (m : Int) ∧ m ≤ 100 := by
        simp only [List.mem_cons, List.not_mem_nil, or_false] at hx
        rcases hx with rfl | rfl | rfl | rfl | rfl | rfl
        · exact ⟨0, rfl, by decide⟩
        · exact ⟨1, rfl, by decide⟩
        · exact ⟨2, rfl, by decide⟩
        · exact ⟨3, rfl, by decide⟩
        · exact ⟨8, rfl, by decide⟩
        · exact ⟨100, rfl, by decide⟩
      refine gset (σ2 := [some (.ref a), some (.int (0 + (i : Int))), some (.int (m : Int)), v3, v4, v5, v6, v7, v8, some (.ref p)]) rfl ?_
      have sg2 : ∀ z, z ∈ ("01" : Str).cps.toList → chk 2 z = true := by decide +kernel
      have sg4 : ∀ z, z ∈ ("0123" : Str).cps.toList → chk 4 z = true := by decide +kernel
      have pl : ∀ {Ga Gb : Hp}, Keep p Ga Gb → (∃ xs, Ga p = some (.lst xs)) → LamX.Tabs (TL Pt) Ga → LamX.Tabs (TL Pt) Gb := fun k ⟨_, e⟩ t => Tabs.keep t e k
      have pat : ∀ {Ga : Hp} {n : Nat}, Pen Ga p cc n → ∃ xs, Ga p = some (.lst xs) := fun q => by
        obtain ⟨_, _, _, e, _⟩ := q
        exact ⟨_, e⟩
      refine ⟨_, rfl, _, rfl, p, cc, m, i * 400 + 1, "01", 2, rfl, pen2, by omega, hm, by decide, by decide, sg2, fun H3 x kp3 pen3 lx wx => ?_⟩
      refine ⟨_, rfl, _, rfl, p, cc, m, i * 400 + 1 + m, "01", 2, rfl, pen3, by omega, hm, by decide, by decide, sg2, fun H4 y kp4 pen4 ly wy => ?_⟩
      refine ⟨_, rfl, _, rfl, p, cc, m, i * 400 + 1 + m + m, "0123", 4, rfl, pen4, by omega, hm, by decide, by decide, sg4, fun H5 q kp5 pen5 lq wq => ?_⟩
      refine ⟨by show 3 ≤ sizeLine; decide, fun tt htt => ?_⟩
      have tab5 : LamX.Tabs (TL Pt) H5 := pl kp5 (pat pen4) (pl kp4 (pat pen3) (pl kp3 (pat pen2) tab2))
      have s5 : Same H5 (upd H5 tt (.tup [.str x, .str y, .str q])) := same_new htt
      have e5 : upd H5 tt (.tup [.str x, .str y, .str q]) tt = some (.tup [.str x, .str y, .str q]) := upd_same
      replace pen5 := (pen5.keep s5).mono (show i * 400 + 1 + m + m + m ≤ i * 400 + 301 by omega)
      replace tab5 := tab5.ext s5
      generalize upd H5 tt (.tup [.str x, .str y, .str q]) = H6 at e5 pen5 tab5
      refine ⟨tt, _, rfl, SqT.of e5, rfl, _, _, rfl, _, _, rfl, _, _, rfl, rfl, ?_⟩
      -- right
      have el : y.cps.size = x.cps.size := by
        have h1 : x.cps.size = m := lx
        have h2 : y.cps.size = m := ly
        omega
      refine ⟨_, rfl, _, rfl, x, y, rfl, wx, wy, el, fun H7 s7 => ⟨_, rfl, noB rfl ?_⟩⟩
      have zq := (wd_dig (by decide) (by decide) wq).1
      have vq : ∀ G, Vl K G (.str q) := fun G => vl_str (Nat.le_trans (show q.length ≤ 100 from zq) (by decide))
      obtain ⟨wh, wl, eh, eb⟩ := part_back wq
      have vh : ∀ G, Vl K G (.str (hiS q)) := fun G => vl_str (Nat.le_trans (show (hiS q).length ≤ 100 from (wd_dig (by decide) (by decide) wh).1) (by decide))
      have vl : ∀ G, Vl K G (.str (loS q)) := fun G => vl_str (Nat.le_trans (show (loS q).length ≤ 100 from (wd_dig (by decide) (by decide) wl).1) (by decide))
      refine ⟨_, rfl, .str q, rfl, fun G _ => vq G, pt_okS wq (fun t1 H8 s8 _ h8 => ?_)⟩
      refine ⟨t1, _, 0, _, rfl, rfl, SqT.of h8, at_zero, ?_⟩
      refine ⟨_, rfl, .str q, rfl, fun G _ => vq G, pt_okS wq (fun t2 H9 s9 _ h9 => ?_)⟩
      refine ⟨t2, _, 1, _, rfl, rfl, SqT.of h9, at_one, ?_⟩
      refine ⟨_, _, rfl, fun G _ => vh G, fun G _ => vl G, pw_ok wh wl eh (fun H10 s10 => ?_)⟩
      rw [eb]
      refine ⟨_, rfl, rfl, _, rfl, noB (by rw [decide_eq_true rfl]; rfl) ?_⟩
      have sA := ((s7.trans s8).trans s9).trans s10
      replace pen5 := pen5.keep sA
      replace tab5 := tab5.ext sA
      have hp10 := pat pen5
      obtain ⟨xp10, hp10⟩ := hp10
      -- the odd one
      refine ⟨_, rfl, by show 1 ≤ sizeLine; decide, fun u1 hu1 => ?_⟩
      have su1 : Same H10 (upd H10 u1 (.tup [.str "0"])) := same_new hu1
      have eu1 : upd H10 u1 (.tup [.str "0"]) u1 = some (.tup [.str "0"]) := upd_same
      have nu1 : u1 ≠ p := (ne_of_none hp10 hu1).symm
      generalize upd H10 u1 (.tup [.str "0"]) = H11 at su1 eu1
      refine ⟨by show 1 ≤ sizeLine; decide, fun u2 hu2 => ?_⟩
      have su2 : Same H11 (upd H11 u2 (.lst [.str "0"])) := same_new hu2
      have eu2 : upd H11 u2 (.lst [.str "0"]) u2 = some (.lst [.str "0"]) := upd_same
      have nu2 : u2 ≠ p := (ne_of_none (su1 _ _ hp10) hu2).symm
      generalize upd H11 u2 (.lst [.str "0"]) = H12 at su2 eu2
      intro u3 hu3
      have su3 : Same H12 (upd H12 u3 (.dK [])) := same_new hu3
      have eu3 : upd H12 u3 (.dK []) u3 = some (.dK []) := upd_same
      have nu3 : u3 ≠ p := (ne_of_none (su2 _ _ (su1 _ _ hp10)) hu3).symm
      generalize upd H12 u3 (.dK []) = H13 at su3 eu3
      refine ⟨_, rfl, .inl rfl, rfl, by show 9 ≤ sizeLine; decide, fun u4 hu4 => ?_⟩
      have su4 : Same H13 (upd H13 u4 (.lst [.non, .int 0, .bl true, .str "2", .str "01 ", .ref u1, .ref u2, .ref u3, .str (rep1 "0")])) := same_new hu4
      have nu4 : u4 ≠ p := (ne_of_none (su3 _ _ (su2 _ _ (su1 _ _ hp10))) hu4).symm
      have su := ((su1.trans su2).trans su3).trans su4
      refine ⟨p, cc, u4, i * 400 + 301, _, rfl, pen5.keep su, by omega, upd_same, nu4, by show 0 < 9; decide, by show 9 < 1000; decide, fun H14 odd kp14 pen14 hx14 => ?_⟩
      have oddA : Odd K 2 (core [p] H14) odd := odd_menu (core_at (by simp [nu1]) (fun _ z => nomatch z) (kp14 _ _ nu1 (su4 _ _ (su3 _ _ (su2 _ _ eu1))))) (core_at (by simp [nu2]) (fun _ z => nomatch z) (kp14 _ _ nu2 (su4 _ _ (su3 _ _ eu2)))) (core_at (by simp [nu3]) (fun _ z => nomatch z) (kp14 _ _ nu3 (su4 _ _ eu3))) hx14
      have tab14 : LamX.Tabs (TL Pt) H14 := Tabs.keep (tab5.ext su) (su _ _ hp10) kp14
      refine gset (σ2 := [some (.ref a), some (.int (0 + (i : Int))), some (.int (m : Int)), some (.str y), some (.str q), v5, v6, some odd, some (.str x), some (.ref p)]) rfl ?_
      -- the bad one
      have hp14 := pat pen14
      obtain ⟨xp14, hp14⟩ := hp14
      have zx : x.cps.size = m := lx
      have zy : y.cps.size = m := ly
      refine ⟨_, rfl, by show 1 ≤ sizeLine; decide, fun w1 hw1 => ?_⟩
      have sw1 : Same H14 (upd H14 w1 (.lst [.str "1"])) := same_new hw1
      have ew1 : upd H14 w1 (.lst [.str "1"]) w1 = some (.lst [.str "1"]) := upd_same
      have nw1 : w1 ≠ p := (ne_of_none hp14 hw1).symm
      generalize upd H14 w1 (.lst [.str "1"]) = H15 at sw1 ew1
      refine ⟨_, rfl, y, "0", rfl, rfl, Nat.le_trans (show y.cps.size + 1 ≤ 101 by omega) (by decide), ?_⟩
      refine ⟨_, rfl, 1, rfl, x, rfl, Nat.le_trans (show x.cps.size ≤ 100 by omega) (by decide), cutS x (some 1) none, "00", rfl, rfl, Nat.le_trans (show (cutS x (some 1) none).length + 2 ≤ 102 by have := cutS_length x (some 1) none; have h : x.length = m := lx; omega) (by decide), _, rfl, .inr (.inl rfl), rfl, by show 8 ≤ sizeLine; decide, fun w4 hw4 => ?_⟩
      have sw4 : Same H15 (upd H15 w4 (.lst [.non, .int 1, .str "3", .str "a", .ref w1, .str (y ++ "0"), .str (cutS x (some 1) none ++ "00"), .str (rep1 "1")])) := same_new hw4
      have nw4 : w4 ≠ p := (ne_of_none (sw1 _ _ hp14) hw4).symm
      have sw := sw1.trans sw4
      refine ⟨p, cc, w4, _, _, rfl, pen14.keep sw, by omega, upd_same, nw4, by show 0 < 8; decide, by show 8 < 1000; decide, fun H16 bad kp16 pen16 hx16 => ?_⟩
      have badA : Bad K x (core [p] H16) bad := bad_menu wx wy el (core_at (by simp [nw1]) (fun _ z => nomatch z) (kp16 _ _ nw1 (sw4 _ _ ew1))) hx16
      have tab16 : LamX.Tabs (TL Pt) H16 := Tabs.keep (tab14.ext sw) (sw _ _ hp14) kp16
      have oddB := oddA.mono (core_mono ((KeepX.same sw).trans (KeepX.keep (ex := [p]) (by simp) kp16)))
      refine gset (σ2 := [some (.ref a), some (.int (0 + (i : Int))), some (.int (m : Int)), some (.str y), some (.str q), v5, some bad, some odd, some (.str x), some (.ref p)]) rfl ?_
      -- what is heard
      obtain ⟨kvo, wo, Do, so⟩ := oddB
      obtain ⟨kvb, wb, Db, sb⟩ := badA
      refine ⟨tab16, fun H17 x17 T17 H18 Z18 s18 want18 => ?_⟩
      have g18 : Same (core [p] H16) H18 := (core_mono ((KeepX.ext x17).trans (KeepX.same s18))).trans core_sub
      refine ⟨_, rfl, _, rfl, odd, bad, rfl, fun H' s' => kvo H' (g18.trans s'), fun H' s' => kvb H' (g18.trans s'), pw_odd wo (h_word HX so g18 (fun a1 H19 s19 na1 ha1 => ?_))⟩
      refine ⟨by show 1 ≤ sizeLine; decide, fun hl hhl => ?_⟩
      have pen19 := ((Pen.ext pen16 x17).keep s18).keep s19
      have np : hl ≠ p := by
        obtain ⟨_, _, _, e, _⟩ := pen19
        exact (ne_of_none e hhl).symm
      have nc : hl ≠ cc := by
        obtain ⟨_, _, _, _, e, _⟩ := pen19
        exact (ne_of_none e hhl).symm
      have k19 : KeepX [p] H16 H19 := ((KeepX.ext x17).trans (KeepX.same s18)).trans (KeepX.same s19)
      have s20 := same_new (o := .lst [.ref a1]) hhl
      have S20 : Stt p cc hl Pt _ [a1] (upd H19 hl (.lst [.ref a1])) := ⟨pen19.keep s20, ((T17.ext s18).ext s19).ext s20, upd_same, np, nc⟩
      have g20 : Same (core [p] H16) (core [p, hl] (upd H19 hl (.lst [.ref a1]))) := core_grow k19 hhl
      have A1 : core [p, hl] (upd H19 hl (.lst [.ref a1])) a1 = some (.tup [.str "word", .str Do.shown]) := by
        have n1 : a1 ≠ p := by
          obtain ⟨_, _, _, e, _⟩ := pen19
          exact ne_of ha1 e (fun z => nomatch z)
        exact core_at (by simp [n1, ne_of_none ha1 hhl]) (fun _ z => nomatch z) ((upd_ne (ne_of_none ha1 hhl)).trans ha1)
      generalize upd H19 hl (.lst [.ref a1]) = H20 at S20 g20 A1
      replace kvb : ∀ H', Same (core [p, hl] H20) H' → Vl K H' bad := fun H' s' => kvb H' (g20.trans s')
      replace so := so.mono g20
      replace sb := sb.mono g20
      refine gset (σ2 := [some (.ref a), some (.int (0 + (i : Int))), some (.int (m : Int)), some (.str y), some (.str q), some (.ref hl), some bad, some odd, some (.str x), some (.ref p)]) rfl ?_
      -- the second
      refine ⟨_, rfl, .inl ⟨rfl, _, SqL.of S20.lst⟩, S20.tab, fun H21 x21 T21 H22 Z22 s22 want22 => ?_⟩
      have g22 : Same (core [p, hl] H20) H22 := (core_mono ((KeepX.ext x21).trans (KeepX.same s22))).trans core_sub
      have vx : ∀ G, Vl K G (.str x) := fun G => vl_str (Nat.le_trans (show x.cps.size ≤ 100 by omega) (by decide))
      refine ⟨_, rfl, _, rfl, .str x, bad, rfl, fun H' _ => vx H', fun H' s' => kvb H' (g22.trans s'), pw_bad wx wb (h_word HX sb g22 (fun a2 H23 s23 na2 ha2 => ?_))⟩
      have S23 := ((S20.ext x21 T21).same s22).same s23
      obtain ⟨S24, A2⟩ := S23.put ha2
      have g24 : Same (core [p, hl] H20) (core [p, hl] (upd H23 hl (.lst ([a1].map V.ref ++ [.ref a2])))) := core_mono ((((KeepX.ext x21).trans (KeepX.same s22)).trans (KeepX.same s23)).trans (KeepX.put (by simp)))
      refine ⟨hl, _, _, rfl, rfl, S23.lst, by show 1 < sizeLine; decide, ?_⟩
      generalize upd H23 hl (.lst ([a1].map V.ref ++ [.ref a2])) = H24 at S24 A2 g24
      replace S24 : Stt p cc hl Pt _ [a1, a2] H24 := S24
      replace A1 := g24 _ _ A1
      replace so := so.mono g24
      replace sb := sb.mono g24
      -- the third
      refine ⟨_, rfl, .inl ⟨rfl, _, SqL.of S24.lst⟩, S24.tab, fun H25 x25 T25 H26 Z26 s26 want26 => ?_⟩
      have S26 := (S24.ext x25 T25).same s26
      have hp26 := pat S26.pen
      obtain ⟨xp26, hp26⟩ := hp26
      refine ⟨_, rfl, by show 1 ≤ sizeLine; decide, fun l4 hl4 => ?_⟩
      have sl4 : Same H26 (upd H26 l4 (.lst [.str "4"])) := same_new hl4
      have nl4 : l4 ≠ p := (ne_of_none hp26 hl4).symm
      refine ⟨p, cc, l4, _, _, rfl, S26.pen.keep sl4, by omega, upd_same, nl4, by show 0 < 1; decide, by show 1 < 1000; decide, fun H27 four kp27 pen27 hx27 => ?_⟩
      cases List.mem_singleton.mp hx27
      have S27 := (S26.same sl4).pick kp27 pen27
      have k27 : KeepX [p, hl] H24 H27 := (((KeepX.ext x25).trans (KeepX.same s26)).trans (KeepX.same sl4)).trans (KeepX.keep (by simp) kp27)
      refine ⟨.str "4", rfl, fun H' _ => vl_str (by decide), pt_odd (by decide +kernel) (h_word (G := core [p, hl] H27) HX (shw_sc (v := .str "4") (D := .str "4") rfl (by unfold Fine; decide +kernel)) core_sub (fun a3 H28 s28 na3 ha3 => ?_))⟩
      have S28 := S27.same s28
      obtain ⟨S29, A3⟩ := S28.put ha3
      have g29 : Same (core [p, hl] H24) (core [p, hl] (upd H28 hl (.lst ([a1, a2].map V.ref ++ [.ref a3])))) := core_mono ((k27.trans (KeepX.same s28)).trans (KeepX.put (by simp)))
      refine ⟨hl, _, _, rfl, rfl, S28.lst, by show 2 < sizeLine; decide, ?_⟩
      generalize upd H28 hl (.lst ([a1, a2].map V.ref ++ [.ref a3])) = H29 at S29 A3 g29
      replace S29 : Stt p cc hl Pt _ [a1, a2, a3] H29 := S29
      replace A1 := g29 _ _ A1
      replace A2 := g29 _ _ A2
      replace so := so.mono g29
      replace sb := sb.mono g29
      have h4 : (PyData.str "4").shown = "'4'" := by decide +kernel
      rw [h4] at A3
      refine ⟨_, rfl, _, rfl, 2, odd, Do, rfl, (so.1 _ core_sub).1, .inl (so.1 _ core_sub).2.2.2.2, (so.1 _ core_sub).2.1, (so.1 _ core_sub).2.2.1, (so.1 _ core_sub).2.2.2.1, by show 2 ≤ sizeLine; decide, fun z1 hz1 => ?_⟩
      have sz1 : Same H29 (upd H29 z1 (.tup [.str "word", .str Do.shown])) := same_new hz1
      have ez1 : upd H29 z1 (.tup [.str "word", .str Do.shown]) z1 = some (.tup [.str "word", .str Do.shown]) := upd_same
      generalize upd H29 z1 (.tup [.str "word", .str Do.shown]) = Z1 at sz1 ez1
      have sb1 := sb.1 Z1 (core_sub.trans sz1)
      refine ⟨_, rfl, 2, bad, Db, rfl, sb1.1, .inl sb1.2.2.2.2, sb1.2.1, sb1.2.2.1, sb1.2.2.2.1, by show 2 ≤ sizeLine; decide, fun z2 hz2 => ?_⟩
      have sz2 : Same Z1 (upd Z1 z2 (.tup [.str "word", .str Db.shown])) := same_new hz2
      have ez2 : upd Z1 z2 (.tup [.str "word", .str Db.shown]) z2 = some (.tup [.str "word", .str Db.shown]) := upd_same
      generalize upd Z1 z2 (.tup [.str "word", .str Db.shown]) = Z2 at sz2 ez2
      refine ⟨by show 2 ≤ sizeLine; decide, fun z3 hz3 => ?_⟩
      have sz3 : Same Z2 (upd Z2 z3 (.tup [.str "word", .str "'4'"])) := same_new hz3
      have ez3 : upd Z2 z3 (.tup [.str "word", .str "'4'"]) z3 = some (.tup [.str "word", .str "'4'"]) := upd_same
      generalize upd Z2 z3 (.tup [.str "word", .str "'4'"]) = Z3 at sz3 ez3
      refine ⟨by show 3 ≤ sizeLine; decide, fun z4 hz4 => ?_⟩
      have sz4 : Same Z3 (upd Z3 z4 (.lst [.ref z1, .ref z2, .ref z3])) := same_new hz4
      have ez4 : upd Z3 z4 (.lst [.ref z1, .ref z2, .ref z3]) z4 = some (.lst (([z1, z2, z3] : List Addr).map V.ref)) := upd_same
      generalize upd Z3 z4 (.lst [.ref z1, .ref z2, .ref z3]) = Z4 at sz4 ez4
      have all : Same H29 Z4 := ((sz1.trans sz2).trans sz3).trans sz4
      have allc : Same (core [p, hl] H29) Z4 := core_sub.trans all
      have P1 : Paired (fun t (it : List Str) => Z4 t = some (.tup (it.map V.str))) [a1, a2, a3] [["word", Do.shown], ["word", Db.shown], ["word", "'4'"]] := .cons (allc _ _ A1) (.cons (allc _ _ A2) (.cons (allc _ _ A3) .nil))
      have P2 : Paired (fun t (it : List Str) => Z4 t = some (.tup (it.map V.str))) [z1, z2, z3] [["word", Do.shown], ["word", Db.shown], ["word", "'4'"]] := .cons (((sz2.trans sz3).trans sz4) _ _ ez1) (.cons ((sz3.trans sz4) _ _ ez2) (.cons (sz4 _ _ ez3) .nil))
      have oks : ∀ it, it ∈ ([["word", Do.shown], ["word", Db.shown], ["word", "'4'"]] : List (List Str)) → ∀ x, x ∈ it → PyData.strOk x = true := by
        intro it hit x hxi
        have c1 : PyData.strOk "word" = true := by decide +kernel
        have c2 : PyData.strOk "'4'" = true := by decide +kernel
        simp only [List.mem_cons, List.not_mem_nil, or_false] at hit
        rcases hit with rfl | rfl | rfl <;> simp only [List.mem_cons, List.not_mem_nil, or_false] at hxi
        · rcases hxi with rfl | rfl
          · exact c1
          · exact so.2
        · rcases hxi with rfl | rfl
          · exact c1
          · exact sb.2
        · rcases hxi with rfl | rfl
          · exact c1
          · exact c2
      refine ⟨.list (([["word", Do.shown], ["word", Db.shown], ["word", "'4'"]] : List (List Str)).map tupD), .list (([["word", Do.shown], ["word", Db.shown], ["word", "'4'"]] : List (List Str)).map tupD), .lst (SqL.of (all _ _ S29.lst)) (dp_tups P1), .lst (SqL.of ez4) (dp_tups P2), sh_tups _ oks, sh_tups _ oks, _, rfl, ?_⟩
      refine noB (by rw [show (PyData.list (([["word", Do.shown], ["word", Db.shown], ["word", "'4'"]] : List (List Str)).map tupD)).eqv (.list (([["word", Do.shown], ["word", Db.shown], ["word", "'4'"]] : List (List Str)).map tupD)) = true from eqv_tups _]; rfl) ?_
      replace pen5 := S29.pen.keep all
      replace tab5 := S29.tab.ext all
      -- the odd word of base 4
      have hp10 := pat pen5
      obtain ⟨xp10, hp10⟩ := hp10
      refine ⟨_, rfl, by show 1 ≤ sizeLine; decide, fun u1 hu1 => ?_⟩
      have su1 : Same Z4 (upd Z4 u1 (.tup [.str "0"])) := same_new hu1
      have eu1 : upd Z4 u1 (.tup [.str "0"]) u1 = some (.tup [.str "0"]) := upd_same
      have nu1 : u1 ≠ p := (ne_of_none hp10 hu1).symm
      generalize upd Z4 u1 (.tup [.str "0"]) = H11 at su1 eu1
      refine ⟨by show 1 ≤ sizeLine; decide, fun u2 hu2 => ?_⟩
      have su2 : Same H11 (upd H11 u2 (.lst [.str "0"])) := same_new hu2
      have eu2 : upd H11 u2 (.lst [.str "0"]) u2 = some (.lst [.str "0"]) := upd_same
      have nu2 : u2 ≠ p := (ne_of_none (su1 _ _ hp10) hu2).symm
      generalize upd H11 u2 (.lst [.str "0"]) = H12 at su2 eu2
      intro u3 hu3
      have su3 : Same H12 (upd H12 u3 (.dK [])) := same_new hu3
      have eu3 : upd H12 u3 (.dK []) u3 = some (.dK []) := upd_same
      have nu3 : u3 ≠ p := (ne_of_none (su2 _ _ (su1 _ _ hp10)) hu3).symm
      generalize upd H12 u3 (.dK []) = H13 at su3 eu3
      refine ⟨_, rfl, .inr (.inr rfl), rfl, by show 9 ≤ sizeLine; decide, fun u4 hu4 => ?_⟩
      have su4 : Same H13 (upd H13 u4 (.lst [.non, .int 0, .bl true, .str "4", .str "01 ", .ref u1, .ref u2, .ref u3, .str (rep1 "3")])) := same_new hu4
      have nu4 : u4 ≠ p := (ne_of_none (su3 _ _ (su2 _ _ (su1 _ _ hp10))) hu4).symm
      have su := ((su1.trans su2).trans su3).trans su4
      refine ⟨p, cc, u4, _, _, rfl, pen5.keep su, by omega, upd_same, nu4, by show 0 < 9; decide, by show 9 < 1000; decide, fun H14 odd4 kp14 pen14 hx14 => ?_⟩
      have oddA : Odd K 4 (core [p] H14) odd4 := odd4_menu (core_at (by simp [nu1]) (fun _ z => nomatch z) (kp14 _ _ nu1 (su4 _ _ (su3 _ _ (su2 _ _ eu1))))) (core_at (by simp [nu2]) (fun _ z => nomatch z) (kp14 _ _ nu2 (su4 _ _ (su3 _ _ eu2)))) (core_at (by simp [nu3]) (fun _ z => nomatch z) (kp14 _ _ nu3 (su4 _ _ eu3))) hx14
      have tab14 : LamX.Tabs (TL Pt) H14 := Tabs.keep (tab5.ext su) (su _ _ hp10) kp14
      refine gset (σ2 := [some (.ref a), some (.int (0 + (i : Int))), some (.int (m : Int)), some (.str y), some (.str q), some (.ref hl), some bad, some odd4, some (.str x), some (.ref p)]) rfl ?_
      obtain ⟨kv4, wo4, D4, so4⟩ := oddA
      refine ⟨tab14, fun H17 x17 T17 H18 Z18 s18 want18 => ?_⟩
      have g18 : Same (core [p] H14) H18 := (core_mono ((KeepX.ext x17).trans (KeepX.same s18))).trans core_sub
      refine ⟨_, rfl, odd4, rfl, fun H' s' => kv4 H' (g18.trans s'), pt_odd wo4 (h_word HX so4 g18 (fun a1 H19 s19 na1 ha1 => ?_))⟩
      have sh4 := so4.1 H19 (g18.trans s19)
      refine ⟨_, rfl, 2, odd4, D4, rfl, sh4.1, .inl sh4.2.2.2.2, sh4.2.1, sh4.2.2.1, sh4.2.2.2.1, by show 2 ≤ sizeLine; decide, fun z5 hz5 => ?_⟩
      have c1 : PyData.strOk "word" = true := by decide +kernel
      have ok4 : ∀ z, z ∈ (["word", D4.shown] : List Str) → PyData.strOk z = true := by
        intro z hz
        simp only [List.mem_cons, List.not_mem_nil, or_false] at hz
        rcases hz with rfl | rfl
        · exact c1
        · exact so4.2
      refine ⟨.tuple ((["word", D4.shown] : List Str).map PyData.str), .tuple ((["word", D4.shown] : List Str).map PyData.str), .tup (SqT.of (same_new hz5 _ _ ha1)) (dp_strs ["word", D4.shown]), .tup (SqT.of upd_same) (dp_strs ["word", D4.shown]), sht_strs _ ok4, sht_strs _ ok4, _, rfl, ?_⟩
      refine noB (by rw [eqvt_strs]; rfl) ?_
      exact ⟨((((Pen.ext pen14 x17).keep s18).keep s19).keep (same_new hz5)).mono (by omega), ((T17.ext s18).ext s19).ext (same_new hz5), _, _, _, _, _, _, _, _, rfl⟩
    · rintro σ G ⟨pen, tab, v1, v2, v3, v4, v5, v6, v7, v8, rfl⟩
      have v0 : ∀ G, Vl K G (.str "") := fun G => vl_str (by decide)
      refine ⟨.str "", rfl, fun G _ => v0 G, pt_okS (by decide +kernel) (fun t1 G1 s1 _ h1 => ?_)⟩
      rw [show hiS "" = "" by decide +kernel, show loS "" = "" by decide +kernel] at h1
      refine ⟨by show 2 ≤ sizeLine; decide, fun t2 ht2 => ?_⟩
      refine ⟨.tuple ((["", ""] : List Str).map PyData.str), .tuple ((["", ""] : List Str).map PyData.str), .tup (SqT.of (same_new ht2 _ _ h1)) (dp_strs ["", ""]), .tup (SqT.of upd_same) (dp_strs ["", ""]), by decide +kernel, by decide +kernel, _, rfl, yesB (eqvt_strs _) ?_⟩
      refine ⟨.str "", .str "", rfl, fun G _ => v0 G, fun G _ => v0 G, pw_ok (by decide +kernel) (by decide +kernel) rfl (fun G2 s2 => ?_)⟩
      refine ⟨rfl, _, rfl, yesB (by decide +kernel) ?_⟩
      refine ⟨.str "01", .str "11", rfl, fun G _ => vl_str (by decide), fun G _ => vl_str (by decide), pw_ok (by decide +kernel) (by decide +kernel) rfl (fun G3 s3 => ?_)⟩
      refine ⟨rfl, ?_⟩
      rw [show decide (V.str (pairS "01" "11") = V.str "13") = true by decide +kernel]
      exact k _
end
end Kpa
namespace Gd
open PySem PySem.Spec PyProof.Rows L2
section
variable {P : Program} {w : World} {K : PySem.W.Frag} {mg mb : Str → Option Value} {CX : CXT} {k : Nat} {fa a c T : Addr} {fd : FuncData} {x : Str} {sp : Sp} {s : Shared} {vs : List Value} {ns : List Int}
/-- what an empty table of codes is -/
abbrev tab0 : Obj := { cls := .none, data := .fields #[] }
/-- where at most the script's list is tracked, and the table at T -/
structure LoneT (K : PySem.W.Frag) (H : Hp) (a T : Addr) : Prop where
  tb : H T = some (.tbl #[])
  only : ∀ b, H b = none ∨ b = T ∨ ∃ o xs, H b = some (.frz o (.lst xs))
  just : ∀ b u, H b = some u → b = a ∨ b = T
  free : ∀ u, H a = some u → K.lookup a = none
  nT : K.lookup T = none
theorem LoneT.base {H : Hp} (L : LoneT K H a T) (KX : K.In s.heap) : K.In (hidT s.heap H) := by
  intro b o e
  apply hidT_get (KX b o e)
  match q : H b with
  | none => rfl
  | some u =>
    rcases L.just b u q with eb | eb
    · subst eb
      rw [L.free u q] at e
      exact nomatch e
    · subst eb
      rw [L.nT] at e
      exact nomatch e
theorem LoneT.get {H : Hp} (L : LoneT K H a T) {oa : Obj} (ha : s.heap.get? a = some oa) (hT : s.heap.get? T = some tab0) {b : Addr} {o : Obj} (e : s.heap.get? b = some o) (n1 : o ≠ oa) (n2 : o ≠ tab0) : (hidT s.heap H).get? b = some o := by
  refine hidT_get e ?_
  match q : H b with
  | none => rfl
  | some u =>
    rcases L.just b u q with eb | eb
    · subst eb
      rw [ha] at e
      exact absurd (Option.some.inj e).symm n1
    · subst eb
      rw [hT] at e
      exact absurd (Option.some.inj e).symm n2
theorem LoneT.names {H : Hp} (L : LoneT K H a T) (ha : s.heap.get? a = some { cls := .type "list", data := .seq vs.toArray }) (hT : s.heap.get? T = some tab0) {b : Addr} {m : Str → Option Value} (h : s.heap.Ns b m) : (hidT s.heap H).Ns b m := by
  obtain ⟨ob, es, ep, e, d, r⟩ := h
  refine ⟨ob, es, ep, L.get ha hT e (fun z => ?_) (fun z => ?_), d, r⟩
  · rw [z] at d
    exact nomatch d
  · rw [z] at d
    exact nomatch d
end
end Gd
namespace Gd
open PySem PySem.Spec PyProof.Rows L2
section
variable {P : Program} {w : World} {K : PySem.W.Frag} {mg mb : Str → Option Value} {CX : CXT} {k : Nat} {fa a c T : Addr} {fd : FuncData} {x : Str} {sp : Sp} {s : Shared} {vs : List Value} {ns : List Int}
theorem law_atT (KX : K.In s.heap) (hns : s.heap.Ns mainGlobals mg) (hb : s.heap.Ns builtinsNs mb) (hbb : ∀ x : Str, x ≠ "__name__" → mb x = bootBuiltins x) (hlim : s.heap.NoLimit) (hg : s.gens = #[])
    (hT : s.heap.get? T = some tab0) (C : PySem.W.CodeHd s.heap c T)
    (hbm : ∃ (bm : Addr) (ob : Obj), mg "__builtins__" = some (.ref bm) ∧ bm ≠ builtinsNs ∧ s.heap.get? bm = some ob ∧ ob.cls = .type "module" ∧ ob.dict = some builtinsNs ∧ ob.data = .plain)
    (ha : s.heap.get? a = some { cls := .type "list", data := .seq vs.toArray }) (hr : Room k callerA)
    (F : ∀ base : Heap, K.In base → base.Ns mainGlobals mg → LamX.TabB base mg c T → FnG P w K mg base CX k fa fd [x] sp) (hbind : ∀ (s : Shared) (u : Value), BindsTo s fd ⟨[u], []⟩ [(x, u)])
    (hCX : ∀ H e s', CX [] H s (fun _ _ _ => False) e s' → False) {H : Hp} (L : LoneT K H a T) (hok : HOk P w H s.heap) (hsp : sp [.ref a] H (fun v _ => v = .bl true) fun _ _ _ => False) :
    codeAny (model P w) callerA (.call (.ref fa) ⟨[.ref a], []⟩) (fun r s' => r = .ok (.ret (.bool true)) ∧ OldK s.heap s'.heap ∧ s'.os = s.os ∧ AllBare s'.gens) s := by
  have KB := L.base KX
  have NB := L.names ha hT hns
  have lim : (hidT s.heap H).NoLimit := by
    obtain ⟨m, h1, h2⟩ := hlim
    exact ⟨m, L.names ha hT h1, h2⟩
  have none_in : ∀ b : Addr, b ∉ frs ([] : List Env) := fun b z => nomatch (show b ∈ ([] : List Addr) from z)
  have gT : mainGlobals ≠ T := fun z => by
    obtain ⟨o, es, ep, e, d, _⟩ := hns
    rw [z, hT] at e
    rw [← Option.some.inj e] at d
    exact nomatch d
  have TB : LamX.TabB (hidT s.heap H) mg c T := by
    refine ⟨?_, ?_, gT⟩
    · obtain ⟨o, us, q⟩ := C
      obtain ⟨file, tf, flags, tg, inF, text, tt, e1, e2, e3, e4, rest⟩ := q
      refine ⟨o, us, file, tf, flags, tg, inF, text, tt, L.get ha hT e1 (fun z => ?_) (fun z => ?_), e2, e3, e4, rest⟩
      · rw [z] at e3
        exact nomatch e3
      · rw [z] at e2
        exact nomatch e2
    · obtain ⟨bm, ob, b1, b2, b3, b4, b5, b6⟩ := hbm
      refine ⟨bm, ob, b1, b2, fun z => ?_, fun z => ?_, L.get ha hT b3 (fun z => ?_) (fun z => ?_), b4, b5, b6⟩
      · obtain ⟨o, es, ep, e, d, _⟩ := hns
        rw [z, e] at b3
        rw [← Option.some.inj b3, d] at b6
        exact nomatch b6
      · rw [z, hT] at b3
        rw [← Option.some.inj b3] at b6
        exact nomatch b6
      · rw [z] at b6
        exact nomatch b6
      · rw [z] at b6
        exact nomatch b6
  have e0 : Env0 P w K mg (hidT s.heap H) callerA [] s H :=
    { frames := rfl, mod := ⟨KB, NB, ⟨mb, L.names ha hT hb, hbb⟩, lim⟩, bs := fun _ _ e => of_hidT e, bsz := Nat.le_of_eq (hidT_size _ _), funs := trivial, frf := fun b z => absurd z (none_in b), hok := hok, bare := .of_eq hg }
  have go := (F _ KB NB TB).run callerA [] s H ⟨[.ref a], []⟩ [.ref a] [.ref a] _ _ rfl hr e0 (hbind s (.ref a)) (.cons rfl .nil) hsp
  apply codeAny_mono go
  intro r s' h
  match r, h with
  | .error e, h => exact (hCX H e s' h).elim
  | .ok (.ret u), ⟨v, H', os, bare, un, hok', rv, q⟩ =>
    cases (show v = V.bl true from q)
    cases (show u = Value.bool true from rv)
    have other : ∀ b o, b ≠ T → s.heap.get? b = some o → s'.heap.get? b = some o := fun b o nb e => by
      rcases L.only b with n | n | ⟨ob, xs, z⟩
      · exact un.keep b o e n (none_in b) (fun z => nomatch z)
      · exact absurd n nb
      · have e1 : s.heap.get? b = some ob := (show ObjOk P w H s.heap b (.frz ob (.lst xs)) from hok b _ z).1
        have e2 : s'.heap.get? b = some ob := (show ObjOk P w H' s'.heap b (.frz ob (.lst xs)) from hok' b _ (un.frzs b ob _ z)).1
        rw [e1] at e
        rw [e2, ← Option.some.inj e]
    obtain ⟨more, grown⟩ : ∃ more : Array Value, s'.heap.get? T = some { cls := .none, data := .fields more } := by
      obtain ⟨more, z⟩ := un.tbls T #[] L.tb
      exact ⟨_, hok' T _ z⟩
    refine ⟨rfl, ⟨fun b o e => ?_, fun b o e => ?_⟩, os, bare⟩
    · by_cases eb : b = T
      · rw [eb] at e ⊢
        rw [hT] at e
        rw [← Option.some.inj e]
        exact .inr (.inl ⟨(C.tab hT).isCodeTable, rfl, #[], more, rfl, by rw [Array.empty_append]; exact grown⟩)
      · exact .inl (other b o eb e)
    · by_cases eb : b = T
      · rw [eb]
        exact ⟨_, grown⟩
      · exact ⟨o, other b o eb e⟩
  | .ok .next, h => exact (h : False).elim
  | .ok .brk, h => exact (h : False).elim
  | .ok .cont, h => exact (h : False).elim
end
open Classical in
theorem walk_atT {l : PySem.W.OpenLaw} {n k : Nat} {q : Program} {loose : List Str} {XP : (Str → Option Value) → Heap → Prop} {YP : World → Heap → Prop} {d : DefRec} {K : Params → PySem.W.Frag} {CX : CXT} {sp : PySem.W.Frag → Sp} {x : Str} {c T : Addr}
    (hn : l.most = some n) (hn2 : n ≤ sizeLine) (hdf : d.params.defaults = []) (hr : Room k callerA) (hY : ∀ (w : World) (h : Heap), YP w h → (K w.params).In h) (hYT : ∀ (w : World) (h : Heap), YP w h → h.get? T = some tab0)
    (nT : ∀ w : World, (K w.params).lookup T = none) (hC : ∀ w : World, PySem.W.codeHdIn (K w.params) c T = true)
    (F : ∀ (w : World) (mg : Str → Option Value) (fa : Addr) (h : Heap), (K w.params).In h → h.Ns mainGlobals mg → mg d.name = some (.ref fa) →
      ∃ fd : FuncData, (∀ (s : Shared) (u : Value), BindsTo s fd ⟨[u], []⟩ [(x, u)]) ∧
        ∀ base : Heap, (K w.params).In base → base.Ns mainGlobals mg → LamX.TabB base mg c T → FnG l.prog w (K w.params) mg base CX k fa fd [x] (sp (K w.params)))
    (hsp : ∀ (K : PySem.W.Frag) (H : Hp) (a : Addr) (ns : List Int), ns.length ≤ n → H T = some (.tbl #[]) → SqL K H a (ns.map V.int) → sp K [.ref a] H (fun v _ => v = .bl true) fun _ _ _ => False)
    (hCX : ∀ (H : Hp) (s : Shared) (e : Value) (s' : Shared), CX [] H s (fun _ _ _ => False) e s' → False) :
    PySem.W.WalkO q loose XP YP l.row.toRowW d [] (fun f vs => PySem.call f vs) := by
  refine Att.attach_call hn hdf fun w s₀ s₁ mg mb fa o pm cd doc a vs ns G Y ho hd hcd hmg hobj hints hlen hg => ?_
  have KX := hY w _ Y
  have hT := hYT w _ Y
  have C := PySem.W.codeHd_of_K KX (hC w)
  obtain ⟨fd, hb, hF⟩ := F w mg fa _ KX G.T.g hmg
  have rv := vals_ints hints
  have lv : vs.length = ns.length := hints.length
  have aT : a ≠ T := fun z => by
    rw [z, hT] at hobj
    exact nomatch hobj
  by_cases hk : (K w.params).lookup a = none
  · let sc : HO := .frz { cls := .type "list", data := .seq vs.toArray } (.lst (ns.map V.int))
    let H : Hp := fun b => if b = a then some sc else if b = T then some (.tbl #[]) else none
    have ea : H a = some sc := if_pos rfl
    have eT : H T = some (.tbl #[]) := (if_neg aT.symm).trans (if_pos rfl)
    have eo : ∀ b, b ≠ a → b ≠ T → H b = none := fun b n1 n2 => (if_neg n1).trans (if_neg n2)
    have l1 : ∀ b, H b = none ∨ b = T ∨ ∃ ob xs, H b = some (.frz ob (.lst xs)) := fun b => by
      by_cases e : b = a
      · exact .inr (.inr ⟨_, _, by rw [e]; exact ea⟩)
      · by_cases e2 : b = T
        · exact .inr (.inl e2)
        · exact .inl (eo b e e2)
    have l2 : ∀ b u, H b = some u → b = a ∨ b = T := fun b u z => by
      by_cases e : b = a
      · exact .inl e
      · by_cases e2 : b = T
        · exact .inr e2
        · rw [eo b e e2] at z
          exact nomatch z
    have L : LoneT (K w.params) H a T := ⟨eT, l1, l2, fun u z => hk, nT w⟩
    refine law_atT KX G.T.g G.T.b G.T.builtins G.T.nolimit hg hT C G.T.bmain hobj hr hF hb (fun H e s' => hCX H s₁ e s') L (fun b u z => ?_) (hsp _ _ a ns hlen eT (.inl (.inr ⟨_, ea⟩)))
    by_cases e : b = a
    · subst e
      rw [ea] at z
      rw [← Option.some.inj z]
      exact ⟨hobj, by rw [List.length_map]; omega, vs, _, rv, hobj⟩
    · by_cases e2 : b = T
      · subst e2
        rw [eT] at z
        rw [← Option.some.inj z]
        exact hT
      · rw [eo b e e2] at z
        exact nomatch z
  · obtain ⟨ob, hk⟩ := Option.ne_none_iff_exists'.mp hk
    have e := KX a ob hk
    rw [hobj] at e
    cases e
    let H : Hp := fun b => if b = T then some (.tbl #[]) else none
    have eT : H T = some (.tbl #[]) := if_pos rfl
    have eo : ∀ b, b ≠ T → H b = none := fun b n2 => if_neg n2
    have l1 : ∀ b, H b = none ∨ b = T ∨ ∃ ob xs, H b = some (.frz ob (.lst xs)) := fun b => by
      by_cases e2 : b = T
      · exact .inr (.inl e2)
      · exact .inl (eo b e2)
    have l2 : ∀ b u, H b = some u → b = a ∨ b = T := fun b u z => by
      by_cases e2 : b = T
      · exact .inr e2
      · rw [eo b e2] at z
        exact nomatch z
    have l3 : ∀ u, H a = some u → (K w.params).lookup a = none := fun u z => by
      rw [eo a aT] at z
      exact nomatch z
    have L : LoneT (K w.params) H a T := ⟨eT, l1, l2, l3, nT w⟩
    refine law_atT KX G.T.g G.T.b G.T.builtins G.T.nolimit hg hT C G.T.bmain hobj hr hF hb (fun H e s' => hCX H s₁ e s') L (fun b u z => ?_)
      (hsp _ _ a ns hlen eT (.inr ⟨_, vs.toArray, _, hk, rfl, rfl, rfl, by rw [List.size_toArray]; omega, by simpa using rv⟩))
    by_cases e2 : b = T
    · subst e2
      rw [eT] at z
      rw [← Option.some.inj z]
      exact hT
    · rw [eo b e2] at z
      exact nomatch z
end Gd
namespace Kpa
open PySem L2 Gd
theorem d_mk {K : PySem.W.Frag} {x : Str} {st : Stmt} {ps : List Str} {f : Addr} {oc : Value} {od an : Option Addr} {sl : Array (Option Value)} {kV dc pm cd ct : Value}
    (b : ∀ (kV dc pm : Value) (an : Option Addr) (cd ct : Value) (us : List Value), us.length = ps.length → bindArgs (PySem.W.fnOf x x (defArgs st) (defBody st) (defScope st) .none kV dc pm an cd ct) ⟨us, []⟩ = pure (ps.zip us))
    (a : PySem.W.nsIn K mainGlobals x = some (some (.ref f))) (l : K.lookup f = some ⟨oc, od, .func (PySem.W.fnOf x x (defArgs st) (defBody st) (defScope st) .none kV dc pm an cd ct), sl⟩) (c : PySem.W.codeIn K cd x = true) (k : PySem.W.keepIn K (.ref f) = true) :
    ∀ (mg : Str → Option Value) (h : Heap), K.In h → h.Ns mainGlobals mg → ∃ fd, Def K mg x st ps f fd := fun mg h X G => by
  have F := fun_mk (st := st) l c k
  exact ⟨_, PySem.W.mg_of X G a, k, F.binds b, F⟩
theorem kb_sw {K : PySem.W.Frag} {fd : FuncData} {a b : Str} (h : ∀ u w : Value, bindArgs fd ⟨[], [(b, u), (a, w)]⟩ = pure [(a, w), (b, u)]) : KBinds K fd [a, b] [b, a] gSw gSw := by
  constructor
  · intro s us ws X hl
    match us, ws, hl with
    | [], [u, w], _ => exact .of_eq (h u w)
    | [], [], hl => exact nomatch hl
    | [], [_], hl => exact nomatch hl
    | [], _ :: _ :: _ :: _, hl => exact nomatch hl
    | _ :: _, _, hl => exact nomatch hl
  · intro vs us zs ws r q
    match r, q with
    | .nil, .cons q1 (.cons q2 .nil) => exact .cons q2 (.cons q1 .nil)
    | .nil, .nil => exact .nil
    | .nil, .cons _ .nil => exact .nil
    | .nil, .cons _ (.cons _ (.cons _ _)) => exact .nil
    | .cons _ _, _ => exact .nil
theorem kb_one {K : PySem.W.Frag} {fd : FuncData} {a : Str} (h : ∀ u : Value, bindArgs fd ⟨[], [(a, u)]⟩ = pure [(a, u)]) : KBinds K fd [a] [a] gOne gOne := by
  constructor
  · intro s us ws X hl
    match us, ws, hl with
    | [], [u], _ => exact .of_eq (h u)
    | [], [], hl => exact nomatch hl
    | [], _ :: _ :: _, hl => exact nomatch hl
    | _ :: _, _, hl => exact nomatch hl
  · intro vs us zs ws r q
    match r, q with
    | .nil, .cons q1 .nil => exact .cons q1 .nil
    | .nil, .nil => exact .nil
    | .nil, .cons _ (.cons _ _) => exact .nil
    | .cons _ _, _ => exact .nil
theorem dpw_mk {K : PySem.W.Frag} {f : Addr} {oc : Value} {od an : Option Addr} {sl : Array (Option Value)} {kV dc pm cd ct : Value}
    (a : PySem.W.nsIn K mainGlobals "pair_word" = some (some (.ref f))) (l : K.lookup f = some ⟨oc, od, .func (PySem.W.fnOf "pair_word" "pair_word" (defArgs sPair) (defBody sPair) (defScope sPair) .none kV dc pm an cd ct), sl⟩) (c : PySem.W.codeIn K cd "pair_word" = true) (k : PySem.W.keepIn K (.ref f) = true) :
    ∀ (mg : Str → Option Value) (h : Heap), K.In h → h.Ns mainGlobals mg → ∃ fd, Def K mg "pair_word" sPair ["one", "other"] f fd ∧ KBinds K fd ["one", "other"] ["other", "one"] gSw gSw := fun mg h X G => by
  have F := fun_mk (st := sPair) l c k
  exact ⟨_, ⟨PySem.W.mg_of X G a, k, F.binds (fun _ _ _ _ _ _ us hl => match us, hl with | [_, _], _ => rfl), F⟩, kb_sw (fun u w => rfl)⟩
theorem dpt_mk {K : PySem.W.Frag} {f : Addr} {oc : Value} {od an : Option Addr} {sl : Array (Option Value)} {kV dc pm cd ct : Value}
    (a : PySem.W.nsIn K mainGlobals "parted" = some (some (.ref f))) (l : K.lookup f = some ⟨oc, od, .func (PySem.W.fnOf "parted" "parted" (defArgs sParted) (defBody sParted) (defScope sParted) .none kV dc pm an cd ct), sl⟩) (c : PySem.W.codeIn K cd "parted" = true) (k : PySem.W.keepIn K (.ref f) = true) :
    ∀ (mg : Str → Option Value) (h : Heap), K.In h → h.Ns mainGlobals mg → ∃ fd, Def K mg "parted" sParted ["word"] f fd ∧ KBinds K fd ["word"] ["word"] gOne gOne := fun mg h X G => by
  have F := fun_mk (st := sParted) l c k
  exact ⟨_, ⟨PySem.W.mg_of X G a, k, F.binds (fun _ _ _ _ _ _ us hl => match us, hl with | [_], _ => rfl), F⟩, kb_one (fun u => rfl)⟩
theorem b_of {K : PySem.W.Frag} {fd : FuncData} {ps : List Str} (k : KBinds K fd ps [] Kone.gPos Kone.gPos) : Binds K fd ps [] := fun s us X hl => by
  rw [List.append_nil] at hl ⊢
  exact k.to s us [] X hl
section
variable {P : Program} {w : World} {K : PySem.W.Frag} {mg : Str → Option Value} {base : Heap} {S C : Addr} {x : Str}
theorem er_of (c : Kone.XC K mg S x C) (i : Kone.I1 P w K mg base C "value") : Er P w K mg base S x C := by
  obtain ⟨⟨fI, fd, a, t, F, kb, _⟩, no⟩ := i
  exact ⟨c, ⟨fI, fd, a, t, F, b_of kb⟩, no⟩
end
theorem all_mk {P : Program} {w : World} {K : PySem.W.Frag} {h : Heap} {mg : Str → Option Value} {fa S CB CW fI fB fH fKB fIW fNO fPW fPt aB fD fP fWo fN fR fHd fLaw c Pt f_kept : Addr} {td t0 t1 t2 t3 : Tok} {es : Array DictEntry} {nn : Nat}
    {oc2 oc3 : Value} {od2 od3 an2 an3 : Option Addr} {sl2 sl3 : Array (Option Value)} {kV2 dc2 pm2 cd2 ct2 kV3 dc3 pm3 ct3 : Value} (X : K.In h) (G : h.Ns mainGlobals mg) (hfa : mg "law" = some (.ref fa))
    (aS : PySem.W.nsIn K mainGlobals "SumError" = some (some (.ref S)))
    (cB : Kone.CK K S "BadBase" CB) (cW : Kone.CK K S "BadWord" CW)
    (iB : ∀ (P : Program) (w : World) (mg : Str → Option Value) (base : Heap), Kone.TxtK mg → ∀ {fK : Addr} {fdK : FuncData}, Kone.Def K mg "kept" Kone.sKept ["value"] fK fdK → Kone.I1 P w K mg base CB "value")
    (iW : ∀ (P : Program) (w : World) (mg : Str → Option Value) (base : Heap), Kone.TxtK mg → ∀ {fK : Addr} {fdK : FuncData}, Kone.Def K mg "kept" Kone.sKept ["value"] fK fdK → Kone.I1 P w K mg base CW "value")
    (sW : CW ≠ S) (xW : PySem.W.exmOne K (.ref CW) (.ref S) = some true)
    (z_int : PySem.W.nsIn K mainGlobals "int" = some none)
    (z_bool : PySem.W.nsIn K mainGlobals "bool" = some none)
    (z_str : PySem.W.nsIn K mainGlobals "str" = some none)
    (z_len : PySem.W.nsIn K mainGlobals "len" = some none)
    (z_range : PySem.W.nsIn K mainGlobals "range" = some none)
    (z_isinstance : PySem.W.nsIn K mainGlobals "isinstance" = some none)
    (z_list : PySem.W.nsIn K mainGlobals "list" = some none)
    (z_all : PySem.W.nsIn K mainGlobals "all" = some none)
    (z_tuple : PySem.W.nsIn K mainGlobals "tuple" = some none)
    (z_zip : PySem.W.nsIn K mainGlobals "zip" = some none)
    (z_abs : PySem.W.nsIn K mainGlobals "abs" = some none)
    (z_dict : PySem.W.nsIn K mainGlobals "dict" = some none)
    (z_any : PySem.W.nsIn K mainGlobals "any" = some none)
    (z_repr : PySem.W.nsIn K mainGlobals "repr" = some none)
    (z_ValueError : PySem.W.nsIn K mainGlobals "ValueError" = some none)
    (d_kept : ∀ (mg : Str → Option Value) (h : Heap), K.In h → h.Ns mainGlobals mg → ∃ fd, Kone.Def K mg "kept" Kone.sKept ["value"] f_kept fd)
    (aDg : PySem.W.nsIn K mainGlobals "DIGITS" = some (some (.str dgs td)))
    (aBt : PySem.W.nsIn K mainGlobals "BITS" = some (some (.ref aB))) (lBt : K.lookup aB = some ⟨.type "dict", none, .dict es nn, #[]⟩) (kBt : PySem.W.KeysLit w.params es.toList)
    (b0 : PySem.W.nsIn K aB "0" = some (some (.str "00" t0))) (b1 : PySem.W.nsIn K aB "1" = some (some (.str "01" t1))) (b2 : PySem.W.nsIn K aB "2" = some (some (.str "10" t2))) (b3 : PySem.W.nsIn K aB "3" = some (some (.str "11" t3)))
    (d_i : ∀ (mg : Str → Option Value) (h : Heap), K.In h → h.Ns mainGlobals mg → ∃ fd, Def K mg "is_integer" sIsInt ["value"] fI fd)
    (d_b : ∀ (mg : Str → Option Value) (h : Heap), K.In h → h.Ns mainGlobals mg → ∃ fd, Def K mg "is_between" sBetw ["value", "low", "high"] fB fd)
    (d_h : ∀ (mg : Str → Option Value) (h : Heap), K.In h → h.Ns mainGlobals mg → ∃ fd, Def K mg "has_digits" sHas ["text", "base"] fH fd)
    (d_kb : ∀ (mg : Str → Option Value) (h : Heap), K.In h → h.Ns mainGlobals mg → ∃ fd, Def K mg "check_base" sCkBase ["base"] fKB fd)
    (d_iw : ∀ (mg : Str → Option Value) (h : Heap), K.In h → h.Ns mainGlobals mg → ∃ fd, Def K mg "is_word" sIsWord ["value", "base"] fIW fd)
    (d_no : ∀ (mg : Str → Option Value) (h : Heap), K.In h → h.Ns mainGlobals mg → ∃ fd, Def K mg "number_of" sNumOf ["word", "base"] fNO fd)
    (d_ldraw : ∀ (mg : Str → Option Value) (h : Heap), K.In h → h.Ns mainGlobals mg → ∃ fd, Def K mg "_law_draw" sDraw ["_law_pen_here", "_law_many"] fD fd)
    (d_lpick : ∀ (mg : Str → Option Value) (h : Heap), K.In h → h.Ns mainGlobals mg → ∃ fd, Def K mg "_law_pick" sPick ["_law_pen_here", "_law_some"] fP fd)
    (d_lword : ∀ (mg : Str → Option Value) (h : Heap), K.In h → h.Ns mainGlobals mg → ∃ fd, Def K mg "_law_word" sWord ["_law_pen_here", "_law_signs", "_law_length"] fWo fd)
    (d_lpen : ∀ (mg : Str → Option Value) (h : Heap), K.In h → h.Ns mainGlobals mg → ∃ fd, Def K mg "_law_pen" sPen ["_law_script"] fN fd)
    (d_lright : ∀ (mg : Str → Option Value) (h : Heap), K.In h → h.Ns mainGlobals mg → ∃ fd, Def K mg "_law_right" sRight ["_law_one", "_law_other"] fR fd)
    (d_pw : ∀ (mg : Str → Option Value) (h : Heap), K.In h → h.Ns mainGlobals mg → ∃ fd, Def K mg "pair_word" sPair ["one", "other"] fPW fd ∧ KBinds K fd ["one", "other"] ["other", "one"] gSw gSw)
    (d_pt : ∀ (mg : Str → Option Value) (h : Heap), K.In h → h.Ns mainGlobals mg → ∃ fd, Def K mg "parted" sParted ["word"] fPt fd ∧ KBinds K fd ["word"] ["word"] gOne gOne)
    (aHd : PySem.W.nsIn K mainGlobals "_law_heard" = some (some (.ref fHd))) (kHd : PySem.W.keepIn K (.ref fHd) = true) (lHd : K.lookup fHd = some ⟨oc2, od2, .func (PySem.W.fnOf "_law_heard" "_law_heard" (defArgs sHeard) (defBody sHeard) (defScope sHeard) .none kV2 dc2 pm2 an2 cd2 ct2), sl2⟩) (cHd : PySem.W.codeIn K cd2 "_law_heard" = true)
    (aL : PySem.W.nsIn K mainGlobals "law" = some (some (.ref fLaw))) (kL : PySem.W.keepIn K (.ref fLaw) = true) (lL : K.lookup fLaw = some ⟨oc3, od3, .func (PySem.W.fnOf "law" "law" (defArgs sLaw) (defBody sLaw) (defScope sLaw) .none kV3 dc3 pm3 an3 (.ref c) ct3), sl3⟩) (cL : PySem.W.codeIn K (.ref c) "law" = true) :
    ∃ fd : FuncData, (∀ (s : Shared) (u : Value), BindsTo s fd ⟨[u], []⟩ [(("_law_script" : Str), u)]) ∧ ∀ base : Heap, K.In base → base.Ns mainGlobals mg → LamX.TabB base mg c Pt → FnG P w K mg base CX0 11 fa fd ["_law_script"] (spLaw K Pt) := by
  have e := hfa.symm.trans (PySem.W.mg_of X G aL)
  cases e
  obtain ⟨dI, u_i⟩ := d_i mg h X G
  obtain ⟨dB, u_b⟩ := d_b mg h X G
  obtain ⟨dH, u_h⟩ := d_h mg h X G
  obtain ⟨dKB, u_kb⟩ := d_kb mg h X G
  obtain ⟨dIW, u_iw⟩ := d_iw mg h X G
  obtain ⟨dNO, u_no⟩ := d_no mg h X G
  obtain ⟨dD, u_ldraw⟩ := d_ldraw mg h X G
  obtain ⟨dP, u_lpick⟩ := d_lpick mg h X G
  obtain ⟨dWo, u_lword⟩ := d_lword mg h X G
  obtain ⟨dN, u_lpen⟩ := d_lpen mg h X G
  obtain ⟨dR, u_lright⟩ := d_lright mg h X G
  obtain ⟨dPW, u_pw, k_pw⟩ := d_pw mg h X G
  obtain ⟨dPt, u_pt, k_pt⟩ := d_pt mg h X G
  have T : Txw mg := {
    int := PySem.W.mg_none_of X G z_int
    bool := PySem.W.mg_none_of X G z_bool
    str := PySem.W.mg_none_of X G z_str
    len := PySem.W.mg_none_of X G z_len
    range := PySem.W.mg_none_of X G z_range
    isi := PySem.W.mg_none_of X G z_isinstance
    list := PySem.W.mg_none_of X G z_list
    all := PySem.W.mg_none_of X G z_all
    tuple := PySem.W.mg_none_of X G z_tuple
    zip := PySem.W.mg_none_of X G z_zip
    dict := PySem.W.mg_none_of X G z_dict
    any := PySem.W.mg_none_of X G z_any }
  obtain ⟨f0, U0⟩ := d_kept mg h X G
  have TD : Kone.TxtD mg fD := { int := T.int, len := T.len, abs := PySem.W.mg_none_of X G z_abs, list := T.list }
  have rp := PySem.W.mg_none_of X G z_repr
  have B : Bts K w mg aB := ⟨PySem.W.mg_of X G aBt, fun q q1 q2 => by
    have : q = 48 ∨ q = 49 ∨ q = 50 ∨ q = 51 := by omega
    rcases this with rfl | rfl | rfl | rfl
    · exact ⟨es, nn, _, lBt, kBt, b0, ⟨t0, rfl⟩⟩
    · exact ⟨es, nn, _, lBt, kBt, b1, ⟨t1, rfl⟩⟩
    · exact ⟨es, nn, _, lBt, kBt, b2, ⟨t2, rfl⟩⟩
    · exact ⟨es, nn, _, lBt, kBt, b3, ⟨t3, rfl⟩⟩⟩
  refine ⟨PySem.W.fnOf "law" "law" (defArgs sLaw) (defBody sLaw) (defScope sLaw) .none kV3 dc3 pm3 an3 (.ref c) ct3, fun s u => .of_eq rfl, fun base KB GB TB => ?_⟩
  have D0 : Wds P w K mg base S CB CW fI fB fH fKB fIW fNO dI dB dH dKB dIW dNO := {
    t := T, dg := ⟨td, PySem.W.mg_of X G aDg⟩, eb := er_of (cB mg h X G) (iB P w mg base T.k U0), i := u_i, b := u_b, h := u_h, kb := u_kb, iw := u_iw, ew := er_of (cW mg h X G) (iW P w mg base T.k U0), no := u_no }
  have D : Lp P w K mg base S CB CW fI fB fH fKB fIW fNO fPW fPt aB fD fP fWo dI dB dH dKB dIW dNO dPW dPt dD dP dWo := {
    d := D0, b := B, pw := u_pw, pwk := k_pw, pt := u_pt, ptk := k_pt, rp := rp, t := TD, dr := u_ldraw, p := u_lpick, wo := u_lword }
  have TH : Her K mg S CW := {
    s := PySem.W.mg_of X G aS, cW := cW mg h X G, fW_value := (iW P w mg base T.k U0).no, sW := sW, isi := T.isi, ve := PySem.W.mg_none_of X G z_ValueError, rp := rp, len := T.len }
  have bHd : Binds K (PySem.W.fnOf "_law_heard" "_law_heard" (defArgs sHeard) (defBody sHeard) (defScope sHeard) .none kV2 dc2 pm2 an2 cd2 ct2) ["_law_ask"] [] := .all (fun us hl => match us, hl with | [_], _ => rfl)
  exact ok_law D TH xW u_lpen u_lright (PySem.W.mg_of X G aHd) kHd lHd cHd bHd lL cL TB
end Kpa
open PySem PySem.W PyProof.Rows L2 Gd in
set_option maxRecDepth 100000 in
set_option maxHeartbeats 0 in
theorem PySem.Challenge.cw_sumdigits_k76_words_that_are_paired_holds : PySem.Challenge.rw_sumdigits_k76_words_that_are_paired.Holds := by
  w_on; o_law; k_head; (case hw => w_witness2)
  k_fill
  refine Gd.walk_atT (l := PySem.Challenge.rw_sumdigits_k76_words_that_are_paired) (n := 63) (k := 11) (CX := L2.CX0) (sp := fun K => Kpa.spLaw K 165) (x := "_law_script") (c := ?cc) (T := 165) rfl (by decide) rfl ⟨rfl, by decide, by decide⟩ (fun w h Y => PySem.W.km_in_of Y) (fun w h Y => PySem.W.km_tabs_of Y 165 (List.mem_singleton.mpr rfl)) (fun w => ?nT) (fun w => ?hC) ?F
    (fun K H a ns hl hT hS => ⟨a, ns, rfl, hS, fun p m => by (rw [List.mem_singleton.mp m]); exact LamX.TabS.nil hT, fun _ => rfl⟩) (fun _ _ _ _ z => z)
  case F =>
    intro w mg fa h KX G hmg
    refine' Kpa.all_mk KX G hmg ?aS ?cB ?cW ?iB ?iW ?sW ?xW ?z_int ?z_bool ?z_str ?z_len ?z_range ?z_isinstance ?z_list ?z_all ?z_tuple ?z_zip ?z_abs ?z_dict ?z_any ?z_repr ?z_ValueError ?d_kept ?aDg ?aBt ?lBt ?kBt ?b0 ?b1 ?b2 ?b3 ?d_i ?d_b ?d_h ?d_kb ?d_iw ?d_no ?d_ldraw ?d_lpick ?d_lword ?d_lpen ?d_lright ?d_pw ?d_pt ?aHd ?kHd ?lHd ?cHd ?aL ?kL ?lL ?cL
    (case aS => k_is)
    (case cB => refine' Kone.ck_mk ?a ?l ?sa ?exC ?tyC ?kC ?hg ?hk ?hd ?ha ?hn ?ht ?hm; (case a => k_is); (case l => k_is); (case sa => k_is); (case exC => k_is); (case tyC => k_is); (case kC => k_is); (case hg => k_is); (case hk => k_is); (case hd => k_is); (case ha => k_is); (case hn => k_is); (case ht => k_is); (case hm => k_is))
    (case cW => refine' Kone.ck_mk ?a ?l ?sa ?exC ?tyC ?kC ?hg ?hk ?hd ?ha ?hn ?ht ?hm; (case a => k_is); (case l => k_is); (case sa => k_is); (case exC => k_is); (case tyC => k_is); (case kC => k_is); (case hg => k_is); (case hk => k_is); (case hd => k_is); (case ha => k_is); (case hn => k_is); (case ht => k_is); (case hm => k_is))
    (case iB => refine' Kone.i1_mk (st := inClass (Kpa.top 4) 0) ⟨rfl, rfl, rfl, by decide +kernel, rfl, by decide +kernel, by decide +kernel⟩ rfl (Or.inl rfl) (Or.inl rfl) rfl (by decide) (by decide) (fun _ _ _ _ _ _ us hl => match us, hl with | [_, _], _ => rfl) (fun _ _ _ _ _ _ _ _ => rfl) ?a ?t ?l ?c ?k ?no; (case a => k_is); (case t => k_is); (case l => k_is); (case c => k_is); (case k => k_is); (case no => k_is))
    (case iW => refine' Kone.i1_mk (st := inClass (Kpa.top 5) 0) ⟨rfl, rfl, rfl, by decide +kernel, rfl, by decide +kernel, by decide +kernel⟩ rfl (Or.inl rfl) (Or.inl rfl) rfl (by decide) (by decide) (fun _ _ _ _ _ _ us hl => match us, hl with | [_, _], _ => rfl) (fun _ _ _ _ _ _ _ _ => rfl) ?a ?t ?l ?c ?k ?no; (case a => k_is); (case t => k_is); (case l => k_is); (case c => k_is); (case k => k_is); (case no => k_is))
    (case sW => decide)
    (case xW => kernel_rfl)
    (case z_int => k_is)
    (case z_bool => k_is)
    (case z_str => k_is)
    (case z_len => k_is)
    (case z_range => k_is)
    (case z_isinstance => k_is)
    (case z_list => k_is)
    (case z_all => k_is)
    (case z_tuple => k_is)
    (case z_zip => k_is)
    (case z_abs => k_is)
    (case z_dict => k_is)
    (case z_any => k_is)
    (case z_repr => k_is)
    (case z_ValueError => k_is)
    (case d_kept => refine' Kone.d_mk (st := Kone.sKept) (fun _ _ _ _ _ _ us hl => match us, hl with | [_], _ => rfl) ?a ?l ?c ?k; (case a => k_is); (case l => k_is); (case c => k_is); (case k => k_is))
    (case aDg => k_is)
    (case aBt => k_is)
    (case lBt => k_is)
    (case kBt => exact ⟨⟨_, _, rfl, rfl⟩, ⟨_, _, rfl, rfl⟩, ⟨_, _, rfl, rfl⟩, ⟨_, _, rfl, rfl⟩, trivial⟩)
    (case b0 => k_is)
    (case b1 => k_is)
    (case b2 => k_is)
    (case b3 => k_is)
    (case d_i => refine' Kpa.d_mk (st := Kpa.sIsInt) (fun _ _ _ _ _ _ us hl => match us, hl with | [_], _ => rfl) ?a ?l ?c ?k; (case a => k_is); (case l => k_is); (case c => k_is); (case k => k_is))
    (case d_b => refine' Kpa.d_mk (st := Kpa.sBetw) (fun _ _ _ _ _ _ us hl => match us, hl with | [_, _, _], _ => rfl) ?a ?l ?c ?k; (case a => k_is); (case l => k_is); (case c => k_is); (case k => k_is))
    (case d_h => refine' Kpa.d_mk (st := Kpa.sHas) (fun _ _ _ _ _ _ us hl => match us, hl with | [_, _], _ => rfl) ?a ?l ?c ?k; (case a => k_is); (case l => k_is); (case c => k_is); (case k => k_is))
    (case d_kb => refine' Kpa.d_mk (st := Kpa.sCkBase) (fun _ _ _ _ _ _ us hl => match us, hl with | [_], _ => rfl) ?a ?l ?c ?k; (case a => k_is); (case l => k_is); (case c => k_is); (case k => k_is))
    (case d_iw => refine' Kpa.d_mk (st := Kpa.sIsWord) (fun _ _ _ _ _ _ us hl => match us, hl with | [_, _], _ => rfl) ?a ?l ?c ?k; (case a => k_is); (case l => k_is); (case c => k_is); (case k => k_is))
    (case d_no => refine' Kpa.d_mk (st := Kpa.sNumOf) (fun _ _ _ _ _ _ us hl => match us, hl with | [_, _], _ => rfl) ?a ?l ?c ?k; (case a => k_is); (case l => k_is); (case c => k_is); (case k => k_is))
    (case d_ldraw => refine' Kpa.d_mk (st := Kpa.sDraw) (fun _ _ _ _ _ _ us hl => match us, hl with | [_, _], _ => rfl) ?a ?l ?c ?k; (case a => k_is); (case l => k_is); (case c => k_is); (case k => k_is))
    (case d_lpick => refine' Kpa.d_mk (st := Kpa.sPick) (fun _ _ _ _ _ _ us hl => match us, hl with | [_, _], _ => rfl) ?a ?l ?c ?k; (case a => k_is); (case l => k_is); (case c => k_is); (case k => k_is))
    (case d_lword => refine' Kpa.d_mk (st := Kpa.sWord) (fun _ _ _ _ _ _ us hl => match us, hl with | [_, _, _], _ => rfl) ?a ?l ?c ?k; (case a => k_is); (case l => k_is); (case c => k_is); (case k => k_is))
    (case d_lpen => refine' Kpa.d_mk (st := Kpa.sPen) (fun _ _ _ _ _ _ us hl => match us, hl with | [_], _ => rfl) ?a ?l ?c ?k; (case a => k_is); (case l => k_is); (case c => k_is); (case k => k_is))
    (case d_lright => refine' Kpa.d_mk (st := Kpa.sRight) (fun _ _ _ _ _ _ us hl => match us, hl with | [_, _], _ => rfl) ?a ?l ?c ?k; (case a => k_is); (case l => k_is); (case c => k_is); (case k => k_is))
    (case d_pw => refine' Kpa.dpw_mk ?a ?l ?c ?k; (case a => k_is); (case l => k_is); (case c => k_is); (case k => k_is))
    (case d_pt => refine' Kpa.dpt_mk ?a ?l ?c ?k; (case a => k_is); (case l => k_is); (case c => k_is); (case k => k_is))
    (case aHd => k_is)
    (case kHd => k_is)
    (case lHd => k_is)
    (case cHd => k_is)
    (case aL => k_is)
    (case kL => k_is)
    (case lL => k_is)
    (case cL => k_is)
  case nT => kernel_rfl
  case hC => kernel_rfl
