import PyProof.Rows.All
import Wide.All
import OpenK.AllK
import Wide.FinOn
import HandS.ForMost
import HandS.ForExc
import HandS.Wide
import HandS.ExcInit
import HandS.ExcIs
import HandS.ExcField
import HandS.ExcValue
import HandS.TryMany
import HandS.IsInst
import HandS.RaiseMore
import HandS.Evl
import HandS.Style
import KE.KExcInit
import HandS.Walk
import HandS.Ends
import HandS.HeadHook1
import PySem.Challenge.RW_whatparts_k00_errors_and_what_they_keep
set_option Elab.async false
set_option linter.all false
section
set_option maxRecDepth 100000
set_option maxHeartbeats 4000000
/-! Kx: promises of defs that show their data by repr (no repr runs around them), and repr of data. -/
namespace Kx
open PySem PySem.Spec PyProof.Rows L2
/-- a def's promise, kept wherever no repr is under way -/
structure FnG (P : Program) (w : World) (K : PySem.W.Frag) (mg : Str → Option Value) (base : Heap) (CX : CXT) (k : Nat) (f : Addr) (fd : FuncData) (ps : List Str) (sp : Sp) : Prop where
  len : ∀ vs H Q E, sp vs H Q E → vs.length = ps.length
  run : ∀ (A : Around) (outer : List Env) (s : Shared) (H : Hp) (args : Args) (us : List Value) (vs : List V) (Q : VK) (E : XK),
    A.guards = some [] → Room k A → Env0 P w K mg base A outer s H → BindsTo s fd args (ps.zip us) → Vals vs us → sp vs H Q E →
    codeAny (model P w) A (.call (.ref f) args) (CR CX outer P w H s Q E) s
theorem fng_of {CX : CXT} {P : Program} {w : World} {K : PySem.W.Frag} {mg : Str → Option Value} {base : Heap} {k : Nat} {f : Addr} {x qual : Str} {st : Stmt} {fd : FuncData} {N ps : List Str} {sp : Sp}
    (F : Fun K x qual st f fd) (S : FnScope N ps (defScope st)) (len : ∀ vs H Q E, sp vs H Q E → vs.length = ps.length)
    (hbody : ∀ (cdv : Value) (A : Around) (outer : List Env) (s : Shared) (H : Hp) (vs : List V) (Q : VK) (E : XK), A.guards = some [] → Room k (A.deeper (envOfC qual (defScope st) s.heap.objs.size f cdv)) → sp vs H Q E →
      ∃ t, PSs (cxOf CX P w K mg base N qual (defScope st) f cdv A outer s H E) (defBody st) t ∧ t { nx := fun _ H' => Q .non H', rt := Q } (start N vs) H) :
    FnG P w K mg base CX (k + 1) f fd ps sp := by
  obtain ⟨oc, od, kV, doc, pm, an, cdv, ct, osl, rfl, lk, hcd⟩ := F.ex
  refine ⟨len, fun A outer s H args us vs Q E hgd hr e0 hb r hsp => ?_⟩
  have hl := len _ _ _ _ hsp
  have KX : K.In s.heap := e0.mod.kin.keeps fun b o e => (e0.bs b o e).1
  have lim : s.heap.NoLimit := e0.mod.nolimit.keeps fun b o e => (e0.bs b o e).1
  have kinds : ∀ y ∈ ps.zip us, (defScope st).names.lookup y.1 = some .local ∨ ((defScope st).names.lookup y.1 = some .cell ∧ ((cellsFrom (s.heap.objs.size + 1) (defScope st).names []).lookup y.1).isSome = true) := by
    intro ⟨n, v⟩ hy
    rcases S.par n (List.of_mem_zip hy).1 with q | q
    · exact .inl q
    · exact .inr ⟨q, PySem.W.cellsFrom_some _ _ _ (.inl q)⟩
  refine codeAny_call_function hr.depth (KX _ _ lk) rfl S.co S.gen rfl (PySem.W.codeRec_of KX hcd) (hb _ _ _ _ ?_)
  refine wpAny_newFunctionEnv_cells S.kind kinds fun env he s1 y => ?_
  subst he
  refine ⟨lim.keeps y.toInCall.keep, codeAny_func ?_⟩
  obtain ⟨t, ht, hq⟩ := hbody cdv A outer s H vs Q E hgd (hr.deeper _) hsp
  have I : Inv (cxOf CX P w K mg base N qual (defScope st) f cdv A outer s H E) [] (start N vs) H s1 := inv_start S hr.hd e0 hl r y
  refine wpAny_mono (ht.run [] s1 (start N vs) H _ I hq) (fun fl s' hs => ?_) fun e s' hs => hs
  have fin : ∀ {σ' : L2.St} {H' : Hp} {v : V} {u : Value}, Inv (cxOf CX P w K mg base N qual (defScope st) f cdv A outer s H E) [] σ' H' s' → RelV v u → Q v H' → CE outer P w H s Q u s' := by
    intro σ' H' v u J rv q
    exact ⟨v, H', J.os, J.bare, J.base, J.hok, rv, q⟩
  cases fl with
  | ret u =>
    obtain ⟨v, σ', H', J, rv, q⟩ := hs
    exact fin J rv q
  | next =>
    obtain ⟨σ', H', J, q⟩ := hs
    exact fin (v := V.non) (u := Value.none) J rfl q
  | brk => exact (hs.choose_spec.choose_spec.2 : False).elim
  | cont => exact (hs.choose_spec.choose_spec.2 : False).elim
/-- .. of a def that lets nothing out -/
theorem fng_ok {P : Program} {w : World} {K : PySem.W.Frag} {mg : Str → Option Value} {base : Heap} {k : Nat} {f : Addr} {x qual : Str} {st : Stmt} {fd : FuncData} {N ps : List Str} {sp : Sp}
    (F : Fun K x qual st f fd) (S : FnScope N ps (defScope st)) (len : ∀ vs H Q E, sp vs H Q E → vs.length = ps.length)
    (hbody : ∀ (cdv : Value) (A : Around) (outer : List Env) (s : Shared) (H : Hp) (vs : List V) (Q : VK) (E : XK), A.guards = some [] → Room k (A.deeper (envOfC qual (defScope st) s.heap.objs.size f cdv)) → sp vs H Q E →
      ∃ t, PSs (cxOf CX0 P w K mg base N qual (defScope st) f cdv A outer s H E).nox (defBody st) t ∧ t { nx := fun _ H' => Q .non H', rt := Q } (start N vs) H) :
    FnG P w K mg base CX0 (k + 1) f fd ps sp :=
  fng_of F S len fun cdv A outer s H vs Q E hgd hr hsp => let ⟨t, h, q⟩ := hbody cdv A outer s H vs Q E hgd hr hsp; ⟨t, h.nox, q⟩
theorem FnG.of {P : Program} {w : World} {K : PySem.W.Frag} {mg : Str → Option Value} {base : Heap} {CX : CXT} {k : Nat} {f : Addr} {fd : FuncData} {ps : List Str} {sp : Sp} (F : FnOk P w K mg base CX k f fd ps sp) : FnG P w K mg base CX k f fd ps sp :=
  ⟨F.len, fun A outer s H args us vs Q E _ => F.run A outer s H args us vs Q E⟩
section
variable {X : Cx} {CX : CXT} {k : Nat} {f : Addr} {fd : FuncData} {ps : List Str} {sp : Sp} {E : XK} {x : Str} {p pos : Pos} {e : Expr} {es : List Expr} {t : TA}
theorem pe_callG (F : FnG X.prog X.w X.K X.mg X.base CX k f fd ps sp) (gd : X.A.guards = some []) (hr : Room k X.A) (hg : Gl X x) (hm : X.mg x = some (.ref f)) (hk : PySem.W.keepIn X.K (.ref f) = true) (hb : Binds X.K fd ps []) (hx : Passes CX X E)
    (ha : PA X (e :: es) t) (hdb : (x == ("__debug__" : Str)) = false := by decide) (he : starEach (e :: es) X.env = (false, eval e X.env) :: starEach es X.env := by rfl) (hpl : (backTo pos (starEach es X.env)).any (·.1) = false := by rfl) :
    PE X (.Call (.Name x p) (e :: es) [] pos) (tCall sp [] E t) := by
  constructor
  intro pins s σ H Q I h
  refine wpAny_Call_Name_kw (ld_glob I hg hm ?_ hdb)
  refine PySem.W.callWith_K (h₀ := X.base) I.ok.mod.kin hk (thn (ha.run pos pins s σ H _ I h) fun us s1 hh => ?_) he hpl
  obtain ⟨vs, H1, I1, r, q⟩ := hh
  refine ⟨I1.kIn, ?_⟩
  rw [List.append_nil] at q
  have hl : us.length = ps.length := by rw [← r.length]; exact F.len _ _ _ _ q
  have b := hb s1 us I1.kIn (by rw [List.append_nil]; exact hl)
  rw [List.append_nil] at b
  refine wpAny_call (codeAny_mono (F.run X.A X.stack s1 H1 ⟨us, []⟩ us vs Q E gd hr I1.env0 b r q) fun r s' hq => ?_)
  cases r with
  | error er => exact hx pins σ H1 s1 er s' I1 hq
  | ok fl =>
    cases fl with
    | ret u => exact I1.after hq
    | next => exact False.elim hq
    | brk => exact False.elim hq
    | cont => exact False.elim hq
end
/-! ### data whose repr is known: dicts too; lists away from the table of modules -/
def kD : Key → PyData
  | .inl i => .int i
  | .inr x => .str x
mutual
inductive Dq (H : Hp) : V → PyData → Prop
  | non : Dq H .non .none
  | bl (b : Bool) : Dq H (.bl b) (.bool b)
  | int (i : Int) : Dq H (.int i) (.int i)
  | str (x : Str) : Dq H (.str x) (.str x)
  | lst {a : Addr} {xs : List V} {ds : List PyData} : H a = some (.lst xs) → a ≠ sysModules → DqAll H xs ds → Dq H (.ref a) (.list ds)
  | tup {a : Addr} {xs : List V} {ds : List PyData} : H a = some (.tup xs) → DqAll H xs ds → Dq H (.ref a) (.tuple ds)
  | dct {a : Addr} {kvs : List (Key × V)} {ds : List (PyData × PyData)} : H a = some (.dK kvs) → DqKv H kvs ds → Dq H (.ref a) (.dict ds)
inductive DqAll (H : Hp) : List V → List PyData → Prop
  | nil : DqAll H [] []
  | cons {v : V} {vs : List V} {d : PyData} {ds : List PyData} : Dq H v d → DqAll H vs ds → DqAll H (v :: vs) (d :: ds)
inductive DqKv (H : Hp) : List (Key × V) → List (PyData × PyData) → Prop
  | nil : DqKv H [] []
  | cons {k : Key} {v : V} {vs : List (Key × V)} {d : PyData} {ds : List (PyData × PyData)} : Dq H v d → DqKv H vs ds → DqKv H ((k, v) :: vs) ((kD k, d) :: ds)
end
mutual
theorem Dq.same {H H' : Hp} (e : Same H H') : ∀ {v : V} {d : PyData}, Dq H v d → Dq H' v d
  | _, _, .non => .non
  | _, _, .bl b => .bl b
  | _, _, .int i => .int i
  | _, _, .str x => .str x
  | _, _, .lst h n a => .lst (e _ _ h) n (DqAll.same e a)
  | _, _, .tup h a => .tup (e _ _ h) (DqAll.same e a)
  | _, _, .dct h a => .dct (e _ _ h) (DqKv.same e a)
theorem DqAll.same {H H' : Hp} (e : Same H H') : ∀ {v : List V} {d : List PyData}, DqAll H v d → DqAll H' v d
  | _, _, .nil => .nil
  | _, _, .cons h r => .cons (Dq.same e h) (DqAll.same e r)
theorem DqKv.same {H H' : Hp} (e : Same H H') : ∀ {v : List (Key × V)} {d : List (PyData × PyData)}, DqKv H v d → DqKv H' v d
  | _, _, .nil => .nil
  | _, _, .cons h r => .cons (Dq.same e h) (DqKv.same e r)
end
section
variable {X : Cx} {pins : List (Addr × Obj)} {σ : L2.St} {H : Hp} {s : Shared}
theorem readsAll_mem {h : Heap} : ∀ {us : List Value} {ds : List PyData} {as : List Addr}, ReadsAll h us ds as → True := fun _ => trivial
theorem kD_reads (h : Heap) (k : Key) {u : Value} (e : keyIs k u = true) : Reads h u (kD k) [] := by
  rcases keyIs_shape e with ⟨i, t, rfl, rfl⟩ | ⟨x, t, rfl, rfl⟩
  · exact .int i t
  · exact .str x t
mutual
theorem Dq.reads (I : Inv X pins σ H s) : ∀ (d : PyData) (v : V) (u : Value), Dq H v d → RelV v u → ∃ as, Reads s.heap u d as ∧ sysModules ∉ as
  | .none, _, _, h, r => by
    cases h
    cases r
    exact ⟨_, Reads.none, by simp⟩
  | .bool b, _, _, h, r => by
    cases h
    cases r
    exact ⟨_, Reads.bool b, by simp⟩
  | .int i, _, _, h, r => by
    cases h
    obtain ⟨t, rfl⟩ := r
    exact ⟨_, Reads.int i t, by simp⟩
  | .str x, _, _, h, r => by
    cases h
    obtain ⟨t, rfl⟩ := r
    exact ⟨_, Reads.str x t, by simp⟩
  | .list ds, _, _, h, r => by
    cases h with
    | lst hs hn ha =>
      cases r
      obtain ⟨its, rv, ⟨o, n, ho, hc, _, hd⟩, _⟩ := I.list (SqL.of hs)
      obtain ⟨as, hr, hm⟩ := DqAll.reads I ds _ its ha rv
      refine ⟨_, Reads.list ho hc hd hr, fun z => ?_⟩
      rcases List.mem_cons.mp z with z | z
      · exact hn z.symm
      · exact hm z
  | .tuple ds, _, _, h, r => by
    cases h with
    | tup hs ha =>
      cases r
      obtain ⟨its, rv, ⟨o, ho, hc, n, hd⟩, _⟩ := I.tuple (SqT.of hs)
      obtain ⟨as, hr, hm⟩ := DqAll.reads I ds _ its ha rv
      exact ⟨_, Reads.tuple ho hc hd hr, hm⟩
  | .dict ds, _, _, h, r => by
    cases h with
    | dct hs ha =>
      cases r
      obtain ⟨_, hne, vs, kv, o, es, ep, ho, hx, hd, _, hp, _⟩ := I.hok _ _ hs
      obtain ⟨as, bs, h1, h2, n1, n2⟩ := DqKv.reads I ds _ vs es.toList ha kv hp
      refine ⟨_, Reads.dict ho hx.1 hd h1 h2, fun z => ?_⟩
      rcases List.mem_cons.mp z with z | z
      · rw [← z] at hne
        simp at hne
      · rcases List.mem_append.mp z with z | z
        · exact n1 z
        · exact n2 z
theorem DqAll.reads (I : Inv X pins σ H s) : ∀ (ds : List PyData) (vs : List V) (us : List Value), DqAll H vs ds → Vals vs us → ∃ as, ReadsAll s.heap us ds as ∧ sysModules ∉ as
  | [], _, _, h, r => by
    cases h
    cases r
    exact ⟨_, ReadsAll.nil, by simp⟩
  | d :: ds, _, _, h, r => by
    cases h with
    | cons h1 h2 =>
      cases r with
      | cons r1 r2 =>
        obtain ⟨as, q1, n1⟩ := Dq.reads I d _ _ h1 r1
        obtain ⟨bs, q2, n2⟩ := DqAll.reads I ds _ _ h2 r2
        exact ⟨_, ReadsAll.cons q1 q2, fun z => (List.mem_append.mp z).elim n1 n2⟩
theorem DqKv.reads (I : Inv X pins σ H s) : ∀ (ds : List (PyData × PyData)) (vs : List (Key × V)) (ws : List (Key × Value)) (es : List DictEntry), DqKv H vs ds → KV vs ws → Pairs (mixKind X.prog X.w) es ws →
    ∃ as bs, ReadsAll s.heap (es.map (·.key)) (ds.map (·.1)) as ∧ ReadsAll s.heap (es.map (·.val)) (ds.map (·.2)) bs ∧ sysModules ∉ as ∧ sysModules ∉ bs
  | [], _, _, _, h, r, p => by
    cases h
    cases r
    cases p
    exact ⟨_, _, ReadsAll.nil, ReadsAll.nil, by simp, by simp⟩
  | (k, d) :: ds, _, _, _, h, r, p => by
    cases h with
    | cons h1 h2 =>
      cases r with
      | cons r1 r2 =>
        cases p with
        | cons p1 p2 p3 =>
          obtain ⟨e1, e2⟩ := r1
          obtain ⟨as, q1, n1⟩ := Dq.reads I d _ _ h1 e2
          obtain ⟨as2, bs2, q3, q4, n3, n4⟩ := DqKv.reads I ds _ _ _ h2 r2 p3
          rw [← e1] at p1
          rw [← p2] at q1
          exact ⟨_, _, ReadsAll.cons (kD_reads _ _ p1) q3, ReadsAll.cons q1 q4, fun z => (List.mem_append.mp z).elim (by simp) n3, fun z => (List.mem_append.mp z).elim n1 n4⟩
end
end
/-- repr(x) of such data -/
def rRepr : List V → Hp → VK → Prop := fun xs H Q => ∃ (x : V) (d : PyData), xs = [x] ∧ Dq H x d ∧ d.showable = true ∧ d.depth ≤ 100 ∧ d.shown.length ≤ sizeLine ∧ Q (.str d.shown) H
theorem call_repr {X : Cx} (gd : X.A.guards = some []) (hu : X.A.units + 150 < cLine) : CallR X (.builtin "repr") rRepr := by
  intro pins s σ H xs us Q I r h
  obtain ⟨x, d, rfl, hd, sh, dp, sz, q⟩ := h
  obtain ⟨u, rfl, ru⟩ := vals1 r
  cases x with
  | non =>
    cases ru
    cases hd
    exact PySem.P.repr_of_none ⟨.str _, H, I.tok _, ⟨_, rfl⟩, q⟩
  | bl b =>
    cases ru
    cases hd
    exact PySem.P.repr_of_bool ⟨.str _, H, I.tok _, ⟨_, rfl⟩, q⟩
  | int i =>
    obtain ⟨t, rfl⟩ := ru
    cases hd
    exact PySem.P.repr_of_int (by simpa [PyData.showable] using sh) ⟨.str _, H, I.tok _, ⟨_, rfl⟩, q⟩
  | str z =>
    obtain ⟨t, rfl⟩ := ru
    cases hd
    exact PySem.P.repr_of_str ⟨.str _, H, I.tok _, ⟨_, rfl⟩, q⟩ sz
  | ref a =>
    obtain ⟨as, hr, hm⟩ := Dq.reads I d _ u hd ru
    cases ru
    exact repr_of_reads' hr sh (fun _ => hm) gd (by omega) (fun _ _ e => e) (fun h' w tk k => ⟨.str _, H, I.kept k, ⟨_, rfl⟩, q⟩) sz
  | byt _ => cases hd
  | flt _ => cases hd
  | ty _ => cases hd
/-! a new list, a new concatenation: away from the table of modules -/
section
variable {X : Cx} {es : List Expr} {t : TA} {pos : Pos}
theorem Inv.mods {pins : List (Addr × Obj)} {σ : L2.St} {H : Hp} {s : Shared} (I : Inv X pins σ H s) {a : Addr} (h : s.heap.objs.size ≤ a) : a ≠ sysModules := by
  obtain ⟨o, _, _, e, _⟩ := I.ok.mod.glob
  have h3 : 3 < s.heap.objs.size := Heap.lt_size (I.bk _ _ e)
  intro z
  have h1 : s.heap.objs.size ≤ 1 := by rw [z] at h; exact h
  omega
def tLstN (t : TA) : TE := fun σ H Q => t σ H fun xs H1 => xs.length ≤ sizeLine ∧ ∀ p, H1 p = none → p ≠ sysModules → Q (.ref p) (upd H1 p (.lst xs))
theorem pe_lstN (h : PA X es t) : PE X (.List es pos) (tLstN t) := by
  constructor
  intro pins s σ H Q I hq
  refine wpAny_List_spliced (thn (h.run pos pins s σ H _ I hq) fun us s1 hh => ?_)
  obtain ⟨xs, H1, I1, r, z, q⟩ := hh
  refine ⟨by rw [← r.length]; exact z, ?_⟩
  have hf : H1 s1.heap.objs.size = none := I1.hok.fresh (Nat.le_refl _)
  refine ⟨.ref s1.heap.objs.size, upd H1 s1.heap.objs.size (.lst xs), I1.laid (t' := s1.toks) (fun b u e => Heap.get?_push_of_some _ e) (Nat.le_refl _) ?_, rfl, q _ hf (Inv.mods I1 (Nat.le_refl _))⟩
  exact ⟨z, us, 0, r, Heap.get?_push_size _ rfl⟩
def rCatN : R2 := fun x y H Q => ∃ l b xs zs, x = .ref l ∧ y = .ref b ∧ H l = some (.lst xs) ∧ H b = some (.lst zs) ∧ xs.length + zs.length ≤ sizeLine ∧ ∀ p, H p = none → p ≠ sysModules → Q (.ref p) (upd H p (.lst (xs ++ zs)))
theorem op_catN : OpR X (binaryOp .Add) rCatN := by
  intro pins s σ H x y v u Q I rx ry h
  obtain ⟨l, b, xs, zs, rfl, rfl, hH, hB, hz, q⟩ := h
  cases rx
  cases ry
  obtain ⟨z, its, n, r, hl, e⟩ := I.lstM hH
  obtain ⟨z2, its2, n2, r2, hl2, e2⟩ := I.lstM hB
  refine PySem.P.add_list e e2 ?_ (by rw [List.size_toArray, List.size_toArray]; omega)
  have ea : its.toArray ++ its2.toArray = (its ++ its2).toArray := by simp
  rw [ea]
  exact ⟨.ref _, _, I.lnew (t' := s.toks) (r.append r2) (by rw [List.length_append]; omega), rfl, q _ I.fresh (Inv.mods I (Nat.le_refl _))⟩
end
end Kx
end
section
set_option maxRecDepth 100000
set_option maxHeartbeats 4000000
/-! Kx: own exceptions over any of the served built-in bases: stores into them, their making as values and for a raise. -/
namespace Kx
open PySem PySem.Spec PyProof.Rows L2 PySem.W PySem.Calls
open Builtin Builtin.ObjectAttr
abbrev EOb (C : Addr) (d : Option Addr) (t : Addr) : Obj := { cls := .ref C, dict := d, data := .fields #[.ref t, .none, .none, .none, .bool false, .none] }
section
variable {prog : Program} {w : World} {A : Around} {E : Value → Shared → Prop} {R : Result → Shared → Prop} {hp : Heap} {g : Array GenState} {d : Drawn} {t : Nat} {os : OsState}
/-- a first store into an own exception -/
theorem put_first {K : W.Frag} {name : Str} {tk : Tok} {v : Value} {x C t0 : Addr} {B : String} {bmB : List Value} (SF : StoreFacts B bmB "object.__setattr__" "object")
    (X : K.In hp) (hx : hp.get? x = some (EOb C none t0)) (ho : excOver K C bmB = true) (hh : hasDictIn K C = true) (ha : W.findIn K (.ref C) name = some none)
    (hq : ∀ h' tk' dx, (∀ b o, b ≠ x → hp.get? b = some o → h'.get? b = some o) → hp.objs.size ≤ dx → dx ≠ x → h'.get? x = some (EOb C (some dx) t0) →
      h'.Ns1 dx (fun y => if y = name then some v else none) → R (.ok (.ret .none)) ⟨h', g, d, tk', os⟩) :
    codeAny (model prog w) A (.call (.builtin "object.__setattr__") ⟨[.ref x, .str name tk, v], []⟩) R ⟨hp, g, d, t, os⟩ := by
  have I : W.InstAt hp x (EOb C none t0) C none := ⟨hx, rfl, rfl, trivial⟩
  refine W.osa_openX (s := ⟨hp, g, d, t, os⟩) SF X I ho (r := none) (by unfold takerIn; rw [ha]; rfl) fun b => ?_
  show wpAny _ _ (storeInOwnDict (.ref x) (.ref C) (.str name tk) name v b) _ _ _
  obtain ⟨cd, hcd, hdct⟩ := any_some hh
  have hcls : W.Looks (model prog w) hp (classData C) cd := W.looks_clsIn X hcd
  have hxs : x ≠ hp.objs.size := Nat.ne_of_lt (Heap.lt_size hx)
  obtain ⟨nm, bs, mro, ns, qn, hdd, sn, sb, ab, col, del⟩ := cd
  dsimp only at hdct
  subst hdct
  unfold storeInOwnDict ownDictForStores
  repeat (first | with_reducible refine HandSPX.store_in_new ?_ ?_ | with_reducible refine wpAny_loadPart_at hx ?_ | with_reducible refine hcls.at ?_ | wp_step)
  · exact ⟨_, #[], _, (Heap.get?_update_ne _ _ _ _ hxs.symm).trans (Heap.get?_push_at rfl rfl), rfl, fun e he => absurd he (by simp), fun _ => rfl⟩
  · intro h' tk' hn' hs
    have hx₁ : (hp.push { cls := .type "dict", data := .dict #[] }).get? x = some (EOb C none t0) := Heap.get?_push_of_some _ hx
    refine hq h' tk' hp.objs.size (fun b o hb ho => ?_) (Nat.le_refl _) hxs.symm ?_ hn'
    · exact (hs.2 b (Nat.ne_of_lt (Heap.lt_size ho))).trans ((Heap.get?_update_ne _ _ _ _ hb).trans (Heap.get?_push_of_some _ ho))
    · exact (hs.2 x hxs).trans (Heap.get?_update_self _ hx₁ rfl)
/-- a further store -/
theorem put_more {K : W.Frag} {name : Str} {tk : Tok} {v : Value} {x C dx t0 : Addr} {B : String} {bmB : List Value} {m0 : Str → Option Value} {nl : List Str} (SF : StoreFacts B bmB "object.__setattr__" "object")
    (X : K.In hp) (hx : hp.get? x = some (EOb C (some dx) t0)) (hns : hp.Ns1 dx m0) (hw : Within m0 nl) (hz : nl.length ≤ 1000) (ho : excOver K C bmB = true) (hh : hasDictIn K C = true) (ha : W.findIn K (.ref C) name = some none)
    (hq : ∀ h' tk', (∀ b o, b ≠ dx → hp.get? b = some o → h'.get? b = some o) → h'.Ns1 dx (fun y => if y = name then some v else m0 y) → R (.ok (.ret .none)) ⟨h', g, d, tk', os⟩) :
    codeAny (model prog w) A (.call (.builtin "object.__setattr__") ⟨[.ref x, .str name tk, v], []⟩) R ⟨hp, g, d, t, os⟩ := by
  obtain ⟨oD, esD, epD, hoD, hdD, _⟩ := hns.count hw
  have I : W.InstAt hp x (EOb C (some dx) t0) C (some oD) := ⟨hx, rfl, rfl, hoD⟩
  refine W.osa_openX (s := ⟨hp, g, d, t, os⟩) SF X I ho (r := none) (by unfold takerIn; rw [ha]; rfl) fun b => ?_
  show wpAny _ _ (storeInOwnDict (.ref x) (.ref C) (.str name tk) name v b) _ _ _
  obtain ⟨cd, hcd, hdct⟩ := any_some hh
  have hcls : W.Looks (model prog w) hp (classData C) cd := W.looks_clsIn X hcd
  obtain ⟨nm, bs, mro, ns, qn, hdd, sn, sb, ab, col, del⟩ := cd
  dsimp only at hdct
  subst hdct
  unfold storeInOwnDict ownDictForStores
  repeat (first | with_reducible refine PySem.OEX.store_in_old hns hw hz ?_ | with_reducible refine wpAny_loadPart_at hx ?_ | with_reducible refine hcls.at ?_ | wp_step)
  intro h' tk' hn' hs
  exact hq h' tk' (fun b o hb ho => (hs.2 b hb).trans ho) hn'
end
/-- what the written part says of an own exception class -/
structure EC (K : W.Frag) (C : Addr) : Prop where
  over : ∃ (B : String) (bmB : List Value), StoreFacts B bmB "object.__setattr__" "object" ∧ excOver K C bmB = true
  hd : hasDictIn K C = true
  sa : findIn K (.ref C) "__setattr__" = some (some (.builtin "object.__setattr__"))
  exC : subIn K (.ref C) (.type "BaseException") = some true
  tyC : typeIn K (.ref C) = some (.type "type")
  kC : keepIn K (.ref C) = true
  ga : findIn K (.ref C) "__getattribute__" = some (some (.builtin "BaseException.__getattribute__"))
  gg : findIn K (.ref C) "__getattr__" = some none
  ha : findIn K (.ref C) "__class__" = some (some (.builtin "object.__class__"))
  hn : specialIn K (.builtin "object.__class__") "__get__" = some (some (.builtin "getset_descriptor.__get__"))
  ht : takesIn K (.builtin "object.__class__") = some true
  hm : mroIn K C (.type "object") = some true
theorem EC.xf {K : W.Frag} {C : Addr} (T : EC K C) : XfC K C := ⟨T.ga, T.gg, T.exC, T.hd⟩
section
variable {X : Cx} {pins : List (Addr × Obj)} {σ : L2.St} {H : Hp} {s : Shared} {a C dx : Addr} {f : Str} {y : V} {u : Value} {fs : List (Str × V)} {Q : Unit → Shared → Prop} {E : Value → Shared → Prop} {A : Around}
theorem set_first (T : EC X.K C) (I : Inv X pins σ H s) (e : H a = some (exo a C none)) (hno : findIn X.K (.ref C) f = some none) (ry : RelV y u)
    (h : ∀ dx s', H dx = none → dx ≠ a → Inv X pins σ (upd (upd H dx (exd dx [(f, y)])) a (exo a C (some dx))) s' → Q () s') : wpAny (model X.prog X.w) A (setAttr (.ref a) f u) Q E s := by
  obtain ⟨B, bmB, SF, hov⟩ := T.over
  obtain ⟨t1, ho⟩ := exo_at I.hok e
  obtain ⟨hp, g, d, t, os⟩ := s
  refine set_plain I.kIn (ox := EOb C none t1) (od := none) ⟨ho, rfl, rfl, trivial⟩ T.sa ?_
  refine put_first SF I.kIn ho hov T.hd hno (fun h' tk' dx k dn dne hx hn => ?_)
  have hnd : H dx = none := I.hok.fresh dn
  have nd : ∀ {b : Addr} {o : Obj}, hp.get? b = some o → b ≠ dx := fun {b o} q => Nat.ne_of_lt (Nat.lt_of_lt_of_le (Heap.lt_size q) dn)
  have na : ∀ {b : Addr}, H b = none → b ≠ a := fun {b} n z => by rw [z, e] at n; cases n
  have U : Un X.fs [] H (upd (upd H dx (exd dx [(f, y)])) a (exo a C (some dx))) hp h' := by
    refine ⟨fun b o q n _ _ => k b o (na n) q, fun b o q n _ _ => ⟨o.slots, k b o (na n) q⟩, fun b o q n _ => ?_, fun b o q _ => ?_, fun b xs q => ?_, fun b o v q => ?_, fun b ps q => ⟨#[], ?_⟩⟩
    · rw [upd_ne (na n), upd_ne (nd q)]
      exact n
    · by_cases hb : b = a
      · exact ⟨_, by rw [hb]; exact hx⟩
      · exact ⟨o, k b o hb q⟩
    · rw [upd_ne (at_ne e q exo_tup), upd_ne (ne_of_none q hnd)]
      exact q
    · rw [upd_ne (at_ne e q exo_frz), upd_ne (ne_of_none q hnd)]
      exact q
    · rw [upd_ne (at_ne e q exo_tbl), upd_ne (ne_of_none q hnd), q]
      simp
  refine h dx _ hnd dne (I.un (t' := tk') U fun b o q => ?_)
  by_cases hb : b = a
  · subst hb
    rw [upd_same] at q
    cases q
    exact exo_ok hx
  · rw [upd_ne hb] at q
    by_cases hd : b = dx
    · subst hd
      rw [upd_same] at q
      cases q
      exact exd_ok hn (relO_put (fs := []) ry fun g => True.intro)
    · rw [upd_ne hd] at q
      refine (I.hok b o q).stay (fun c v hc z => k c v ?_ z) (fun c hc => ?_) (fun c xs hc => ?_)
      · rcases hc with hc | hc
        · rw [hc]
          exact hb
        · exact at_ne e hc exo_own
      · rw [upd_ne (at_ne e hc exo_own), upd_ne (ne_of_none hc hnd)]
        exact hc
      · rw [upd_ne (at_ne e hc exo_tup), upd_ne (ne_of_none hc hnd)]
        exact hc
theorem set_more (T : EC X.K C) (I : Inv X pins σ H s) (e : H a = some (exo a C (some dx))) (ed : H dx = some (exd dx fs)) (hl : fs.length ≤ 900) (hno : findIn X.K (.ref C) f = some none) (ry : RelV y u)
    (h : ∀ s', Inv X pins σ (upd H dx (exd dx ((f, y) :: fs))) s' → Q () s') : wpAny (model X.prog X.w) A (setAttr (.ref a) f u) Q E s := by
  obtain ⟨B, bmB, SF, hov⟩ := T.over
  obtain ⟨t1, ho⟩ := exo_at I.hok e
  obtain ⟨mA, hns, rel⟩ := exd_at I.hok ed
  have hw := within_of rel
  obtain ⟨hp, g, d, t, os⟩ := s
  obtain ⟨oD, _, _, hoD, _, _⟩ := hns.count hw
  refine set_plain I.kIn (ox := EOb C (some dx) t1) (od := some oD) ⟨ho, rfl, rfl, hoD⟩ T.sa ?_
  refine put_more SF I.kIn ho hns hw (by rw [List.length_map]; omega) hov T.hd hno (fun h' tk' k hn => ?_)
  have hd : ∃ o, h'.get? dx = some o := let ⟨o, _, _, e', _⟩ := hn; ⟨o, e'⟩
  exact h _ (I.write (t' := tk') (x := dx) (e := dx) (o := exd dx ((f, y) :: fs)) (by rw [ed]; exact True.intro) (.inl rfl) k hd (exd_ok hn (relO_put ry rel)))
/-- self.f = e in such a class's __init__ -/
def tPut (K : W.Frag) (f : Str) (to te : TE) : TS := fun D σ H => te σ H fun y H1 => to σ H1 fun x H2 => ∃ a C : Addr, x = .ref a ∧ EC K C ∧ findIn K (.ref C) f = some none ∧
  ((H2 a = some (exo a C none) ∧ ∀ dx, H2 dx = none → dx ≠ a → D.nx σ (upd (upd H2 dx (exd dx [(f, y)])) a (exo a C (some dx)))) ∨
    ∃ (dx : Addr) (fs : List (Str × V)), H2 a = some (exo a C (some dx)) ∧ H2 dx = some (exd dx fs) ∧ fs.length ≤ 900 ∧ D.nx σ (upd H2 dx (exd dx ((f, y) :: fs))))
theorem ps_put {o e : Expr} {to te : TE} {p' pos : Pos} (ho : PE X o to) (he : PE X e te) (hs : swapsWith e (some (.Attribute o f p')) pos.line X.env = pure false := by rfl) : PS X (.Assign [.Attribute o f p'] e pos) (tPut X.K f to te) := by
  constructor
  intro pins s σ H D I h
  refine plainObj_wpAny_Assign_Attribute (thn (he.run pins s σ H _ I h) fun v s1 h1 => ?_) hs
  obtain ⟨y, H1, I1, r1, q1⟩ := h1
  refine thn (ho.run pins s1 σ H1 _ I1 q1) fun u s2 h2 => ?_
  obtain ⟨x, H2, I2, r2, a, C, ex, T, hno, q⟩ := h2
  subst ex
  obtain rfl : u = Value.ref a := r2
  rcases q with ⟨ea, q⟩ | ⟨dx, fs, ea, ed, hl, q⟩
  · exact set_first T I2 ea hno r1 fun dx s' n ne J => ⟨σ, _, J, q dx n ne⟩
  · exact set_more T I2 ea ed hl hno r1 fun s' J => ⟨σ, _, J, q⟩
end
end Kx
end
section
set_option maxRecDepth 100000
set_option maxHeartbeats 4000000
/-! Kx: own exceptions made: by a class whose __init__ is a def, or by one without. -/
namespace Kx
open PySem PySem.Spec PyProof.Rows L2 PySem.W PySem.Calls
section
variable {prog : Program} {w : World} {M : Model} {A : Around} {E : Value → Shared → Prop} {R : Result → Shared → Prop} {h : Heap} {g : Array GenState} {d : Drawn} {t : Nat} {os : OsState}
variable {nm q : Str} {C N : Addr} {bs bm bmB : List Value} {hdct : Bool} {sn : List Str} {sub : List Value} {ab : Bool} {col : Option Bool} {dd : Option Addr} {k0 k1 k2 k3 k5 : Option Value} {B newId initId : String}
/-- what the making asks of a class's bases -/
structure Bases (B : String) (C : Addr) (bm : List Value) : Prop where
  b : (Value.ref C :: bm).contains (.type B) = true
  a : (Value.ref C :: bm).contains (.type "AttributeError") = false
  n : (Value.ref C :: bm).contains (.type "NameError") = false
theorem made_check (F : ExcBaseFacts B newId initId bmB) (Z : Bases B C bm) {rest : List Value} {Q : Unit → Shared → Prop}
    (hC : h.get? C = some (excClassObj nm q C N bs bm hdct sn sub ab col dd k0 k1 k2 k3 k5 newId)) (hq : Q () ⟨h, g, d, t, os⟩) : wpAny M A (checkBuiltinCall newId ⟨.ref C :: rest, []⟩) Q E ⟨h, g, d, t, os⟩ := by
  have hB := Z.b
  have st := F.noStar
  simp only [checkBuiltinCall, F.newKind, F.newSplit, F.newRow]
  repeat (first | refine wpAny_loadPart_at hC ?_ | (refine wpAny_isSubtype_exc hC ?_; rw [hB]) | refine wpAny_staticBase_exc hC ?_ | refine wpAny_madeBy_exc hC ?_ | simp only [bne_self_eq_false, Bool.false_eq_true, if_false] | wp_step)
  exact hq
theorem made_new (F : ExcBaseFacts B newId initId bmB) (Z : Bases B C bm) {rest : List Value}
    (hC : h.get? C = some (excClassObj nm q C N bs bm hdct sn sub ab col dd k0 k1 k2 k3 k5 newId))
    (hq : R (.ok (.ret (.ref (h.objs.size + 1)))) ⟨(h.push (kdv_tup rest)).push (HandSPX.excO C h.objs.size), g, d, t, os⟩) (hz : rest.length ≤ sizeLine) :
    codeAny (model prog w) A (.builtin newId ⟨.ref C :: rest, []⟩) R ⟨h, g, d, t, os⟩ := by
  have he := F.ends
  obtain ⟨hB, hA, hN⟩ := Z
  refine codeAny_builtinAt F.entry ?_
  unfold Builtin.«BaseException.__new__»
  refine PySem.wpAt_bind ?_
  show PySem.wpAt _ _ _ (stack >>= _) _ _ _
  refine PySem.wpAt_bind (PySem.wpAt_stack fun p below => PySem.wpAt_of_wpAny ?_)
  wp_walk
  refine PySem.wpAt_of_wpAny ?_
  rw [F.owner]
  repeat (first | with_reducible refine wpAny_madeHere_exc F.canon hC ?_ | with_reducible refine wpAny_loadPart_at hC ?_ | (with_reducible refine wpAny_isSubtype_exc hC ?_; first | rw [hB] | rw [hA] | rw [hN]) | wp_step)
  show R _ _
  rw [Heap.size_push]
  exact hq
theorem made_type (F : ExcBaseFacts B newId initId bmB) (Z : Bases B C bm) {rest : List Value} {fI : Addr} {Q : Fin → Shared → Prop}
    (hC : h.get? C = some (excClassObj nm q C N bs bm hdct sn sub ab col dd k0 k1 k2 k3 k5 newId))
    (hi : Looks (model prog w) h (typeLookup (.ref C) "__init__") (some (.ref fI))) (hb : ∀ self, Looks (model prog w) h (bindSpecial (.ref fI) self) (.ref fI, [self])) (hz : rest.length ≤ sizeLine)
    (hq : codeAny (model prog w) A (.call (.ref fI) ⟨.ref (h.objs.size + 1) :: rest, []⟩)
      (fun r s' => match r with | .ok (.ret v) => v = .none ∧ Q (.done (.ret (.ref (h.objs.size + 1)))) s' | .ok _ => False | .error e => E e s')
      ⟨(h.push (kdv_tup rest)).push (HandSPX.excO C h.objs.size), g, d, t, os⟩) :
    wpAny (model prog w) A (Builtin.«type.__call__» ⟨.ref C :: rest, []⟩) Q E ⟨h, g, d, t, os⟩ := by
  repeat (first | with_reducible refine wpAny_loadPart_at hC ?_ | with_reducible refine wpAny_madeBy_exc hC ?_ | wp_step)
  refine codeAny_call_builtin_code (Code.quiet_builtin _ F.quiet) (made_check F Z hC ?_)
  refine made_new F Z hC ?_ hz
  show wpAny _ _ _ _ _ _
  have k : ∀ b o, h.get? b = some o → ((h.push (kdv_tup rest)).push (HandSPX.excO C h.objs.size)).get? b = some o := fun b o e => Heap.get?_push_of_some _ (Heap.get?_push_of_some _ e)
  have hC₁ := k _ _ hC
  have ob : ((h.push (kdv_tup rest)).push (HandSPX.excO C h.objs.size)).get? (h.objs.size + 1) = some (HandSPX.excO C h.objs.size) := by heap_get
  have cc : (Value.ref C :: bm).contains (.ref C) = true := by simp
  have i1 := hi.keeps k
  have b1 := (hb (.ref (h.objs.size + 1))).keeps k
  unfold isInstance
  repeat (first | with_reducible refine wpAny_loadPart_at ob ?_ | (with_reducible refine wpAny_isSubtype_exc hC₁ ?_; rw [cc]) | wp_step)
  show wpAny _ _ (typeLookup (.ref C) _) _ _ _
  refine i1.at ?_
  refine wpAny_holding (wpAny_bind (b1.at ?_))
  refine wpAny_bind (wpAny_call (codeAny_mono hq fun r s' z => ?_))
  rcases r with e | (v | _ | _ | _) <;> first | exact z | exact z.elim | skip
  obtain ⟨rfl, z⟩ := z
  first
    | exact wpAny_pure (wpAny_pure z)
    | (wp_walk; exact z)
theorem made_call (F : ExcBaseFacts B newId initId bmB) (Z : Bases B C bm) {rest : List Value} {fI : Addr}
    (hC : h.get? C = some (excClassObj nm q C N bs bm hdct sn sub ab col dd k0 k1 k2 k3 k5 newId))
    (hi : Looks (model prog w) h (typeLookup (.ref C) "__init__") (some (.ref fI))) (hb : ∀ self, Looks (model prog w) h (bindSpecial (.ref fI) self) (.ref fI, [self])) (hz : rest.length ≤ sizeLine)
    (hq : codeAny (model prog w) (A.under (.builtin "type.__call__" ⟨.ref C :: rest, []⟩)) (.call (.ref fI) ⟨.ref (h.objs.size + 1) :: rest, []⟩) (InitBack (h.objs.size + 1) R)
      ⟨(h.push (kdv_tup rest)).push (HandSPX.excO C h.objs.size), g, d, t, os⟩) :
    codeAny (model prog w) A (.call (.ref C) ⟨rest, []⟩) R ⟨h, g, d, t, os⟩ := by
  have f1 := tc_lookup
  have f2 := tc_bind (.ref C)
  have hTy : (⟨h, g, d, t, os⟩ : Shared).TypeIs (.ref C) "type" := ⟨_, hC, rfl⟩
  refine codeAny_of_tree ?_
  show wpAny _ _ (callAny (.ref C) _) _ _ _
  repeat (any_goals (first | assumption | with_reducible refine wpAny_loadPart_at hC ?_ | wp_step))
  refine ⟨rfl, ?_⟩
  refine codeAny_call_builtin_at (Code.quiet_builtin _ (by decide +kernel)) entry_typeCall (wpAny_check_type_call_sub hC (made_type F Z hC hi hb hz ?_))
  refine codeAny_mono hq fun r s' z => ?_
  rcases r with e | (v | _ | _ | _) <;> exact z
end
/-- the class's bases and maker, as the written part has them -/
def basesIn (K : W.Frag) (C : Addr) (B newId : String) : Bool := match K.lookup C with
  | some ⟨.type "type", _, .cls cd, sl⟩ => (match cd.mro, sl.toList with
    | .ref C' :: bm, [_, _, _, _, some (.builtin n), _] => C' == C && n == newId && !cd.hasDel && (Value.ref C :: bm).contains (.type B) && !(Value.ref C :: bm).contains (.type "AttributeError") && !(Value.ref C :: bm).contains (.type "NameError")
    | _, _ => false)
  | _ => false
theorem bases_of {K : W.Frag} {h : Heap} {C : Addr} {B newId : String} (X : K.In h) (q : basesIn K C B newId = true) : ∃ nm N qn bs bm hdct sn sub ab col dd k0 k1 k2 k3 k5,
    h.get? C = some (excClassObj nm qn C N bs bm hdct sn sub ab col dd k0 k1 k2 k3 k5 newId) ∧ Bases B C bm := by
  unfold basesIn at q
  split at q
  · rename_i dd cd sl ho
    split at q
    · rename_i C' bm k0 k1 k2 k3 n k5 hm hs
      simp only [Bool.and_eq_true, beq_iff_eq, Bool.not_eq_true'] at q
      obtain ⟨⟨⟨⟨⟨rfl, rfl⟩, hdel⟩, hb⟩, ha⟩, hn⟩ := q
      obtain ⟨nm, bs, mro, ns, qn, hd, sn, sub, ab, col, del⟩ := cd
      dsimp only at hm hdel
      subst hm hdel
      have hsl : sl = #[k0, k1, k2, k3, some (.builtin n), k5] := by
        obtain ⟨l⟩ := sl
        simp only at hs
        rw [hs]
      subst hsl
      exact ⟨nm, ns, qn, bs, bm, hd, sn, sub, ab, col, dd, k0, k1, k2, k3, k5, X _ _ ho, ⟨hb, ha, hn⟩⟩
    · cases q
  · cases q
/-- a class whose __init__ is the def at fI, and how it is made -/
structure ECI (K : W.Frag) (mg : Str → Option Value) (x : Str) (C fI : Addr) : Prop extends EC K C where
  mgC : mg x = some (.ref C)
  mkr : ∃ (B newId initId : String) (bmB : List Value), ExcBaseFacts B newId initId bmB ∧ basesIn K C B newId = true
  iC : findIn K (.ref C) "__init__" = some (some (.ref fI))
  tI : typeIn K (.ref fI) = some (.type "function")
/-- a class without __init__ -/
structure ECN (K : W.Frag) (mg : Str → Option Value) (x : Str) (C : Addr) : Prop extends EC K C where
  mgC : mg x = some (.ref C)
  mkr : ∃ (B newId initId : String) (bmB : List Value), ExcBaseFacts B newId initId bmB ∧ excIn K C bmB newId = true
section
variable {X : Cx} {x : Str} {C fI : Addr} {k : Nat} {fd : FuncData} {ps : List Str} {sp : Sp} {p pos : Pos} {e : Expr} {es : List Expr} {ta : TA} {CX : CXT}
/-- C(..) of a class without __init__, as a value -/
def tMkN (C : Addr) (ta : TA) : TE := fun σ H Q => ta σ H fun vs H1 => vs.length ≤ 1000 ∧ ∀ a, H1 a = none → Q (.ref a) (upd H1 a (exo a C none))
theorem mkN_run (T : ECN X.K X.mg x C) {pins : List (Addr × Obj)} {σ : L2.St} {H : Hp} {s : Shared} {us : List Value} {Q : VK} (I : Inv X pins σ H s) (hl : us.length ≤ 1000) (h : ∀ a, H a = none → Q (.ref a) (upd H a (exo a C none))) :
    wpAny (model X.prog X.w) X.A (call (.ref C) us) (EP X pins σ Q) X.xe s := by
  obtain ⟨B, newId, initId, bmB, F, q⟩ := T.mkr
  obtain ⟨bm, N, nm, qn, bs, hdct, sn, sub, ab, col, dd, k0, k1, k2, k3, k5, mN, hC, hN, hni, Z⟩ := exc_obj I.kIn q
  refine wpAny_call_exc_subT F Z hC hN hni (fun h' a hm => ?_) (by rw [sizeLine_eq]; omega)
  have hn : H a = none := I.hok.gone hm.new
  obtain ⟨t, ht, _, _⟩ := hm.there
  exact ⟨.ref a, upd H a (exo a C none), I.laidN hm.keeps hm.new hn (exo_ok ht), rfl, h a hn⟩
theorem pe_mkN (T : ECN X.K X.mg x C) (hg : Gl X x) (ha : PA X (e :: es) ta) (hdb : (x == ("__debug__" : Str)) = false := by decide) (he : starEach (e :: es) X.env = (false, eval e X.env) :: starEach es X.env := by rfl) (hpl : (backTo pos (starEach es X.env)).any (·.1) = false := by rfl) :
    PE X (.Call (.Name x p) (e :: es) [] pos) (tMkN C ta) := by
  constructor
  intro pins s σ H Q I h
  refine wpAny_Call_Name_kw (ld_glob I hg T.mgC ?_ hdb)
  refine callWith_K (h₀ := X.base) I.ok.mod.kin T.kC (thn (ha.run pos pins s σ H _ I h) fun us s1 hh => ?_) he hpl
  obtain ⟨vs, H1, I1, r1, hz, q1⟩ := hh
  refine ⟨I1.kIn, ?_⟩
  exact mkN_run (us := us) T I1 (by rw [← r1.length]; exact hz) q1
theorem pe_mkN0 (T : ECN X.K X.mg x C) (hg : Gl X x) (hdb : (x == ("__debug__" : Str)) = false := by decide) : PE X (.Call (.Name x p) [] [] pos) (tMkN C tNil) := by
  constructor
  intro pins s σ H Q I h
  refine wpAny_Call_Name_kw (ld_glob I hg T.mgC ?_ hdb)
  exact callWith_K0 I.kIn T.kC (mkN_run (us := []) T I (by simp) h.2)
/-- C(..) of a class whose __init__ keeps sp, as a value -/
def tMkI (C : Addr) (sp : Sp) (ta : TA) : TE := fun σ H Q => ta σ H fun vs H1 => vs.length ≤ 1000 ∧ ∀ a, H1 a = none → sp (.ref a :: vs) (upd H1 a (exo a C none)) (fun v H2 => v = .non ∧ Q (.ref a) H2) (fun _ _ _ => False)
theorem pe_mkI (T : ECI X.K X.mg x C fI) (F1 : FnOk X.prog X.w X.K X.mg X.base CX k fI fd ps sp) (hr : Room (k + 1) X.A) (hb : Binds X.K fd ps []) (hx : Passes CX X (fun _ _ _ => False)) (hg : Gl X x) (ha : PA X (e :: es) ta)
    (hdb : (x == ("__debug__" : Str)) = false := by decide) (he : starEach (e :: es) X.env = (false, eval e X.env) :: starEach es X.env := by rfl) (hpl : (backTo pos (starEach es X.env)).any (·.1) = false := by rfl) :
    PE X (.Call (.Name x p) (e :: es) [] pos) (tMkI C sp ta) := by
  constructor
  intro pins s σ H Q I h
  refine wpAny_Call_Name_kw (ld_glob I hg T.mgC ?_ hdb)
  refine callWith_K (h₀ := X.base) I.ok.mod.kin T.kC (thn (ha.run pos pins s σ H _ I h) fun us s1 hh => ?_) he hpl
  obtain ⟨vs, H1, I1, r1, hz, q1⟩ := hh
  refine ⟨I1.kIn, ?_⟩
  show wpAny _ _ (call (.ref C) us) _ _ _
  obtain ⟨B, newId, initId, bmB, F, q⟩ := T.mkr
  obtain ⟨nm, N, qn, bs, bm, hdct, sn, sub, ab, col, dd, k0, k1, k2, k3, k5, hC, Z⟩ := bases_of I1.kIn q
  obtain ⟨hp, g, dr, tk, os⟩ := s1
  have hsz : hp.objs.size ≤ hp.objs.size + 1 := Nat.le_succ _
  have hn : H1 (hp.objs.size + 1) = none := I1.hok.fresh hsz
  have hq := q1 (hp.objs.size + 1) hn
  have kk : ∀ b o, hp.get? b = some o → ((hp.push (kdv_tup us)).push (HandSPX.excO C hp.objs.size)).get? b = some o := fun b o e => Heap.get?_push_of_some _ (Heap.get?_push_of_some _ e)
  have hget : ((hp.push (kdv_tup us)).push (HandSPX.excO C hp.objs.size)).get? (hp.objs.size + 1) = some (HandSPX.excO C hp.objs.size) := by heap_get
  have I2 : Inv X pins σ (upd H1 (hp.objs.size + 1) (exo (hp.objs.size + 1) C none)) ⟨(hp.push (kdv_tup us)).push (HandSPX.excO C hp.objs.size), g, dr, tk, os⟩ :=
    I1.laid (t' := tk) (a := hp.objs.size + 1) (o := exo (hp.objs.size + 1) C none) (h' := (hp.push (kdv_tup us)).push (HandSPX.excO C hp.objs.size)) kk hsz (exo_ok hget)
  have r2 : Vals (V.ref (hp.objs.size + 1) :: vs) (Value.ref (hp.objs.size + 1) :: us) := .cons rfl r1
  have hl : (Value.ref (hp.objs.size + 1) :: us).length = ps.length := by
    rw [← r2.length]
    exact F1.len _ _ _ _ hq
  have hus : us.length ≤ sizeLine := by
    rw [← Paired.length r1, sizeLine_eq]
    omega
  have hbb := hb ⟨(hp.push (kdv_tup us)).push (HandSPX.excO C hp.objs.size), g, dr, tk, os⟩ (Value.ref (hp.objs.size + 1) :: us) I2.kIn (by rw [List.append_nil]; exact hl)
  rw [List.append_nil] at hbb
  refine wpAny_call (made_call F Z hC (looks_findIn I1.kIn T.iC) (fun self => bind_fn I1.kIn self T.tI) hus
    (codeAny_mono (F1.run _ X.stack _ _ ⟨Value.ref (hp.objs.size + 1) :: us, []⟩ (Value.ref (hp.objs.size + 1) :: us) _ _ (fun _ _ _ => False) (hr.make C us []) (I2.env0.make C us []) hbb r2 hq) fun r s' hq' => ?_))
  cases r with
  | error er => exact hx pins σ _ _ er s' I2 hq'
  | ok fl =>
    cases fl with
    | ret u =>
      obtain ⟨v, H2, os2, bare2, un2, hok2, rv, ev, q2⟩ := hq'
      subst ev
      refine ⟨rv, ?_⟩
      exact ⟨.ref (hp.objs.size + 1), H2, I2.call' (ch := []) os2 un2 hok2 bare2 (fun b z => absurd z (by simp)), rfl, q2⟩
    | next => exact False.elim hq'
    | brk => exact False.elim hq'
    | cont => exact False.elim hq'
end
end Kx
end
section
set_option maxRecDepth 100000
set_option maxHeartbeats 4000000
/-! Kx: a raise of such an exception; try with any except clauses: one class or a tuple of classes, with a name or without. -/
namespace Kx
open PySem PySem.Spec PyProof.Rows L2 PySem.W PySem.Calls
section
variable {M : Model} {K : W.Frag}
/-- a clause of five classes -/
theorem meets5 {c1 c2 c3 c4 c5 cls : Value} {tp e : Addr} {b : Bool} {h : Heap} (X : K.In h) (LT : Looks M h (typeOf (.ref e)) cls) (hp : h.get? tp = some { cls := .type "tuple", data := .seq [c1, c2, c3, c4, c5].toArray }) (hx : exmAny K cls [c1, c2, c3, c4, c5] = some b) :
    Looks M h (excMatches (.ref e) (.ref tp)) b := by
  intro A Q E s k₀ q
  obtain ⟨hh, g, d, tk, os⟩ := s
  have k : ∀ b o, h.get? b = some o → hh.get? b = some o := k₀
  have LT0 : Looks M h (isInstance (.ref tp) (.type "tuple")) true := ((Looks.ld hp).andThen .now).andThen (Looks.of_pure isSubtype_tuple_tuple)
  obtain ⟨b1, d1, x1, y1, z1⟩ := exmAny_cons hx
  obtain ⟨b2, d2, x2, y2, z2⟩ := exmAny_cons y1
  obtain ⟨b3, d3, x3, y3, z3⟩ := exmAny_cons y2
  obtain ⟨b4, d4, x4, y4, z4⟩ := exmAny_cons y3
  obtain ⟨b5, d5, x5, y5, z5⟩ := exmAny_cons y4
  have w5 : some false = some d5 := y5
  cases w5
  obtain ⟨e1, S1⟩ := exm_cls (M := M) X x1
  obtain ⟨e2, S2⟩ := exm_cls (M := M) X x2
  obtain ⟨e3, S3⟩ := exm_cls (M := M) X x3
  obtain ⟨e4, S4⟩ := exm_cls (M := M) X x4
  obtain ⟨e5, S5⟩ := exm_cls (M := M) X x5
  have e1 := e1.keeps k
  have S1 := S1.keeps k
  have e2 := e2.keeps k
  have S2 := S2.keeps k
  have e3 := e3.keeps k
  have S3 := S3.keeps k
  have e4 := e4.keeps k
  have S4 := S4.keeps k
  have e5 := e5.keeps k
  have S5 := S5.keeps k
  have LT := LT.keeps k
  have LT0 := LT0.keeps k
  have hp' := k _ _ hp
  subst z1 z2 z3 z4 z5
  unfold excMatches
  refine wpAny_bind (LT0.at ?_)
  dsimp only
  rw [if_pos rfl]
  first
    | refine wpAny_bind (wpAny_seqItems hp' rfl ?_)
    | refine wpAny_bind (wpAny_bind (wpAny_seqItems hp' rfl (wpAny_pure ?_)))
  dsimp only [Option.getD_some, Option.getD]
  cases b1 <;> cases b2 <;> cases b3 <;> cases b4 <;> cases b5 <;> ((repeat (first | simp only [List.forIn_cons, List.forIn_nil, Bool.not_true, Bool.false_eq_true, if_false, if_true] | lk)); exact q)
/-- a clause of so many classes -/
theorem meetsN : ∀ {cs : List Value} {cls : Value} {tp e : Addr} {b : Bool} {h : Heap}, 2 ≤ cs.length → cs.length ≤ 5 → K.In h → Looks M h (typeOf (.ref e)) cls → h.get? tp = some { cls := .type "tuple", data := .seq cs.toArray } → exmAny K cls cs = some b →
    Looks M h (excMatches (.ref e) (.ref tp)) b
  | [_, _], _, _, _, _, _, _, _, X, LT, hp, hx => exm_tup2 X LT hp hx
  | [_, _, _], _, _, _, _, _, _, _, X, LT, hp, hx => exm_tup3 X LT hp hx
  | [_, _, _, _], _, _, _, _, _, _, _, X, LT, hp, hx => exm_tup4 X LT hp hx
  | [_, _, _, _, _], _, _, _, _, _, _, _, X, LT, hp, hx => meets5 X LT hp hx
  | [], _, _, _, _, _, a, _, _, _, _, _ => absurd a (by simp)
  | [_], _, _, _, _, _, a, _, _, _, _, _ => absurd a (by simp)
  | _ :: _ :: _ :: _ :: _ :: _ :: _, _, _, _, _, _, _, a, _, _, _, _ => absurd a (by simp)
end
/-- raise C(..), C's __init__ keeping sp -/
def tRsI (C : Addr) (sp : Sp) (ta : TA) : L2.St → Hp → XK → Prop := fun σ H Q => ta σ H fun vs H1 => vs.length ≤ 1000 ∧ ∀ a, H1 a = none → sp (.ref a :: vs) (upd H1 a (exo a C none))
  (fun v H2 => v = .non ∧ ∃ (d : Addr) (fs : List (Str × V)), H2 a = some (exo a C (some d)) ∧ H2 d = some (exd d fs) ∧ H1 d = none ∧ Q (.ref C) (some d) (upd (del H2 a) d (.xd fs))) (fun _ _ _ => False)
section
variable {X : Cx} {x : Str} {C fI : Addr} {k : Nat} {fd : FuncData} {ps : List Str} {sp : Sp} {p pos : Pos} {e : Expr} {es : List Expr} {ta : TA} {CX : CXT}
theorem pmk_rsI (T : ECI X.K X.mg x C fI) (F1 : FnOk X.prog X.w X.K X.mg X.base CX k fI fd ps sp) (hr : Room (k + 1) X.A) (hb : Binds X.K fd ps []) (hx : Passes CX X (fun _ _ _ => False)) (hg : Gl X x) (ha : PA X (e :: es) ta)
    (hdb : (x == ("__debug__" : Str)) = false := by decide) (he : starEach (e :: es) X.env = (false, eval e X.env) :: starEach es X.env := by rfl) (hpl : (backTo pos (starEach es X.env)).any (·.1) = false := by rfl) :
    PMk X (.Call (.Name x p) (e :: es) [] pos) (tRsI C sp ta) := by
  intro pins s σ H Q I h
  refine wpAny_Call_Name_kw (ld_glob I hg T.mgC ?_ hdb)
  refine callWith_K (h₀ := X.base) I.ok.mod.kin T.kC (thn (ha.run pos pins s σ H _ I h) fun us s1 hh => ?_) he hpl
  obtain ⟨vs, H1, I1, r1, hz, q1⟩ := hh
  refine ⟨I1.kIn, ?_⟩
  show wpAny _ _ (call (.ref C) us) _ _ _
  obtain ⟨B, newId, initId, bmB, F, q⟩ := T.mkr
  obtain ⟨nm, N, qn, bs, bm, hdct, sn, sub, ab, col, dd, k0, k1, k2, k3, k5, hC, Z⟩ := bases_of I1.kIn q
  obtain ⟨hp, g, dr, tk, os⟩ := s1
  have hsz : hp.objs.size ≤ hp.objs.size + 1 := Nat.le_succ _
  have hn : H1 (hp.objs.size + 1) = none := I1.hok.fresh hsz
  have hq := q1 (hp.objs.size + 1) hn
  have kk : ∀ b o, hp.get? b = some o → ((hp.push (kdv_tup us)).push (HandSPX.excO C hp.objs.size)).get? b = some o := fun b o e => Heap.get?_push_of_some _ (Heap.get?_push_of_some _ e)
  have hget : ((hp.push (kdv_tup us)).push (HandSPX.excO C hp.objs.size)).get? (hp.objs.size + 1) = some (HandSPX.excO C hp.objs.size) := by heap_get
  have I2 : Inv X pins σ (upd H1 (hp.objs.size + 1) (exo (hp.objs.size + 1) C none)) ⟨(hp.push (kdv_tup us)).push (HandSPX.excO C hp.objs.size), g, dr, tk, os⟩ :=
    I1.laid (t' := tk) (a := hp.objs.size + 1) (o := exo (hp.objs.size + 1) C none) (h' := (hp.push (kdv_tup us)).push (HandSPX.excO C hp.objs.size)) kk hsz (exo_ok hget)
  have r2 : Vals (V.ref (hp.objs.size + 1) :: vs) (Value.ref (hp.objs.size + 1) :: us) := .cons rfl r1
  have hl : (Value.ref (hp.objs.size + 1) :: us).length = ps.length := by
    rw [← r2.length]
    exact F1.len _ _ _ _ hq
  have hus : us.length ≤ sizeLine := by
    rw [← Paired.length r1, sizeLine_eq]
    omega
  have hbb := hb ⟨(hp.push (kdv_tup us)).push (HandSPX.excO C hp.objs.size), g, dr, tk, os⟩ (Value.ref (hp.objs.size + 1) :: us) I2.kIn (by rw [List.append_nil]; exact hl)
  rw [List.append_nil] at hbb
  refine wpAny_call (made_call F Z hC (looks_findIn I1.kIn T.iC) (fun self => bind_fn I1.kIn self T.tI) hus
    (codeAny_mono (F1.run _ X.stack _ _ ⟨Value.ref (hp.objs.size + 1) :: us, []⟩ (Value.ref (hp.objs.size + 1) :: us) _ _ (fun _ _ _ => False) (hr.make C us []) (I2.env0.make C us []) hbb r2 hq) fun r s' hq' => ?_))
  cases r with
  | error er => exact hx pins σ _ _ er s' I2 hq'
  | ok fl =>
    cases fl with
    | ret u =>
      obtain ⟨v, H2, os2, bare2, un2, hok2, rv, ev, d, fs, ea, ed, hd1, q2⟩ := hq'
      subst ev
      obtain ⟨h2, g2, d2, t2, os'⟩ := s'
      exact ⟨rv, mk_end (raises_own T.exC T.tyC) I1 hsz kk un2 hok2 os2 bare2 ea ed hd1 q2⟩
    | next => exact False.elim hq'
    | brk => exact False.elim hq'
    | cont => exact False.elim hq'
theorem pmk_rsN (T : ECN X.K X.mg x C) (hg : Gl X x) {te : TE} (ha : PE X e te) (hs : starEach [e] X.env = (false, eval e X.env) :: starEach [] X.env := by rfl) (hdb : (x == ("__debug__" : Str)) = false := by decide) :
    PMk X (.Call (.Name x p) [e] [] pos) (fun σ H Q => te σ H fun _ H1 => Q (.ref C) none H1) := by
  obtain ⟨B, newId, initId, bmB, F, q⟩ := T.mkr
  exact SkE.pmk_own1 F q T.mgC T.kC (raises_own T.exC T.tyC) hg ha hs hdb
end
/-! ### try with any clauses -/
abbrev Clz := List Value × Option Nat × (Addr → Value → Option Addr → TS)
/-- behind a suite whose name stands in slot i -/
def offS (i : Nat) (D : Ends) : Ends := { nx := fun σ H => D.nx (σ.set i none) H, rt := D.rt, bk := fun σ H => D.bk (σ.set i none) H, ct := fun σ H => D.ct (σ.set i none) H }
def wHs (K : W.Frag) (Wout : WX) (D : Ends) : List Clz → WX
  | [] => Wout
  | (cs, oi, ts) :: r => fun cls d σ H => ∃ b, exmAny K cls cs = some b ∧
      (b = true → ∀ a, H a = none → match oi with | none => ts a cls d D σ H | some i => ts a cls d (offS i D) (σ.set i (some (.ref a))) H) ∧ (b = false → wHs K Wout D r cls d σ H)
inductive Nms (X : Cx) : List Expr → List Value → Prop
  | nil : Nms X [] []
  | cons {x : Str} {p : Pos} {c : Value} {es : List Expr} {cs : List Value} (h : Names X x c) (hs : starEach (.Name x p :: es) X.env = (false, eval (.Name x p) X.env) :: starEach es X.env) (r : Nms X es cs) : Nms X (.Name x p :: es) (c :: cs)
inductive Clause (X : Cx) : Expr → List Value → Prop
  | one {x : Str} {p : Pos} {c : Value} (h : Names X x c) : Clause X (.Name x p) [c]
  | tup {es : List Expr} {cs : List Value} {k : Nat} {p : Pos} (h : Nms X es cs) (h2 : 2 ≤ cs.length) (h5 : cs.length ≤ 5) : Clause X (.Tuple es k p) cs
inductive HdG (X : Cx) : List ExceptHandler → List Clz → Prop
  | nil : HdG X [] []
  | bare {t : Expr} {cs : List Value} {ts : Addr → Value → Option Addr → TS} {b₀ : Stmt} {suite : List Stmt} {pos' : Pos} {hds : List ExceptHandler} {l : List Clz} (hc : Clause X t cs)
      (hsu : ∀ (a : Addr) (oe : Obj) (cls : Value) (d : Option Addr) (pn : List (Addr × Obj)), Zc cls d oe → (∃ vs, oe.data = .fields vs) → PSs (X.suite a ((a, oe) :: pn)) (b₀ :: suite) (ts a cls d)) (r : HdG X hds l) :
      HdG X (.ExceptHandler (some t) none (b₀ :: suite) pos' :: hds) ((cs, none, ts) :: l)
  | named {t : Expr} {n : Str} {i : Nat} {cs : List Value} {ts : Addr → Value → Option Addr → TS} {b₀ : Stmt} {suite : List Stmt} {pos' : Pos} {hds : List ExceptHandler} {l : List Clz} (hc : Clause X t cs)
      (hN : X.N.Nodup) (hi : X.N[i]? = some n) (hln : X.env.kindOf n = some .local)
      (hsu : ∀ (a : Addr) (oe : Obj) (cls : Value) (d : Option Addr) (pn : List (Addr × Obj)), Zc cls d oe → (∃ vs, oe.data = .fields vs) → PSs (X.suite a ((a, oe) :: pn)) (b₀ :: suite) (ts a cls d)) (r : HdG X hds l) :
      HdG X (.ExceptHandler (some t) (some n) (b₀ :: suite) pos' :: hds) ((cs, some i, ts) :: l)
section
variable {X : Cx}
/-- the names of a clause, looked up while an exception is handled: nothing changes -/
theorem nms_run {a : Addr} {oe : Obj} {pn : List (Addr × Obj)} {σ : L2.St} {H : Hp} {s : Shared} (S : Inv (X.suite a ((a, oe) :: pn)) [] σ H s) (pos : Pos) : ∀ {es : List Expr} {cs : List Value} {Q : List Value → Shared → Prop} {E : Value → Shared → Prop}, Nms X es cs → Q cs s →
    wpAny (model X.prog X.w) (X.A.mark (some (.ref a))) (spliced (backTo pos (starEach es X.env))) Q E s
  | _, _, _, _, .nil, q => Calls.spliced_nil q
  | _, _, Q, E, .cons (x := x) (p := p) (c := c) (es := es) (cs := cs) h hs r, q => by
    rw [hs]
    show wpAny _ _ (spliced ((false, eval (.Name x p) X.env) :: backTo pos (starEach es X.env))) _ _ s
    refine Calls.spliced_cons ?_
    have go : wpAny (model X.prog X.w) (X.A.mark (some (.ref a))) (spliced (backTo pos (starEach es X.env))) (fun vs s₂ => Q (c :: vs) s₂) E s := nms_run S pos r q
    obtain ⟨hg, hdbg, hm | ⟨hm, hv, hnn⟩⟩ := h
    · exact ld_glob (X := X.suite a ((a, oe) :: pn)) S hg hm go hdbg
    · exact ld_blt (X := X.suite a ((a, oe) :: pn)) S hg hm hv go hnn hdbg
end
end Kx
end
section
set_option maxRecDepth 100000
set_option maxHeartbeats 4000000
namespace Kx
open PySem PySem.Spec PyProof.Rows L2 PySem.W PySem.Calls
theorem fly_push {B h : Heap} {l : List Env} {a : Addr} {Z : Obj → Prop} (o : Obj) (x : HandSPX.FlyingZ B l a Z h) : HandSPX.FlyingZ B l a Z (h.push o) := by
  obtain ⟨k1, k2, k3, oe, vs, T, oT, ts, he, hz, hd, h1, hnT, hTe, hT, hdT, h3⟩ := x
  have k : ∀ b u, h.get? b = some u → (h.push o).get? b = some u := fun b u e => Heap.get?_push_of_some _ e
  exact ⟨fun b u e => k b u (k1 b u e), k2, k3.of_keeps (fun b u e _ => ⟨u, k b u e, rfl⟩), oe, vs, T, oT, ts, k _ _ he, hz, hd, h1, hnT, hTe, k _ _ hT, hdT, h3⟩
section
variable {X : Cx} {body : List Stmt} {h₀ : ExceptHandler} {hds : List ExceptHandler} {l : List Clz} {pos : Pos} {tb : WX → TS} {Wout : WX}
theorem ps_try_hs (hs : X.stack = X.env :: X.outer) (hf : X.env.frame = some X.env.locals) (tk : Takes X Wout)
    (hb : ∀ (W : WX) (pn : List (Addr × Obj)) (xe : Value → Shared → Prop), Takes (X.tr pn xe) W → PassesOwn (model X.prog X.w) X.A X.env xe → PSs (X.tr pn xe) body (tb W))
    (hh : HdG X (h₀ :: hds) l) : PS X (.Try body (h₀ :: hds) [] [] pos) (fun D σ H => tb (wHs X.K Wout D l) D σ H) := by
  constructor
  intro pins s σ H D I h
  have ok := I.ok
  have hfr : X.A.frames = some (X.env :: X.outer) := by rw [ok.frames, hs]
  refine wpAny_Try_except ?_
  refine wpAny_mono ((hb (wHs X.K Wout D l) (X.pn ++ pins) (fun e s₁ => wpAny (model X.prog X.w) X.A (noteFrame e X.env) (fun _ s₂ => wpAny (model X.prog X.w) X.A (setFlight e none) (fun _ s₃ =>
    wpAny (model X.prog X.w) X.A (handleBy e X.env (h₀ :: hds)) (SP X pins D) X.xe s₃) X.xe s₂) X.xe s₁) (fun u s' xx => ?_) PassesOwn.looking).run [] s σ H D (I.toTry _) h) (fun f s1 hsp => ?_) (fun e s1 he => he)
  · obtain ⟨a, B, sI, pins', σ', H', cls, d, rfl, J', nb, up, sky, na, os, ag, w⟩ := xx
    have J : Inv X pins σ' H' sI := J'.ofTry ok
    have sky' : Sky B (X.env :: X.outer) a (Zc cls d) X.env.locals s'.heap := by rw [← hs]; exact sky
    show wpAny (model X.prog X.w) X.A (noteFrame (.ref a) X.env) _ _ _
    refine Sky.land Zc.steady hfr hf sky' fun h3 fl3 up3 => ?_
    have go : ∀ {hds' : List ExceptHandler} {l' : List Clz}, HdG X hds' l' → ∀ h4 : Heap, HandSPX.FlyingZ B (X.env :: X.outer) a (Zc cls d) h4 → sI.heap.UpToSlots h4 → wHs X.K Wout D l' cls d σ' H' →
        wpAny (model X.prog X.w) X.A (handleBy (.ref a) X.env hds') (SP X pins D) X.xe { s' with heap := h4 } := by
      intro hds' l' hk
      -- what a clause's test does, and the suite's state
      have facts : ∀ h4 : Heap, HandSPX.FlyingZ B (X.env :: X.outer) a (Zc cls d) h4 → sI.heap.UpToSlots h4 → ∃ oe vs, h4.get? a = some oe ∧ Zc cls d oe ∧ oe.data = .fields vs ∧ Inv (X.suite a ((a, oe) :: (X.pn ++ pins))) [] σ' H' { s' with heap := h4 } := by
        intro h4 fl4 up4
        have J4 : Inv X pins σ' H' { s' with heap := h4 } := J.landed nb fl4.1 up4 os ag
        obtain ⟨oe, vs, he, hz, hd⟩ := fl4.there
        have nfr : a ∉ frs (X.env :: X.outer) := fun hm => by
          obtain ⟨_, o', e', hnf⟩ := fl4.2.2.1.mem hm
          rw [he] at e'
          cases e'
          exact hnf _ hd
        have nL : a ≠ X.env.locals := fun z => nfr (List.mem_filterMap.mpr ⟨X.env, List.mem_cons_self, by rw [hf, z]⟩)
        have nF : a ∉ X.fs := fun hm => by
          obtain ⟨e, he', q⟩ := List.mem_filterMap.mp hm
          exact nfr (List.mem_filterMap.mpr ⟨e, List.mem_cons_of_mem _ he', q⟩)
        exact ⟨oe, vs, he, hz, hd, J4.suite he hd na nL nF⟩
      have suite_end : ∀ {σ0 : L2.St} {D0 : Ends} {b₀ : Stmt} {suite : List Stmt} {ts : Addr → Value → Option Addr → TS} {oe : Obj} {s5 : Shared} {Q : Flow → Shared → Prop} {E : Value → Shared → Prop},
          PSs (X.suite a ((a, oe) :: (X.pn ++ pins))) (b₀ :: suite) (ts a cls d) → Inv (X.suite a ((a, oe) :: (X.pn ++ pins))) [] σ0 H' s5 → ts a cls d D0 σ0 H' →
          (∀ f s6, SP X pins D0 f s6 → Q f s6) → wpAny (model X.prog X.w) (X.A.mark (some (.ref a))) (execs (b₀ :: suite) X.env) Q E s5 := by
        intro σ0 D0 b₀ suite ts oe s5 Q E hsu S5 hts hq
        refine wpAny_mono (hsu.run [] s5 σ0 H' D0 S5 hts) (fun f s6 hsp => hq f s6 ?_) (fun _ _ z => False.elim z)
        cases f with
        | next =>
          obtain ⟨σ6, H6, S6, q6⟩ := hsp
          exact ⟨_, _, S6.unsuite ok, q6⟩
        | brk =>
          obtain ⟨σ6, H6, S6, q6⟩ := hsp
          exact ⟨_, _, S6.unsuite ok, q6⟩
        | cont =>
          obtain ⟨σ6, H6, S6, q6⟩ := hsp
          exact ⟨_, _, S6.unsuite ok, q6⟩
        | ret u =>
          obtain ⟨v6, σ6, H6, S6, r6, q6⟩ := hsp
          exact ⟨_, _, _, S6.unsuite ok, r6, q6⟩
      have test : ∀ {t : Expr} {cs : List Value} (h4 : Heap), Clause X t cs → HandSPX.FlyingZ B (X.env :: X.outer) a (Zc cls d) h4 → sI.heap.UpToSlots h4 → ∀ {b : Bool}, exmAny X.K cls cs = some b → ∀ {Q : Bool → Shared → Prop} {E E' : Value → Shared → Prop},
          (∀ h5, HandSPX.FlyingZ B (X.env :: X.outer) a (Zc cls d) h5 → sI.heap.UpToSlots h5 → Q b { s' with heap := h5 }) →
          wpAny (model X.prog X.w) (X.A.mark (some (.ref a))) (eval t X.env) (fun c s₁ => wpAny (model X.prog X.w) (X.A.mark (some (.ref a))) (excMatches (.ref a) c) Q E s₁) E' { s' with heap := h4 } := by
        intro t cs h4 hc fl4 up4 b hb1 Q E E' hq
        obtain ⟨oe, vs, he, hz, hd, S4⟩ := facts h4 fl4 up4
        have LT : ∀ h5 : Heap, (∀ b o, h4.get? b = some o → h5.get? b = some o) → Looks (model X.prog X.w) h5 (typeOf (.ref a)) cls := fun h5 k A Q E s k' q => wpAny_typeOf_ref (k' _ _ (k _ _ he)) (by rw [hz.1]; exact q)
        cases hc with
        | @one x p c hn =>
          obtain ⟨b1, d1, x1, y1, z1⟩ := exmAny_cons hb1
          have w1 : some false = some d1 := y1
          cases w1
          rw [Bool.or_false] at z1
          subst z1
          have LM := exm_one (M := model X.prog X.w) S4.kIn (LT h4 fun _ _ e => e) x1
          have fin : wpAny (model X.prog X.w) (X.A.mark (some (.ref a))) (excMatches (.ref a) c) Q E { s' with heap := h4 } := LM.here (hq h4 fl4 up4)
          obtain ⟨hg, hdbg, hm | ⟨hm, hv, hnn⟩⟩ := hn
          · exact ld_glob (X := X.suite a ((a, oe) :: (X.pn ++ pins))) S4 hg hm fin hdbg
          · exact ld_blt (X := X.suite a ((a, oe) :: (X.pn ++ pins))) S4 hg hm hv fin hnn hdbg
        | @tup es cs k p hn h2 h5 =>
          refine wpAny_Tuple_spliced (nms_run S4 p hn ⟨by rw [sizeLine_eq]; omega, ?_⟩)
          have kp : ∀ b o, h4.get? b = some o → (h4.push { cls := .type "tuple", data := .seq cs.toArray }).get? b = some o := fun b o e => Heap.get?_push_of_some _ e
          have ht : (h4.push { cls := .type "tuple", data := .seq cs.toArray }).get? h4.objs.size = some { cls := .type "tuple", data := .seq cs.toArray } := Heap.get?_push_size _ rfl
          have LM := meetsN (M := model X.prog X.w) h2 h5 (S4.kIn.keeps kp) (LT _ kp) ht hb1
          exact LM.here (hq _ (fly_push _ fl4) (up4.trans (Heap.UpToSlots.of_keeps kp)))
      induction hk with
      | nil =>
        intro h4 fl4 up4 w
        refine wpAny_handleBy_nil ?_
        obtain ⟨k1, k2, k3, oe, vs, T, oT, ts', he, hz, hd, h1, hr⟩ := id fl4
        unfold PySem.passOn
        refine wpAny_bind (wpAny_field he hd h1 ?_)
        rw [if_neg (show ¬ ((Value.ref T == Value.none) = true) from by simp)]
        have fin : wpAny (model X.prog X.w) X.A (setFlight (.ref a) X.env.frame) (fun _ s4 => wpAny (model X.prog X.w) X.A (throw (.ref a) : Sem Flow) (SP X pins D) X.xe s4) X.xe { s' with heap := h4 } := by
          rw [hf]
          refine HandSPX.setFlight_upZ fl4 fun h5 hh5 up5 => wpAny_throw (tk _ _ ?_)
          exact ⟨a, B, sI, pins, σ', H', cls, d, rfl, J, nb, up4.trans up5, .inr (.inr (by rw [hs]; exact hh5)), na, os, ag, w⟩
        first
          | exact wpAny_bind (wpAny_pure (wpAny_bind fin))
          | exact wpAny_bind fin
      | @bare t cs ts b₀ suite pos' hds2 l2 hc hsu r ih =>
        intro h4 fl4 up4 w
        obtain ⟨b, hb1, hyes, hno⟩ := w
        refine wpAny_handleBy_cons (codeAny_handlers_test (test h4 hc fl4 up4 hb1 fun h5 fl5 up5 => ?_)) (by intro q; cases q)
        cases b with
        | true =>
          refine codeAny_handlers_suite ?_
          refine HandSPX.lands_againZ fl5 fun h6 fl6 up6 => ?_
          obtain ⟨oe, vs, he, hz, hd, S6⟩ := facts h6 fl6 (up5.trans up6)
          exact suite_end (hsu a oe cls d (X.pn ++ pins) hz ⟨_, hd⟩) S6 (hyes rfl a na) fun f s6 q => by cases f <;> exact q
        | false =>
          show wpAny _ X.A (handleBy (.ref a) X.env hds2) _ _ _
          exact ih h5 fl5 up5 (hno rfl)
      | @named t n i cs ts b₀ suite pos' hds2 l2 hc hN hi hln hsu r ih =>
        intro h4 fl4 up4 w
        obtain ⟨b, hb1, hyes, hno⟩ := w
        refine wpAny_handleBy_cons (codeAny_handlers_test (test h4 hc fl4 up4 hb1 fun h5 fl5 up5 => ?_)) (by intro q; cases q)
        cases b with
        | true =>
          refine codeAny_handlers_suite_as ?_
          refine HandSPX.lands_againZ fl5 fun h6 fl6 up6 => ?_
          obtain ⟨oe, vs, he, hz, hd, S6⟩ := facts h6 fl6 (up5.trans up6)
          refine store_ok (X := X.suite a ((a, oe) :: (X.pn ++ pins))) (v := .ref a) S6 hN hi (.inl hln) rfl (fun s5 S5 => ?_) (.inr hln)
          refine suite_end (D0 := offS i D) (hsu a oe cls d (X.pn ++ pins) hz ⟨_, hd⟩) S5 (hyes rfl a na) fun f s6 q => ?_
          have end_ : ∀ {σ6 : L2.St} {H6 : Hp} {Q : Shared → Prop}, Inv X pins σ6 H6 s6 → (∀ s7, Inv X pins (σ6.set i none) H6 s7 → Q s7) →
              wpAny (model X.prog X.w) X.A (do bindName X.env n .none; unbindBehindTheSuite X.env n pos') (fun _ s7 => Q s7) X.xe s6 := fun {σ6 H6 Q} S6 hq => gone_ok S6 hN hi hln hq
          cases f with
          | next =>
            obtain ⟨σ6, H6, S6, q6⟩ := q
            exact end_ S6 fun s7 J7 => ⟨_, _, J7, q6⟩
          | brk =>
            obtain ⟨σ6, H6, S6, q6⟩ := q
            exact end_ S6 fun s7 J7 => ⟨_, _, J7, q6⟩
          | cont =>
            obtain ⟨σ6, H6, S6, q6⟩ := q
            exact end_ S6 fun s7 J7 => ⟨_, _, J7, q6⟩
          | ret u =>
            obtain ⟨v6, σ6, H6, S6, r6, q6⟩ := q
            exact end_ S6 fun s7 J7 => ⟨_, _, _, J7, r6, q6⟩
        | false =>
          show wpAny _ X.A (handleBy (.ref a) X.env hds2) _ _ _
          exact ih h5 fl5 up5 (hno rfl)
    exact go hh h3 fl3 (up.trans up3) w
  · cases f with
    | next =>
      obtain ⟨σ', H', J', q⟩ := hsp
      exact wpAny_execs_nil ⟨σ', H', J'.ofTry ok, q⟩
    | brk =>
      obtain ⟨σ', H', J', q⟩ := hsp
      exact ⟨σ', H', J'.ofTry ok, q⟩
    | cont =>
      obtain ⟨σ', H', J', q⟩ := hsp
      exact ⟨σ', H', J'.ofTry ok, q⟩
    | ret u =>
      obtain ⟨v, σ', H', J', r, q⟩ := hsp
      exact ⟨v, σ', H', J'.ofTry ok, r, q⟩
end
end Kx
end
section
set_option maxRecDepth 100000
set_option maxHeartbeats 4000000
/-! Kx: errors that are held as values: isinstance, their fields. -/
namespace Kx
open PySem PySem.Spec PyProof.Rows L2 PySem.W PySem.Calls
section
variable {prog : Program} {w : World} {A : Around} {E : Value → Shared → Prop} {s : Shared} {K : W.Frag} {x D : Addr} {ox : Obj} {od : Option Obj}
theorem class_obj (T : EC K D) : findObj K D od "__class__" = some (.bind (.builtin "getset_descriptor.__get__") (.builtin "object.__class__")) := by
  obtain ⟨cd, hc, _⟩ := any_some T.hd
  unfold findObj
  rw [hc, Option.bind_some, T.ha, Option.bind_some]
  simp [T.hn, T.ht]
theorem class_read {Q : Option Value → Shared → Prop} (T : EC K D) (X : K.In s.heap) (I : InstAt s.heap x ox D od) (h : Q (some (.ref D)) { s with toks := s.toks + 1 }) : wpAny (model prog w) A (getAttr? (.ref x) "__class__") Q E s := by
  obtain ⟨hp, g, d, t, os⟩ := s
  have L0 := I.type (M := model prog w)
  have L1 := looks_findIn (M := model prog w) X T.ga
  have L2' := looks_findIn (M := model prog w) X T.gg
  have L3 := looks_find (M := model prog w) X I (class_obj T)
  have sb : Looks (model prog w) hp (isInstance (.ref x) (.type "BaseException")) true := L0.andThen (looks_subIn X T.exC)
  have h0 : (false && onTheHeap (Value.builtin "BaseException.__getattribute__")) = false := rfl
  have h2 : (Value.builtin "BaseException.__getattribute__" == Value.builtin "object.__getattribute__") = false := by decide +kernel
  have h1 : (onTheHeap (Value.ref D) && Value.builtin "BaseException.__getattribute__" == Value.builtin "object.__getattribute__") = false := by rw [h2]; rfl
  unfold getAttr? getAttrBy? getAttrBy
  refine wpAny_bind (wpAny_mkText (wpAny_bind (wpAny_attempt (wpAny_holding (wpAny_bind (L0.at (wpAny_bind (L1.at ?_))))))))
  show wpAny _ _ (if (onTheHeap (Value.ref D) && Value.builtin "BaseException.__getattribute__" == Value.builtin "object.__getattribute__") = true then _ else _) _ _ _
  rw [h1, if_neg Bool.false_ne_true]
  unfold getAttrByItsOwn hookBefore
  refine wpAny_bind ?_
  rw [if_pos (show onTheHeap (Value.ref D) = true from rfl)]
  refine L2'.at ?_
  refine wpAny_bind (wpAny_attempt (wpAny_holding ?_))
  unfold callGetattribute
  rw [h0, if_neg Bool.false_ne_true]
  unfold boundAndCalled
  rw [PySem.F.excAttr_ValueError.ga.bind (.ref x)]
  refine wpAny_bind (wpAny_pure ?_)
  show wpAny _ _ (call (.builtin "BaseException.__getattribute__") [.ref x, .str "__class__" t]) _ _ _
  refine wpAny_call (codeAny_call_builtin PySem.F.excAttr_ValueError.ga.plain PySem.F.entry_bexc_ga ?_)
  refine @check_slot (model prog w) _ _ ⟨hp, g, d, t + 1, os⟩ "BaseException.__getattribute__" "BaseException" "__getattribute__" (.ref x) [.str "__class__" t] [] _ (by decide +kernel) (by decide +kernel) sb (PySem.F.args_bexc_ga (.ref x) (.str "__class__" t)) ?_
  unfold Builtin.«object.__getattribute__»
  refine wpAny_bind (wpAny_of_eq (a := ((Value.ref x : Value), [Value.str "__class__" t])) (by first | rfl | (simp only [slotArgs]; rfl)) ?_)
  refine wpAny_bind (wpAny_pure (wpAny_bind (L0.at (wpAny_bind (L3.at ?_)))))
  show wpAny _ _ (holding [Value.builtin "object.__class__"] (call (.builtin "getset_descriptor.__get__") [.builtin "object.__class__", .ref x, .ref D]) >>= ret) _ _ _
  refine wpAny_bind (wpAny_holding (wpAny_call (class_get (s := ⟨hp, g, d, t + 1, os⟩) (ox := ox) (od := od) X I T.hm ?_)))
  refine wpAny_pure ?_
  show wpAny _ _ (handedOut (.ref D)) _ _ _
  rw [handedOut_of (v := .ref D) rfl]
  first
    | exact wpAny_pure (wpAny_pure h)
    | exact wpAny_pure h
    | exact wpAny_pure (wpAny_bind (wpAny_pure (wpAny_pure h)))
theorem kit_exc (T : EC K D) : KitX K (.ref x) (.ref D) (fun h => InstAt h x ox D od) where
  ty := fun _ _ _ I => I.type
  it := fun _ _ X _ => by
    obtain ⟨cdD, hcD, _⟩ := any_some T.hd
    unfold clsIn at hcD
    split at hcD
    · rename_i c' d' cd' sl' ho
      intro A' Q' E' s' k q
      unfold isType loadHead
      exact wpAny_bind (wpAny_loadPart (k _ _ (X _ _ ho)) (wpAny_pure q))
    · cases hcD
  ne := fun h tp dd its n sl X htp => by
    obtain ⟨cdD, hcD, _⟩ := any_some T.hd
    refine Bool.eq_false_iff.mpr fun q => ?_
    have e : D = tp := Value.ref.inj (beq_iff_eq.mp q)
    subst e
    unfold clsIn at hcD
    split at hcD
    · rename_i c' d' cd' sl' ho
      have z := (X _ _ ho).symm.trans htp
      cases z
    · cases hcD
  ca := fun X I k => class_read T X I k
end
/-- an error of the class at C stands at a: it has no dict, or its fields are fs -/
def ErrAt (H : Hp) (a C : Addr) (fs : List (Str × V)) : Prop := H a = some (exo a C none) ∨ ∃ dx, H a = some (exo a C (some dx)) ∧ H dx = some (exd dx fs)
theorem ErrAt.same {H H' : Hp} {a C : Addr} {fs : List (Str × V)} (e : Same H H') (h : ErrAt H a C fs) : ErrAt H' a C fs := by
  rcases h with h | ⟨dx, h, h2⟩
  · exact .inl (e _ _ h)
  · exact .inr ⟨dx, e _ _ h, e _ _ h2⟩
section
variable {X : Cx} {pins : List (Addr × Obj)} {σ : L2.St} {H : Hp} {s : Shared}
theorem err_inst (I : Inv X pins σ H s) {a C : Addr} {fs : List (Str × V)} (h : ErrAt H a C fs) : ∃ ox od, InstAt s.heap a ox C od := by
  rcases h with h | ⟨dx, h, h2⟩
  · obtain ⟨t1, ho⟩ := exo_at I.hok h
    exact ⟨_, none, ho, rfl, rfl, trivial⟩
  · obtain ⟨t1, ho⟩ := exo_at I.hok h
    obtain ⟨mA, hns, rel⟩ := exd_at I.hok h2
    obtain ⟨oD, _, _, hoD, _, _⟩ := hns.count (within_of rel)
    exact ⟨_, some oD, ho, rfl, rfl, hoD⟩
/-- isinstance(e, T), e such an error -/
def rIsx (K : W.Frag) : List V → Hp → VK → Prop := fun xs H Q => ∃ (a C : Addr) (fs : List (Str × V)) (c : V) (cv : Value) (b : Bool), xs = [.ref a, c] ∧ ErrAt H a C fs ∧ EC K C ∧ ClsV c cv ∧ kitOne K (.ref C) cv = some b ∧ Q (.bl b) H
theorem call_isx : CallR X (.builtin "isinstance") (rIsx X.K) := by
  intro pins s σ H xs us Q I r h
  obtain ⟨a, C, fs, c, cv, b, rfl, ha, T, k, e, q⟩ := h
  obtain ⟨u1, u2, rfl, r1, r2⟩ := vals2 r
  have e2 := k.eq r2
  subst e2
  obtain rfl : u1 = Value.ref a := r1
  obtain ⟨ox, od, J⟩ := err_inst I ha
  exact kia_one (kit_exc T) I.kIn J e (fun z => nomatch z) fun tk => ⟨.bl b, H, I.tok tk, rfl, q⟩
/-- e.f, e such an error with fields -/
def tErr (K : W.Frag) (f : Str) (te : TE) : TE := fun σ H Q => te σ H fun x H1 => ∃ (a C dx : Addr) (fs : List (Str × V)) (v : V), x = .ref a ∧ H1 a = some (exo a C (some dx)) ∧ H1 dx = some (exd dx fs) ∧ EC K C ∧ findIn K (.ref C) f = some none ∧ fs.lookup f = some v ∧ Q v H1
theorem pe_err {e : Expr} {te : TE} {f : Str} {pos : Pos} (he : PE X e te) (hb : attributeBase e f X.env (eval e X.env) = eval e X.env := by rfl) : PE X (.Attribute e f pos) (tErr X.K f te) := by
  constructor
  intro pins s σ H Q I h
  refine attr_of hb (thn (he.run pins s σ H _ I h) fun u s1 hh => ?_)
  obtain ⟨x, H1, I1, rx, a, C, dx, fs, v, ex, ea, ed, T, hno, l, q⟩ := hh
  subst ex
  obtain rfl : u = Value.ref a := rx
  obtain ⟨t1, ho⟩ := exo_at I1.hok ea
  obtain ⟨mA, hns, hr⟩ := exd_at I1.hok ed
  obtain ⟨oD, hoD, hl⟩ := lookIn_ns hns
  obtain ⟨u, hu, ru⟩ := RelO.some_of (v := v) (o := mA f) (by rw [← l]; exact hr f)
  have J : InstAt s1.heap a (EOb C (some dx) t1) C (some oD) := ⟨ho, rfl, rfl, hoD⟩
  exact HandSPX.exc_get I1.kIn J T.ga T.gg T.exC (findObj_own T.hd hno rfl (by rw [hl, hu])) (handed_of ru) ⟨v, H1, I1.tok _, ru, q⟩
end
end Kx
end
section
set_option maxRecDepth 100000
set_option maxHeartbeats 4000000
namespace Lk
open PySem L2 Kx
def top (i : Nat) : Stmt := PySem.Challenge.pw_whatparts_k00_errors_and_what_they_keep.main.body.getD i (.Pass ⟨0, 0, 0, 0⟩)
abbrev sDice : Stmt := top 13
abbrev sRoll : Stmt := top 14
abbrev sOne : Stmt := top 15
abbrev sVal : Stmt := top 16
abbrev sSorts : Stmt := top 17
abbrev sKinds : Stmt := top 18
abbrev sRaise : Stmt := top 19
abbrev sCaught : Stmt := top 20
abbrev sByBase : Stmt := top 21
abbrev sRight : Stmt := top 22
abbrev sLaw : Stmt := top 23
end Lk
end
section
set_option maxRecDepth 100000
set_option maxHeartbeats 4000000
/-! The dice of a law: made, rolled, one item drawn. -/
namespace Lk
open PySem L2 Kx PySem.Spec PyProof.Rows
/-- a power of bounded size -/
theorem op_powB {X : Cx} : OpR X (binaryOp .Pow) (rI (fun i j => 0 ≤ j ∧ (Builtin.Int.intBits i : Int) * j ≤ 2 ^ 27) fun i j => .int (i ^ j.toNat)) := opI fun _ _ _ _ _ _ _ hc q => pow_int hc.1 hc.2 q
/-- dice at p: a great rest, a mixed number, the rolls that were mixed -/
def DiceAt (H : Hp) (p : Addr) (n : Nat) : Prop := ∃ a b c : Int, H p = some (.lst [.int a, .int b, .int c]) ∧ 0 ≤ a ∧ a < 2 ^ 2000 ∧ 0 ≤ b ∧ b < 2147483399 ∧ 0 ≤ c ∧ c ≤ n
def spDice (K : PySem.W.Frag) : Sp := fun vs H Q _ => ∃ (p : Addr) (ns : List Int) (i : Nat), vs = [.ref p, .int i] ∧ SqL K H p (ns.map V.int) ∧ ns.length ≤ 63 ∧ i < 100 ∧
  ∀ d H', H d = none → Same H H' → DiceAt H' d 0 → Q (.ref d) H'
theorem big_ten : ((10 : Int) ^ (60 : Int).toNat) ^ (10 : Int).toNat < 2 ^ 2000 := by decide +kernel
theorem big_pos : 0 < ((10 : Int) ^ (60 : Int).toNat) ^ (10 : Int).toNat := by decide +kernel
theorem scDice : FnScope ["script", "at", "cell", "great", "left", "mixed"] ["script", "at"] (defScope sDice) := ⟨rfl, rfl, rfl, by decide +kernel, rfl, by decide +kernel, by decide +kernel⟩
structure TxtD (mg : Str → Option Value) : Prop where
  len : mg "len" = none
  int : mg "int" = none
  abs : mg "abs" = none
section
variable {P : Program} {w : World} {K : PySem.W.Frag} {mg : Str → Option Value} {base : Heap}
theorem int_item {ns : List Int} {i : Nat} {x : V} (h : (ns.map V.int)[i]? = some x) : ∃ n, x = .int n := by
  rw [List.getElem?_map] at h
  cases e : ns[i]? with
  | none => rw [e] at h; cases h
  | some n => rw [e] at h; exact ⟨n, (Option.some.inj h).symm⟩
theorem dice_end {c : Int} : 0 ≤ (if c < 0 then -c else c) % ((10 : Int) ^ (60 : Int).toNat) ^ (10 : Int).toNat ∧ (if c < 0 then -c else c) % ((10 : Int) ^ (60 : Int).toNat) ^ (10 : Int).toNat < 2 ^ 2000 :=
  ⟨Int.emod_nonneg _ (Int.ne_of_gt big_pos), Int.lt_trans (Int.emod_lt_of_pos _ big_pos) big_ten⟩
theorem dice_made {H : Hp} {d : Addr} {g m : Int} (h : 0 ≤ g ∧ g < 2 ^ 2000) : DiceAt (upd H d (.lst [.int (g / (10 : Int) ^ (18 : Int).toNat), .int (m % 2147483399), .int 0])) d 0 :=
  ⟨_, _, _, upd_same, Int.ediv_nonneg h.1 (by decide +kernel), Int.lt_of_le_of_lt (Int.ediv_le_self _ h.1) h.2, Int.emod_nonneg _ (by decide), Int.emod_lt_of_pos _ (by decide), by decide, by decide⟩
theorem ok_dice {f : Addr} {fd : FuncData} (F : Fun K "_law_dice" "_law_dice" sDice f fd) (T : TxtD mg) : FnOk P w K mg base CX0 1 f fd ["script", "at"] (spDice K) := by
  refine F.ok scDice (fun vs H Q E h => ?_) (fun cdv A outer s H vs Q E hr h => ?_)
  · obtain ⟨p, ns, i, rfl, _⟩ := h
    rfl
  · obtain ⟨p, ns, i, rfl, hS, hlen, hi, k⟩ := h
    refine ⟨_, pss_cons (ps_set (i := 2) scDice.nd rfl (Or.inl rfl) (pe_op op_add (pe_op op_mul pe_int (pv 1)) pe_int))
      (pss_cons (ps_if (pt_cmpR op_lt (pv 1) (pe_callB call_len_seq (by rfl) T.len PySem.boot_len (pa_cons (pv 0) pa_nil)) (nomark _)) (pss_one (ps_set (i := 2) scDice.nd rfl (Or.inl rfl) (pe_ix ix_list (pv 0) (pv 1) (fun _ _ => rfl)))) pss_nil)
      (pss_cons (ps_set (i := 3) scDice.nd rfl (Or.inl rfl) (pe_op op_mod (pe_callTy call_int1 (by rfl) T.int (by decide +kernel) (pa_cons (pe_callB call_abs (by rfl) T.abs (by decide +kernel) (pa_cons (pv 2) pa_nil)) pa_nil)) (pe_op op_powB (pe_op op_powB pe_int pe_int) pe_int)))
      (pss_cons (ps_set (i := 4) scDice.nd rfl (Or.inl rfl) (pe_op op_fdivW (pv 3) (pe_op op_powB pe_int pe_int)))
      (pss_cons (ps_set (i := 5) scDice.nd rfl (Or.inl rfl) (pe_op op_add (pe_op op_add (pe_op op_add (pe_op op_mul (pe_op op_mod (pv 3) pe_int) pe_int) (pe_op op_mul pe_int (pv 1))) (pe_op op_mul pe_int (pe_callTy call_int1 (by rfl) T.int (by decide +kernel) (pa_cons (pe_cmpR op_lt (pv 2) pe_int (nomark _)) pa_nil)))) pe_int))
      (pss_one (ps_ret (pe_lst (pa_cons (pv 4) (pa_cons (pe_op op_mod (pv 5) pe_int) (pa_cons pe_int pa_nil)))))))))), ?_⟩
    -- cell = 47 * at + 13
    refine ⟨_, rfl, _, _, rfl, rfl, Or.inl ⟨by decide, by decide⟩, _, _, rfl, rfl, ?_⟩
    -- at < len(script)
    refine ⟨_, rfl, _, rfl, p, _, rfl, Or.inl hS, _, _, rfl, rfl, _, rfl, ?_⟩
    have pos2 : (0 : Int) < 2147483477 := by decide
    have pos3 : (0 : Int) < 2147483399 := by decide
    refine ite2 (fun hlt => ?_) (fun _ => ?_)
    · have hlt' : (i : Int) < ((ns.map V.int).length : Int) := of_decide_eq_true hlt
      have hi' : i < (ns.map V.int).length := by omega
      obtain ⟨c, hc⟩ := int_item (List.getElem?_eq_getElem hi')
      refine ⟨_, rfl, _, rfl, p, _, _, .int c, rfl, rfl, hS, by rw [atI_nat]; rw [List.getElem?_eq_getElem hi', hc], ?_⟩
      refine ⟨_, rfl, _, rfl, Or.inl ⟨_, rfl, _, _, rfl, rfl, ⟨by decide, by decide +kernel⟩, _, _, rfl, rfl, ⟨by decide, by decide +kernel⟩, _, _, rfl, rfl, big_pos, ?_⟩⟩
      refine ⟨_, rfl, _, _, rfl, rfl, ⟨by decide, by decide +kernel⟩, _, _, rfl, rfl, ⟨by decide +kernel, by decide +kernel⟩, ?_⟩
      refine ⟨_, rfl, _, _, rfl, rfl, pos2, _, _, rfl, rfl, Or.inr ⟨by decide, by decide⟩, _, rfl, _, _, rfl, rfl, Or.inl ⟨by decide, by decide⟩, _, _, rfl, rfl, _, rfl, _, _, rfl, rfl, Or.inr ⟨_, rfl, _, _, rfl, rfl, Or.inl ⟨by decide, by decide⟩, _, _, rfl, rfl, _, _, rfl, rfl, ?_⟩⟩
      refine ⟨_, rfl, _, rfl, _, _, rfl, rfl, pos3, (by show 3 ≤ sizeLine; decide), fun d hd => k d _ hd (fun b o e => by rw [upd_ne (ne_of_none e hd)]; exact e) ?_⟩
      exact dice_made dice_end
    · refine ⟨_, rfl, _, rfl, Or.inl ⟨_, rfl, _, _, rfl, rfl, ⟨by decide, by decide +kernel⟩, _, _, rfl, rfl, ⟨by decide, by decide +kernel⟩, _, _, rfl, rfl, big_pos, ?_⟩⟩
      refine ⟨_, rfl, _, _, rfl, rfl, ⟨by decide, by decide +kernel⟩, _, _, rfl, rfl, ⟨by decide +kernel, by decide +kernel⟩, ?_⟩
      refine ⟨_, rfl, _, _, rfl, rfl, pos2, _, _, rfl, rfl, Or.inr ⟨by decide, by decide⟩, _, rfl, _, _, rfl, rfl, Or.inl ⟨by decide, by decide⟩, _, _, rfl, rfl, _, rfl, _, _, rfl, rfl, Or.inr ⟨_, rfl, _, _, rfl, rfl, Or.inl ⟨by decide, by decide⟩, _, _, rfl, rfl, _, _, rfl, rfl, ?_⟩⟩
      refine ⟨_, rfl, _, rfl, _, _, rfl, rfl, pos3, (by show 3 ≤ sizeLine; decide), fun d hd => k d _ hd (fun b o e => by rw [upd_ne (ne_of_none e hd)]; exact e) ?_⟩
      exact dice_made dice_end
/-! ### the roll -/
/-- dice[0], dice[1], dice[2] as they stand -/
def spRoll : Sp := fun vs H Q _ => ∃ (d : Addr) (t : Int) (n : Nat), vs = [.ref d, .int t] ∧ DiceAt H d n ∧ 0 < t ∧ t < 2 ^ 60 ∧ n ≤ 1000000 ∧
  ∀ (r : Int) (o : HO), 0 ≤ r → r < t → DiceAt (upd H d o) d (n + 1) → Q (.int r) (upd H d o)
theorem scRoll : FnScope ["dice", "total", "number", "drawn", "one", "two"] ["dice", "total"] (defScope sRoll) := ⟨rfl, rfl, rfl, by decide +kernel, rfl, by decide +kernel, by decide +kernel⟩
theorem mod_small {x m : Int} (hm : 0 < m) (h : m < 2 ^ 62) : (x % m).natAbs < 2 ^ 62 := by
  have h1 := Int.emod_nonneg x (Int.ne_of_gt hm)
  have h2 := Int.emod_lt_of_pos x hm
  omega
theorem ok_roll {f : Addr} {fd : FuncData} (F : Fun K "_law_roll" "_law_roll" sRoll f fd) (T : TxtD mg) : FnOk P w K mg base CX0 1 f fd ["dice", "total"] spRoll := by
  refine F.ok scRoll (fun vs H Q E h => ?_) (fun cdv A outer s H vs Q E hr h => ?_)
  · obtain ⟨d, t, n, rfl, _⟩ := h
    rfl
  · obtain ⟨d, t, n, rfl, ⟨a, b, c, hd, a0, a1, b0, b1, c0, c1⟩, t0, t1, hn, k⟩ := h
    refine ⟨_, pss_cons (ps_set (i := 2) scRoll.nd rfl (Or.inl rfl) (pe_callTy call_int1 (by rfl) T.int (by decide +kernel) (pa_cons (pv 1) pa_nil)))
      (pss_cons (ps_if (pt_cmpR op_gt (pe_ix ix_list (pv 0) pe_int (fun _ _ => rfl)) pe_int (nomark _))
        (pss_cons (ps_set (i := 3) scRoll.nd rfl (Or.inl rfl) (pe_op op_mod (pe_ix ix_list (pv 0) pe_int (fun _ _ => rfl)) (pv 2)))
        (pss_cons (ps_asg (pe_op op_fdivW (pe_ix ix_list (pv 0) pe_int (fun _ _ => rfl)) (pv 2)) (pg_sub (pv 0) pe_int set_list))
        (pss_one (ps_ret (pe_callTy call_int1 (by rfl) T.int (by decide +kernel) (pa_cons (pv 3) pa_nil)))))) pss_nil)
      (pss_cons (ps_asg (pe_op op_add (pe_ix ix_list (pv 0) pe_int (fun _ _ => rfl)) pe_int) (pg_sub (pv 0) pe_int set_list))
      (pss_cons (ps_set (i := 4) scRoll.nd rfl (Or.inl rfl) (pe_op op_mod (pe_op op_add (pe_ix ix_list (pv 0) pe_int (fun _ _ => rfl)) (pe_op op_mul pe_int (pe_ix ix_list (pv 0) pe_int (fun _ _ => rfl)))) pe_int))
      (pss_cons (ps_set (i := 5) scRoll.nd rfl (Or.inl rfl) (pe_op op_add (pe_op op_mulW (pe_op op_mod (pe_op op_mulW (pv 4) (pv 4)) pe_int) (pv 4)) (pe_op op_mul pe_int (pe_ix ix_list (pv 0) pe_int (fun _ _ => rfl)))))
      (pss_cons (ps_set (i := 5) scRoll.nd rfl (Or.inl rfl) (pe_op op_mod (pv 5) pe_int))
      (pss_one (ps_ret (pe_callTy call_int1 (by rfl) T.int (by decide +kernel) (pa_cons (pe_op op_mod (pe_op op_fdiv (pv 5) pe_int) (pv 2)) pa_nil))))))))), ?_⟩
    refine ⟨_, rfl, Or.inl ⟨_, rfl, ?_⟩⟩
    refine ⟨_, rfl, d, _, _, _, rfl, rfl, SqL.of hd, rfl, _, _, rfl, rfl, _, rfl, ?_⟩
    refine ite2 (fun hpos => ?_) (fun _ => ?_)
    · refine ⟨_, rfl, d, _, _, _, rfl, rfl, SqL.of hd, rfl, _, rfl, _, _, rfl, rfl, t0, ?_⟩
      refine ⟨_, rfl, d, _, _, _, rfl, rfl, SqL.of hd, rfl, _, rfl, _, _, rfl, rfl, wide_div (b := 60) t0 (by omega) (by decide) (by decide), ?_⟩
      refine ⟨_, rfl, d, _, _, 0, rfl, rfl, hd, rfl, ?_⟩
      refine ⟨_, rfl, Or.inl ⟨_, rfl, ?_⟩⟩
      refine k _ _ (Int.emod_nonneg _ (Int.ne_of_gt t0)) (Int.emod_lt_of_pos _ t0) ⟨_, b, c, upd_same, Int.ediv_nonneg a0 (Int.le_of_lt t0), Int.lt_of_le_of_lt (Int.ediv_le_self _ a0) a1, b0, b1, c0, by omega⟩
    · refine ⟨_, rfl, d, _, _, _, rfl, rfl, SqL.of hd, rfl, _, _, rfl, rfl, ?_⟩
      refine ⟨_, rfl, d, _, _, 2, rfl, rfl, hd, rfl, ?_⟩
      refine ⟨_, rfl, d, _, _, _, rfl, rfl, SqL.of upd_same, rfl, _, rfl, d, _, _, _, rfl, rfl, SqL.of upd_same, rfl, _, _, rfl, rfl, Or.inl ⟨by decide, by decide⟩, _, _, rfl, rfl, _, _, rfl, rfl, (by decide : (0 : Int) < 2305843009213693951), ?_⟩
      have h1 := mod_small (x := b + 1000081 * (c + 1)) (m := 2305843009213693951) (by decide) (by decide)
      refine ⟨_, rfl, _, rfl, _, _, rfl, rfl, wide_mul (a := 62) (b := 62) h1 h1 (by decide) (by decide) (by decide), _, _, rfl, rfl, (by decide : (0 : Int) < 2305843009213693921), _, rfl, _, _, rfl, rfl,
        wide_mul (a := 62) (b := 62) (mod_small (by decide) (by decide)) h1 (by decide) (by decide) (by decide), _, rfl, d, _, _, _, rfl, rfl, SqL.of upd_same, rfl, _, _, rfl, rfl, Or.inl ⟨by decide, by decide⟩, _, _, rfl, rfl, ?_⟩
      refine ⟨_, rfl, _, _, rfl, rfl, (by decide : (0 : Int) < 2305843009213693907), ?_⟩
      refine ⟨_, rfl, _, _, rfl, rfl, ⟨by decide, by decide⟩, _, rfl, _, _, rfl, rfl, t0, Or.inl ⟨_, rfl, ?_⟩⟩
      refine k _ _ (Int.emod_nonneg _ (Int.ne_of_gt t0)) (Int.emod_lt_of_pos _ t0) ⟨a, b, c + 1, upd_same, a0, a1, b0, b1, by omega, by omega⟩
end
end Lk
end
section
set_option maxRecDepth 100000
set_option maxHeartbeats 4000000
/-! One item drawn; a drawn value of some kind. -/
namespace Lk
open PySem L2 Kx PySem.Spec PyProof.Rows
theorem op_mulStr {X : Cx} : OpR X (binaryOp .Mult) (fun x y H Q => ∃ z n, x = .str z ∧ y = .int n ∧ MulOk z n ∧ Q (.str (Txt.mul z n)) H) := by
  intro pins s σ H x y v u Q I rx ry h
  obtain ⟨z, n, rfl, rfl, hm, q⟩ := h
  obtain ⟨t, rfl⟩ := rx
  obtain ⟨t2, rfl⟩ := ry
  exact SB.mul hm fun t' k => ⟨.str _, H, I.tok k, ⟨_, rfl⟩, q⟩
/-- what is not at d stands as it stood -/
def Keep (d : Addr) (H H' : Hp) : Prop := ∀ b o, b ≠ d → H b = some o → H' b = some o
theorem Keep.refl (d : Addr) (H : Hp) : Keep d H H := fun _ _ _ h => h
theorem Keep.trans {d : Addr} {H H1 H2 : Hp} (a : Keep d H H1) (b : Keep d H1 H2) : Keep d H H2 := fun c o n h => b c o n (a c o n h)
theorem Keep.new {d : Addr} {H : Hp} {p : Addr} {o : HO} (h : H p = none) : Keep d H (upd H p o) := fun c u _ e => by rw [upd_ne (ne_of_none e h)]; exact e
theorem Keep.at {d : Addr} {H : Hp} {o : HO} : Keep d H (upd H d o) := fun c u n e => by rw [upd_ne n]; exact e
theorem Keep.of {d : Addr} {H H' : Hp} (h : Same H H') : Keep d H H' := fun c o _ e => h c o e
theorem DiceAt.keep {H H' : Hp} {d : Addr} {n : Nat} (h : DiceAt H d n) (e : H' d = H d) : DiceAt H' d n := by
  obtain ⟨a, b, c, hd, r⟩ := h
  exact ⟨a, b, c, e.trans hd, r⟩
theorem DiceAt.new {H : Hp} {d p : Addr} {n : Nat} {o : HO} (h : DiceAt H d n) (hp : H p = none) : DiceAt (upd H p o) d n := by
  obtain ⟨a, b, c, hd, r⟩ := h
  exact ⟨a, b, c, by rw [upd_ne (ne_of_none hd hp)]; exact hd, r⟩
theorem DiceAt.ne {H : Hp} {d p : Addr} {n : Nat} (h : DiceAt H d n) (hp : H p = none) : p ≠ d := by
  obtain ⟨a, b, c, hd, r⟩ := h
  exact (ne_of_none hd hp).symm
theorem DiceAt.le {H : Hp} {d : Addr} {n m : Nat} (h : DiceAt H d n) (e : n ≤ m) : DiceAt H d m := by
  obtain ⟨a, b, c, hd, a0, a1, b0, b1, c0, c1⟩ := h
  exact ⟨a, b, c, hd, a0, a1, b0, b1, c0, by omega⟩
structure TxtR (K : PySem.W.Frag) (mg : Str → Option Value) (fR fO : Addr) : Prop extends TxtD mg where
  gRoll : mg "_law_roll" = some (.ref fR)
  kRoll : PySem.W.keepIn K (.ref fR) = true
  gOne : mg "_law_one_of" = some (.ref fO)
  kOne : PySem.W.keepIn K (.ref fO) = true
def spOne (K : PySem.W.Frag) : Sp := fun vs H Q _ => ∃ (d l : Addr) (xs : List V) (n : Nat), vs = [.ref d, .ref l] ∧ DiceAt H d n ∧ H l = some (.lst xs) ∧ l ≠ d ∧ 0 < xs.length ∧ xs.length ≤ 1000000 ∧ n ≤ 1000000 ∧
  ∀ (i : Nat) (x : V) (o : HO), xs[i]? = some x → DiceAt (upd H d o) d (n + 1) → Q x (upd H d o)
theorem scOne : FnScope ["dice", "items"] ["dice", "items"] (defScope sOne) := ⟨rfl, rfl, rfl, by decide +kernel, rfl, by decide +kernel, by decide +kernel⟩
section
variable {P : Program} {w : World} {K : PySem.W.Frag} {mg : Str → Option Value} {base : Heap}
theorem ok_one {f fR fO : Addr} {fd fdR : FuncData} (F : Fun K "_law_one_of" "_law_one_of" sOne f fd) (T : TxtR K mg fR fO) (GR : FnOk P w K mg base CX0 1 fR fdR ["dice", "total"] spRoll) (bR : Binds K fdR ["dice", "total"] []) :
    FnOk P w K mg base CX0 2 f fd ["dice", "items"] (spOne K) := by
  refine F.ok scOne (fun vs H Q E h => ?_) (fun cdv A outer s H vs Q E hr h => ?_)
  · obtain ⟨d, l, xs, n, rfl, _⟩ := h
    rfl
  · obtain ⟨d, l, xs, n, rfl, hD, hl, hne, h0, h1, hn, k⟩ := h
    refine ⟨_, pss_one (ps_ret (pe_ix ix_list (pv 1) (pe_call GR hr rfl T.gRoll T.kRoll bR .nil pass0 (pa_cons (pv 0) (pa_cons (pe_callB call_len_seq (by rfl) T.len PySem.boot_len (pa_cons (pv 1) pa_nil)) pa_nil))) (fun _ _ => rfl))), ?_⟩
    refine ⟨_, rfl, _, rfl, _, rfl, l, xs, rfl, Or.inl (SqL.of hl), d, _, n, rfl, hD, by omega, by omega, hn, fun r o r0 r1 D1 => ?_⟩
    obtain ⟨j, rfl⟩ := Int.eq_ofNat_of_zero_le r0
    have hr1 : j < xs.length := by omega
    exact ⟨l, xs, _, xs[j], rfl, rfl, SqL.of (by rw [upd_ne hne]; exact hl), by rw [atI_nat]; exact List.getElem?_eq_getElem hr1, k j _ o (List.getElem?_eq_getElem hr1) D1⟩
/-- the heap without what stands at d -/
def hid (d : Addr) (H : Hp) : Hp := fun b => if b = d then none else H b
theorem hid_of {d b : Addr} {H : Hp} {o : HO} (h : H b = some o) (n : b ≠ d) : hid d H b = some o := by unfold hid; rw [if_neg n]; exact h
theorem hid_same {d : Addr} {H H' : Hp} (k : Keep d H H') : Same (hid d H) H' := fun b o e => by
  unfold hid at e
  split at e
  · cases e
  · exact k b o (by assumption) e
/-! ### a value of some kind -/
/-- data of small size -/
structure Small (d : PyData) : Prop where
  sh : d.showable = true
  dp : d.depth ≤ 3
  sz : d.shown.length ≤ 2000
def spVal : Sp := fun vs H Q _ => ∃ (d : Addr) (n : Nat), vs = [.ref d] ∧ DiceAt H d n ∧ n ≤ 999990 ∧
  ∀ (v : V) (D : PyData) (H' : Hp), Keep d H H' → DiceAt H' d (n + 2) → Dq (hid d H') v D → Small D → Q v H'
theorem scVal : FnScope ["dice", "some"] ["dice"] (defScope sVal) := ⟨rfl, rfl, rfl, by decide +kernel, rfl, by decide +kernel, by decide +kernel⟩
theorem small_int {r : Int} (h0 : 0 ≤ r) (h1 : r < 1000) : Small (.int r) := by
  have h : r.natAbs.log2 < 10 := by
    by_cases z : r.natAbs = 0
    · rw [z]; decide
    · exact (Nat.log2_lt z).mpr (by omega)
  refine ⟨by simp only [PyData.showable]; exact decide_eq_true (by omega), by show 0 ≤ 3; decide, ?_⟩
  have e := int_text_length_le (k := 10) (by decide) h
  show (Str.ofString (toString r)).length ≤ 2000
  rw [PySem.ofString_length]
  omega
def items16 (t1 t2 l1 l2 d1 d2 t4 : Addr) : List V := [.non, .bl true, .int 0, .int (-7), .int (10 ^ (11 : Int).toNat), .str "", .str "a", .str "part", .ref t1, .ref t2, .ref l1, .ref l2, .ref d1, .ref d2, .str (Txt.mul "x" 300), .ref t4]
theorem ok_val {f fR fO : Addr} {fd fdR fdO : FuncData} (F : Fun K "_law_value" "_law_value" sVal f fd) (T : TxtR K mg fR fO) (GR : FnOk P w K mg base CX0 1 fR fdR ["dice", "total"] spRoll) (bR : Binds K fdR ["dice", "total"] [])
    (GO : FnOk P w K mg base CX0 2 fO fdO ["dice", "items"] (spOne K)) (bO : Binds K fdO ["dice", "items"] []) : FnOk P w K mg base CX0 3 f fd ["dice"] spVal := by
  refine F.ok scVal (fun vs H Q E h => ?_) (fun cdv A outer s H vs Q E hr h => ?_)
  · obtain ⟨d, n, rfl, _⟩ := h
    rfl
  · obtain ⟨d, n, rfl, hD, hn, k⟩ := h
    have hr1 : Room 1 _ := hr.mono (by decide)
    refine ⟨_, pss_cons (ps_set (i := 1) scVal.nd rfl (Or.inl rfl) (pe_lst (pa_cons pe_non (pa_cons pe_bl (pa_cons pe_int (pa_cons (pe_un un_neg pe_int) (pa_cons (pe_op op_pow pe_int pe_int) (pa_cons pe_str (pa_cons pe_str (pa_cons pe_str
        (pa_cons (pe_tup (pa_cons pe_str (pa_cons pe_str pa_nil))) (pa_cons (pe_tup pa_nil) (pa_cons (pe_lstN pa_nil) (pa_cons (pe_lstN (pa_cons pe_str pa_nil)) (pa_cons pe_dnewK
        (pa_cons (pe_disp (pps_cons pe_str pe_int pps_nil) (by rfl) (by rfl) (fun z => by cases z) (by decide)) (pa_cons (pe_op op_mulStr pe_str pe_int) (pa_cons (pe_tup (pa_cons (pe_tup pa_nil) pa_nil)) pa_nil))))))))))))))))))
      (pss_one (ps_ret (pe_call GO hr rfl T.gOne T.kOne bO .nil pass0 (pa_cons (pv 0) (pa_cons (pe_op op_cat (pv 1) (pe_lst (pa_cons (pe_call GR hr1 rfl T.gRoll T.kRoll bR .nil pass0 (pa_cons (pv 0) (pa_cons pe_int pa_nil))) pa_nil))) pa_nil))))), ?_⟩
    -- the sixteen written items
    refine ⟨_, rfl, _, _, rfl, rfl, ⟨by decide, by decide, by decide⟩, (by show 2 ≤ sizeLine; decide), fun t1 n1 => ⟨(by show 0 ≤ sizeLine; decide), fun t2 n2 => ⟨(by show 0 ≤ sizeLine; decide), fun l1 n3 m3 => ⟨(by show 1 ≤ sizeLine; decide), fun l2 n4 m4 => fun d1 n5 => fun d2 n6 => ⟨upd_same, [(Sum.inr "a", .int 1)], rfl, by decide, ?_⟩⟩⟩⟩⟩
    refine ⟨_, _, rfl, rfl, ⟨by decide, by decide +kernel, by decide +kernel⟩, (by show 0 ≤ sizeLine; decide), fun t3 n7 => ⟨(by show 1 ≤ sizeLine; decide), fun t4 n8 => ⟨(by show 16 ≤ sizeLine; decide), fun S nS => ?_⟩⟩⟩
    rw [upd_upd] at n7 n8 nS ⊢
    have D1 := hD.new n1 (o := .tup [.str "a", .str "b"])
    have D2 := D1.new n2 (o := .tup [])
    have D3 := D2.new n3 (o := .lst [])
    have D4 := D3.new n4 (o := .lst [.str "a"])
    have D5 := D4.new n5 (o := .dK [])
    have D6 := D5.new n6 (o := .dK (mergeK [] [(Sum.inr "a", .int 1)]))
    have D7 := D6.new n7 (o := .tup [])
    have D8 := D7.new n8 (o := .tup [.ref t3])
    have D9 := D8.new nS (o := .lst (items16 t1 t2 l1 l2 d1 d2 t4))
    refine ⟨_, rfl, _, rfl, _, rfl, d, 1000, n, rfl, D9, by decide, by decide, by omega, fun r o r0 r1 DA => ?_⟩
    have hSd := D8.ne nS
    refine ⟨(by show 1 ≤ sizeLine; decide), fun L nL => ?_⟩
    have hSL : S ≠ L := fun e => by
      rw [← e, upd_ne hSd, upd_same] at nL
      cases nL
    refine ⟨S, L, _, _, rfl, rfl, (show _ = some (HO.lst (items16 t1 t2 l1 l2 d1 d2 t4)) by rw [upd_ne hSL, upd_ne hSd, upd_same]; rfl), upd_same, (by show 17 ≤ sizeLine; decide), fun q nq => ?_⟩
    have DB := DA.new nL (o := .lst [.int r])
    have DC := DB.new nq (o := .lst (items16 t1 t2 l1 l2 d1 d2 t4 ++ [.int r]))
    refine ⟨d, q, _, n + 1, rfl, DC, upd_same, DB.ne nq, (by show 0 < 17; decide), (by show 17 ≤ 1000000; decide), by omega, fun i x o2 hx DD => ?_⟩
    -- what stands at the end
    have s1 : Keep d _ _ := Keep.new n1 (d := d) (o := .tup [.str "a", .str "b"])
    have s2 : Keep d _ _ := Keep.new n2 (d := d) (o := .tup [])
    have s3 : Keep d _ _ := Keep.new n3 (d := d) (o := .lst [])
    have s4 : Keep d _ _ := Keep.new n4 (d := d) (o := .lst [.str "a"])
    have s5 : Keep d _ _ := Keep.new n5 (d := d) (o := .dK [])
    have s6 : Keep d _ _ := Keep.new n6 (d := d) (o := .dK (mergeK [] [(Sum.inr "a", .int 1)]))
    have s7 : Keep d _ _ := Keep.new n7 (d := d) (o := .tup [])
    have s8 : Keep d _ _ := Keep.new n8 (d := d) (o := .tup [.ref t3])
    have s9 : Keep d _ _ := Keep.new nS (d := d) (o := .lst (items16 t1 t2 l1 l2 d1 d2 t4))
    have sA := (Keep.at (d := d) (o := o)).trans ((Keep.new nL (d := d) (o := .lst [.int r])).trans ((Keep.new nq (d := d) (o := .lst (items16 t1 t2 l1 l2 d1 d2 t4 ++ [.int r]))).trans (Keep.at (d := d) (o := o2))))
    have f9 := s9.trans sA
    have f8 := s8.trans f9
    have f7 := s7.trans f8
    have f6 := s6.trans f7
    have f5 := s5.trans f6
    have f4 := s4.trans f5
    have f3 := s3.trans f4
    have f2 := s2.trans f3
    have k1 := s1.trans f2
    have ht1 := hid_of (f2 t1 _ (hD.ne n1) upd_same) (hD.ne n1)
    have ht2 := hid_of (f3 t2 _ (D1.ne n2) upd_same) (D1.ne n2)
    have hl1 := hid_of (f4 l1 _ (D2.ne n3) upd_same) (D2.ne n3)
    have hl2 := hid_of (f5 l2 _ (D3.ne n4) upd_same) (D3.ne n4)
    have hd1 := hid_of (f6 d1 _ (D4.ne n5) upd_same) (D4.ne n5)
    have hd2 := hid_of (f7 d2 _ (D5.ne n6) upd_same) (D5.ne n6)
    have ht3 := hid_of (f8 t3 _ (D6.ne n7) upd_same) (D6.ne n7)
    have ht4 := hid_of (f9 t4 _ (D7.ne n8) upd_same) (D7.ne n8)
    have hx' := List.mem_of_getElem? hx
    simp only [items16, List.cons_append, List.nil_append, List.mem_cons, List.not_mem_nil, or_false] at hx'
    have fin : ∀ D : PyData, Dq (hid d _) x D → Small D → Q x _ := fun D a b => k x D _ k1 (DD.le (by omega)) a b
    rcases hx' with e | e | e | e | e | e | e | e | e | e | e | e | e | e | e | e | e <;> subst e
    · exact fin _ .non ⟨by decide +kernel, by decide +kernel, by decide +kernel⟩
    · exact fin _ (.bl _) ⟨by decide +kernel, by decide +kernel, by decide +kernel⟩
    · exact fin _ (.int _) ⟨by decide +kernel, by decide +kernel, by decide +kernel⟩
    · exact fin _ (.int _) ⟨by decide +kernel, by decide +kernel, by decide +kernel⟩
    · exact fin _ (.int _) ⟨by decide +kernel, by decide +kernel, by decide +kernel⟩
    · exact fin _ (.str _) ⟨by decide +kernel, by decide +kernel, by decide +kernel⟩
    · exact fin _ (.str _) ⟨by decide +kernel, by decide +kernel, by decide +kernel⟩
    · exact fin _ (.str _) ⟨by decide +kernel, by decide +kernel, by decide +kernel⟩
    · exact fin _ (.tup ht1 (.cons (.str _) (.cons (.str _) .nil))) ⟨by decide +kernel, by decide +kernel, by decide +kernel⟩
    · exact fin _ (.tup ht2 .nil) ⟨by decide +kernel, by decide +kernel, by decide +kernel⟩
    · exact fin _ (.lst hl1 m3 .nil) ⟨by decide +kernel, by decide +kernel, by decide +kernel⟩
    · exact fin _ (.lst hl2 m4 (.cons (.str _) .nil)) ⟨by decide +kernel, by decide +kernel, by decide +kernel⟩
    · exact fin _ (.dct hd1 .nil) ⟨by decide +kernel, by decide +kernel, by decide +kernel⟩
    · exact fin _ (.dct (kvs := [(Sum.inr "a", .int 1)]) hd2 (.cons (.int _) .nil)) ⟨by decide +kernel, by decide +kernel, by decide +kernel⟩
    · exact fin _ (.str _) ⟨by decide +kernel, by decide +kernel, by decide +kernel⟩
    · exact fin _ (.tup ht4 (.cons (.tup ht3 .nil) .nil)) ⟨by decide +kernel, by decide +kernel, by decide +kernel⟩
    · exact fin _ (.int _) (small_int r0 (by omega))
end
end Lk
end
section
set_option maxRecDepth 100000
set_option maxHeartbeats 4000000
/-! The classes of the errors; of which kinds and sorts an error is. -/
namespace Lk
open PySem L2 Kx PySem.Spec PyProof.Rows
def kn (i : Nat) : Str := (["PartError", "InvalidPart", "InvalidWish", "InvalidJoint", "InvalidOperation", "ParseError", "UnknownName", "InvalidNumber", "TooMany", "NothingToUndo", "Refused"] : List Str).getD i ""
/-- the error of kind i is of kind j -/
def kb (i j : Nat) : Bool := j == i || (j == 0 && decide (i < 6))
def bt (t : Nat) : String := (["ValueError", "KeyError", "RuntimeError", "OverflowError", "IndexError", "ArithmeticError"] : List String).getD t ""
/-- the error of kind i is one of built-in sort t -/
def sb (i t : Nat) : Bool := if i < 6 then t == 0 else if i == 6 then t == 1 else if i == 7 then t == 2 else if i == 8 then t == 3 || t == 5 else if i == 9 then t == 4 else t == 5
def kindsOf (i : Nat) : List V := (List.range 11).map fun j => .bl (kb i j)
def sortsOf (i : Nat) : List V := (List.range 6).map fun t => .bl (sb i t)
def fld (i : Nat) : Str := (["line", "name", "value", "limit", "many"] : List Str).getD (i - 5) ""
/-- the classes as the top has made them -/
structure Kl (K : PySem.W.Frag) (mg : Str → Option Value) (C I : Nat → Addr) : Prop where
  n : ∀ i, i < 5 → ECN K mg (kn i) (C i)
  i : ∀ i, 5 ≤ i → i < 11 → ECI K mg (kn i) (C i) (I i)
  kit : ∀ i, i < 11 → ∀ j, j < 11 → PySem.W.kitCls K (.ref (C i)) (.ref (C j)) = some (kb i j)
  srt : ∀ i, i < 11 → ∀ t, t < 6 → PySem.W.kitOne K (.ref (C i)) (.type (bt t)) = some (sb i t)
  fl : ∀ i, 5 ≤ i → i < 10 → PySem.W.findIn K (.ref (C i)) (fld i) = some none
  f1 : PySem.W.findIn K (.ref (C 10)) "name" = some none
  f2 : PySem.W.findIn K (.ref (C 10)) "reason" = some none
  isi : mg "isinstance" = none
  bts : ∀ t, t < 6 → mg (Str.ofString (bt t)) = none
section
variable {P : Program} {w : World} {K : PySem.W.Frag} {mg : Str → Option Value} {base : Heap} {C I : Nat → Addr}
theorem pe_own {X : Cx} {x : Str} {a : Addr} {pos : Pos} (hg : Gl X x) (hm : X.mg x = some (.ref a)) (hd : (x == ("__debug__" : Str)) = false := by decide) : PE X (.Name x pos) (tC (.ref a)) := pe_glob hg hm rfl hd
theorem Kl.ec (T : Kl K mg C I) {i : Nat} (h : i < 11) : EC K (C i) := by
  by_cases h5 : i < 5
  · exact (T.n i h5).toEC
  · exact (T.i i (by omega) h).toEC
theorem Kl.g (T : Kl K mg C I) {i : Nat} (h : i < 11) : mg (kn i) = some (.ref (C i)) := by
  by_cases h5 : i < 5
  · exact (T.n i h5).mgC
  · exact (T.i i (by omega) h).mgC
theorem kb_self (i : Nat) : kb i i = true := by simp [kb]
theorem Kl.one (T : Kl K mg C I) {i j : Nat} (hi : i < 11) (hj : j < 11) : PySem.W.kitOne K (.ref (C i)) (.ref (C j)) = some (kb i j) := by
  unfold PySem.W.kitOne
  by_cases e : (Value.ref (C i) == Value.ref (C j)) = true
  · rw [if_pos e]
    have ec : C i = C j := Value.ref.inj (beq_iff_eq.mp e)
    have h1 := T.kit i hi j hj
    have h2 := T.kit i hi i hi
    rw [ec] at h1
    rw [ec, h1, kb_self] at h2
    exact h2.symm
  · rw [if_neg e]
    exact T.kit i hi j hj
theorem Kl.ex (T : Kl K mg C I) {i j : Nat} (hi : i < 11) (hj : j < 11) : PySem.W.exmOne K (.ref (C i)) (.ref (C j)) = some (kb i j) := by
  unfold PySem.W.exmOne
  rw [(T.ec hj).exC, if_pos (by rfl)]
  exact T.kit i hi j hj
/-- e is an error of kind i -/
def spKinds (K : PySem.W.Frag) (C : Nat → Addr) : Sp := fun vs H Q _ => ∃ (a : Addr) (i : Nat) (fs : List (Str × V)), vs = [.ref a] ∧ i < 11 ∧ ErrAt H a (C i) fs ∧
  ∀ p H', Same H H' → H p = none → H' p = some (.lst (kindsOf i)) → Q (.ref p) H'
def spSorts (K : PySem.W.Frag) (C : Nat → Addr) : Sp := fun vs H Q _ => ∃ (a : Addr) (i : Nat) (fs : List (Str × V)), vs = [.ref a] ∧ i < 11 ∧ ErrAt H a (C i) fs ∧
  ∀ p H', Same H H' → H p = none → H' p = some (.lst (sortsOf i)) → Q (.ref p) H'
theorem scKinds : FnScope ["e", "found"] ["e"] (defScope sKinds) := ⟨rfl, rfl, rfl, by decide +kernel, rfl, by decide +kernel, by decide +kernel⟩
theorem scSorts : FnScope ["e", "found"] ["e"] (defScope sSorts) := ⟨rfl, rfl, rfl, by decide +kernel, rfl, by decide +kernel, by decide +kernel⟩
theorem same_new {H : Hp} {p : Addr} {o : HO} (h : H p = none) : Same H (upd H p o) := fun b u e => by rw [upd_ne (ne_of_none e h)]; exact e
theorem ok_kinds {f : Addr} {fd : FuncData} (F : Fun K "_law_kinds" "_law_kinds" sKinds f fd) (T : Kl K mg C I) : FnOk P w K mg base CX0 1 f fd ["e"] (spKinds K C) := by
  refine F.ok scKinds (fun vs H Q E h => ?_) (fun cdv A outer s H vs Q E hr h => ?_)
  · obtain ⟨a, i, fs, rfl, _⟩ := h
    rfl
  · obtain ⟨a, i, fs, rfl, hi, he, k⟩ := h
    refine ⟨_, pss_cons (ps_set (i := 1) scKinds.nd rfl (Or.inl rfl) (pe_lst
        (pa_cons (pe_callB call_isx (by rfl) T.isi (by decide +kernel) (pa_cons (pv 0) (pa_cons (pe_own (by rfl) (T.g (i := 0) (by decide))) pa_nil)))
        (pa_cons (pe_callB call_isx (by rfl) T.isi (by decide +kernel) (pa_cons (pv 0) (pa_cons (pe_own (by rfl) (T.g (i := 1) (by decide))) pa_nil)))
        (pa_cons (pe_callB call_isx (by rfl) T.isi (by decide +kernel) (pa_cons (pv 0) (pa_cons (pe_own (by rfl) (T.g (i := 2) (by decide))) pa_nil))) pa_nil)))))
      (pss_cons (ps_set (i := 1) scKinds.nd rfl (Or.inl rfl) (pe_op op_cat (pv 1) (pe_lst
        (pa_cons (pe_callB call_isx (by rfl) T.isi (by decide +kernel) (pa_cons (pv 0) (pa_cons (pe_own (by rfl) (T.g (i := 3) (by decide))) pa_nil)))
        (pa_cons (pe_callB call_isx (by rfl) T.isi (by decide +kernel) (pa_cons (pv 0) (pa_cons (pe_own (by rfl) (T.g (i := 4) (by decide))) pa_nil)))
        (pa_cons (pe_callB call_isx (by rfl) T.isi (by decide +kernel) (pa_cons (pv 0) (pa_cons (pe_own (by rfl) (T.g (i := 5) (by decide))) pa_nil))) pa_nil))))))
      (pss_cons (ps_set (i := 1) scKinds.nd rfl (Or.inl rfl) (pe_op op_cat (pv 1) (pe_lst
        (pa_cons (pe_callB call_isx (by rfl) T.isi (by decide +kernel) (pa_cons (pv 0) (pa_cons (pe_own (by rfl) (T.g (i := 6) (by decide))) pa_nil)))
        (pa_cons (pe_callB call_isx (by rfl) T.isi (by decide +kernel) (pa_cons (pv 0) (pa_cons (pe_own (by rfl) (T.g (i := 7) (by decide))) pa_nil)))
        (pa_cons (pe_callB call_isx (by rfl) T.isi (by decide +kernel) (pa_cons (pv 0) (pa_cons (pe_own (by rfl) (T.g (i := 8) (by decide))) pa_nil))) pa_nil))))))
      (pss_one (ps_ret (pe_op op_cat (pv 1) (pe_lst
        (pa_cons (pe_callB call_isx (by rfl) T.isi (by decide +kernel) (pa_cons (pv 0) (pa_cons (pe_own (by rfl) (T.g (i := 9) (by decide))) pa_nil)))
        (pa_cons (pe_callB call_isx (by rfl) T.isi (by decide +kernel) (pa_cons (pv 0) (pa_cons (pe_own (by rfl) (T.g (i := 10) (by decide))) pa_nil))) pa_nil)))))))), ?_⟩
    have s0 : Same H H := Same.refl H
    refine ⟨_, rfl, ⟨a, C i, fs, _, _, _, rfl, he.same s0, T.ec hi, .own _, T.one hi (show 0 < 11 by decide), _, rfl, ⟨a, C i, fs, _, _, _, rfl, he.same s0, T.ec hi, .own _, T.one hi (show 1 < 11 by decide), _, rfl, ⟨a, C i, fs, _, _, _, rfl, he.same s0, T.ec hi, .own _, T.one hi (show 2 < 11 by decide), (by show 3 ≤ sizeLine; decide), fun p1 n1 => ?_⟩⟩⟩⟩
    have s1 := fun o => s0.trans (same_new (o := o) n1)
    refine ⟨_, rfl, _, rfl, ⟨a, C i, fs, _, _, _, rfl, he.same (s1 _), T.ec hi, .own _, T.one hi (show 3 < 11 by decide), _, rfl, ⟨a, C i, fs, _, _, _, rfl, he.same (s1 _), T.ec hi, .own _, T.one hi (show 4 < 11 by decide), _, rfl, ⟨a, C i, fs, _, _, _, rfl, he.same (s1 _), T.ec hi, .own _, T.one hi (show 5 < 11 by decide), (by show 3 ≤ sizeLine; decide), fun p2 n2 => ?_⟩⟩⟩⟩
    have s2 := fun o => (s1 _).trans (same_new (o := o) n2)
    refine ⟨p1, p2, _, _, rfl, rfl, (by rw [upd_ne (ne_of_none upd_same n2)]; exact upd_same), upd_same, (by show 6 ≤ sizeLine; decide), fun p3 n3 => ?_⟩
    have s3 := fun o => (s2 _).trans (same_new (o := o) n3)
    refine ⟨_, rfl, _, rfl, ⟨a, C i, fs, _, _, _, rfl, he.same (s3 _), T.ec hi, .own _, T.one hi (show 6 < 11 by decide), _, rfl, ⟨a, C i, fs, _, _, _, rfl, he.same (s3 _), T.ec hi, .own _, T.one hi (show 7 < 11 by decide), _, rfl, ⟨a, C i, fs, _, _, _, rfl, he.same (s3 _), T.ec hi, .own _, T.one hi (show 8 < 11 by decide), (by show 3 ≤ sizeLine; decide), fun p4 n4 => ?_⟩⟩⟩⟩
    have s4 := fun o => (s3 _).trans (same_new (o := o) n4)
    refine ⟨p3, p4, _, _, rfl, rfl, (by rw [upd_ne (ne_of_none upd_same n4)]; exact upd_same), upd_same, (by show 9 ≤ sizeLine; decide), fun p5 n5 => ?_⟩
    have s5 := fun o => (s4 _).trans (same_new (o := o) n5)
    refine ⟨_, rfl, _, rfl, ⟨a, C i, fs, _, _, _, rfl, he.same (s5 _), T.ec hi, .own _, T.one hi (show 9 < 11 by decide), _, rfl, ⟨a, C i, fs, _, _, _, rfl, he.same (s5 _), T.ec hi, .own _, T.one hi (show 10 < 11 by decide), (by show 2 ≤ sizeLine; decide), fun p6 n6 => ?_⟩⟩⟩
    have s6 := fun o => (s5 _).trans (same_new (o := o) n6)
    refine ⟨p5, p6, _, _, rfl, rfl, (by rw [upd_ne (ne_of_none upd_same n6)]; exact upd_same), upd_same, (by show 11 ≤ sizeLine; decide), fun p7 n7 => ?_⟩
    exact k p7 _ ((s6 _).trans (same_new n7)) ((s6 _).free n7) upd_same
theorem ok_sorts {f : Addr} {fd : FuncData} (F : Fun K "_law_sorts" "_law_sorts" sSorts f fd) (T : Kl K mg C I) : FnOk P w K mg base CX0 1 f fd ["e"] (spSorts K C) := by
  refine F.ok scSorts (fun vs H Q E h => ?_) (fun cdv A outer s H vs Q E hr h => ?_)
  · obtain ⟨a, i, fs, rfl, _⟩ := h
    rfl
  · obtain ⟨a, i, fs, rfl, hi, he, k⟩ := h
    refine ⟨_, pss_cons (ps_set (i := 1) scSorts.nd rfl (Or.inl rfl) (pe_lst
        (pa_cons (pe_callB call_isx (by rfl) T.isi (by decide +kernel) (pa_cons (pv 0) (pa_cons (pe_bltn (v := .ty "ValueError") (u := .type "ValueError") (by rfl) (T.bts 0 (by decide)) (by decide +kernel) rfl) pa_nil)))
        (pa_cons (pe_callB call_isx (by rfl) T.isi (by decide +kernel) (pa_cons (pv 0) (pa_cons (pe_bltn (v := .ty "KeyError") (u := .type "KeyError") (by rfl) (T.bts 1 (by decide)) (by decide +kernel) rfl) pa_nil)))
        (pa_cons (pe_callB call_isx (by rfl) T.isi (by decide +kernel) (pa_cons (pv 0) (pa_cons (pe_bltn (v := .ty "RuntimeError") (u := .type "RuntimeError") (by rfl) (T.bts 2 (by decide)) (by decide +kernel) rfl) pa_nil))) pa_nil)))))
      (pss_one (ps_ret (pe_op op_cat (pv 1) (pe_lst
        (pa_cons (pe_callB call_isx (by rfl) T.isi (by decide +kernel) (pa_cons (pv 0) (pa_cons (pe_bltn (v := .ty "OverflowError") (u := .type "OverflowError") (by rfl) (T.bts 3 (by decide)) (by decide +kernel) rfl) pa_nil)))
        (pa_cons (pe_callB call_isx (by rfl) T.isi (by decide +kernel) (pa_cons (pv 0) (pa_cons (pe_bltn (v := .ty "IndexError") (u := .type "IndexError") (by rfl) (T.bts 4 (by decide)) (by decide +kernel) rfl) pa_nil)))
        (pa_cons (pe_callB call_isx (by rfl) T.isi (by decide +kernel) (pa_cons (pv 0) (pa_cons (pe_bltn (v := .ty "ArithmeticError") (u := .type "ArithmeticError") (by rfl) (T.bts 5 (by decide)) (by decide +kernel) rfl) pa_nil))) pa_nil))))))), ?_⟩
    have s0 : Same H H := Same.refl H
    refine ⟨_, rfl, ⟨a, C i, fs, _, _, _, rfl, he.same s0, T.ec hi, .ty _, T.srt i hi 0 (by decide), _, rfl, ⟨a, C i, fs, _, _, _, rfl, he.same s0, T.ec hi, .ty _, T.srt i hi 1 (by decide), _, rfl, ⟨a, C i, fs, _, _, _, rfl, he.same s0, T.ec hi, .ty _, T.srt i hi 2 (by decide), (by show 3 ≤ sizeLine; decide), fun p1 n1 => ?_⟩⟩⟩⟩
    have s1 := fun o => s0.trans (same_new (o := o) n1)
    refine ⟨_, rfl, _, rfl, ⟨a, C i, fs, _, _, _, rfl, he.same (s1 _), T.ec hi, .ty _, T.srt i hi 3 (by decide), _, rfl, ⟨a, C i, fs, _, _, _, rfl, he.same (s1 _), T.ec hi, .ty _, T.srt i hi 4 (by decide), _, rfl, ⟨a, C i, fs, _, _, _, rfl, he.same (s1 _), T.ec hi, .ty _, T.srt i hi 5 (by decide), (by show 3 ≤ sizeLine; decide), fun p2 n2 => ?_⟩⟩⟩⟩
    have s2 := fun o => (s1 _).trans (same_new (o := o) n2)
    refine ⟨p1, p2, _, _, rfl, rfl, (by rw [upd_ne (ne_of_none upd_same n2)]; exact upd_same), upd_same, (by show 6 ≤ sizeLine; decide), fun p3 n3 => ?_⟩
    exact k p3 _ ((s2 _).trans (same_new n3)) ((s2 _).free n3) upd_same
end
end Lk
end
section
set_option maxRecDepth 100000
set_option maxHeartbeats 4000000
/-! The errors' own __init__; raised, caught. -/
namespace Lk
open PySem L2 Kx PySem.Spec PyProof.Rows
abbrev sI5 : Stmt := inClass (top 6) 0
abbrev sI6 : Stmt := inClass (top 7) 0
abbrev sI7 : Stmt := inClass (top 8) 0
abbrev sI8 : Stmt := inClass (top 9) 0
abbrev sI9 : Stmt := inClass (top 10) 0
abbrev sI10 : Stmt := inClass (top 11) 0
def spIn (C : Addr) (n : Nat) (mk : List V → List (Str × V)) : Sp := fun vs H Q _ => ∃ (a : Addr) (ys : List V), vs = .ref a :: ys ∧ ys.length = n ∧ H a = some (exo a C none) ∧
  ∀ dx H', H dx = none → dx ≠ a → H' a = some (exo a C (some dx)) → H' dx = some (exd dx (mk ys)) → (∀ b, b ≠ a → b ≠ dx → H' b = H b) → Q .non H'
def mk1 (f : Str) (ys : List V) : List (Str × V) := [(f, ys.getD 0 .non)]
def mk2 (ys : List V) : List (Str × V) := [("reason", ys.getD 1 .non), ("name", ys.getD 0 .non)]
def fds (k : Nat) (v o : V) : List (Str × V) := if k = 10 then mk2 [v, o] else mk1 (fld k) [v]
section
variable {P : Program} {w : World} {K : PySem.W.Frag} {mg : Str → Option Value} {base : Heap} {C I : Nat → Addr}
theorem scI5 : FnScope ["self", "line"] ["self", "line"] (defScope sI5) := ⟨rfl, rfl, rfl, by decide +kernel, rfl, by decide +kernel, by decide +kernel⟩
theorem ok_I5 {f : Addr} {fd : FuncData} (F : Fun K "__init__" "ParseError.__init__" sI5 f fd) (T : Kl K mg C I) : FnOk P w K mg base CX0 1 f fd ["self", "line"] (spIn (C 5) 1 (mk1 "line")) := by
  refine F.ok scI5 (fun vs H Q E h => ?_) (fun cdv A outer s H vs Q E hr h => ?_)
  · obtain ⟨a, ys, rfl, hl, _⟩ := h
    show ys.length + 1 = 2
    omega
  · obtain ⟨a, ys, rfl, hl, ha, k⟩ := h
    obtain ⟨y, rfl⟩ : ∃ y, ys = [y] := match ys, hl with | [y], _ => ⟨y, rfl⟩
    refine ⟨_, pss_one (ps_put (pv 0) (pv 1)), ?_⟩
    refine ⟨_, rfl, _, rfl, a, C 5, rfl, T.ec (by decide), T.fl 5 (by decide) (by decide), Or.inl ⟨ha, fun dx nx ne => ?_⟩⟩
    exact k dx _ nx ne upd_same (by rw [upd_ne ne, upd_same]; rfl) fun b h1 h2 => by rw [upd_ne h1, upd_ne h2]
theorem scI6 : FnScope ["self", "name"] ["self", "name"] (defScope sI6) := ⟨rfl, rfl, rfl, by decide +kernel, rfl, by decide +kernel, by decide +kernel⟩
theorem ok_I6 {f : Addr} {fd : FuncData} (F : Fun K "__init__" "UnknownName.__init__" sI6 f fd) (T : Kl K mg C I) : FnOk P w K mg base CX0 1 f fd ["self", "name"] (spIn (C 6) 1 (mk1 "name")) := by
  refine F.ok scI6 (fun vs H Q E h => ?_) (fun cdv A outer s H vs Q E hr h => ?_)
  · obtain ⟨a, ys, rfl, hl, _⟩ := h
    show ys.length + 1 = 2
    omega
  · obtain ⟨a, ys, rfl, hl, ha, k⟩ := h
    obtain ⟨y, rfl⟩ : ∃ y, ys = [y] := match ys, hl with | [y], _ => ⟨y, rfl⟩
    refine ⟨_, pss_one (ps_put (pv 0) (pv 1)), ?_⟩
    refine ⟨_, rfl, _, rfl, a, C 6, rfl, T.ec (by decide), T.fl 6 (by decide) (by decide), Or.inl ⟨ha, fun dx nx ne => ?_⟩⟩
    exact k dx _ nx ne upd_same (by rw [upd_ne ne, upd_same]; rfl) fun b h1 h2 => by rw [upd_ne h1, upd_ne h2]
theorem scI7 : FnScope ["self", "value"] ["self", "value"] (defScope sI7) := ⟨rfl, rfl, rfl, by decide +kernel, rfl, by decide +kernel, by decide +kernel⟩
theorem ok_I7 {f : Addr} {fd : FuncData} (F : Fun K "__init__" "InvalidNumber.__init__" sI7 f fd) (T : Kl K mg C I) : FnOk P w K mg base CX0 1 f fd ["self", "value"] (spIn (C 7) 1 (mk1 "value")) := by
  refine F.ok scI7 (fun vs H Q E h => ?_) (fun cdv A outer s H vs Q E hr h => ?_)
  · obtain ⟨a, ys, rfl, hl, _⟩ := h
    show ys.length + 1 = 2
    omega
  · obtain ⟨a, ys, rfl, hl, ha, k⟩ := h
    obtain ⟨y, rfl⟩ : ∃ y, ys = [y] := match ys, hl with | [y], _ => ⟨y, rfl⟩
    refine ⟨_, pss_one (ps_put (pv 0) (pv 1)), ?_⟩
    refine ⟨_, rfl, _, rfl, a, C 7, rfl, T.ec (by decide), T.fl 7 (by decide) (by decide), Or.inl ⟨ha, fun dx nx ne => ?_⟩⟩
    exact k dx _ nx ne upd_same (by rw [upd_ne ne, upd_same]; rfl) fun b h1 h2 => by rw [upd_ne h1, upd_ne h2]
theorem scI8 : FnScope ["self", "limit"] ["self", "limit"] (defScope sI8) := ⟨rfl, rfl, rfl, by decide +kernel, rfl, by decide +kernel, by decide +kernel⟩
theorem ok_I8 {f : Addr} {fd : FuncData} (F : Fun K "__init__" "TooMany.__init__" sI8 f fd) (T : Kl K mg C I) : FnOk P w K mg base CX0 1 f fd ["self", "limit"] (spIn (C 8) 1 (mk1 "limit")) := by
  refine F.ok scI8 (fun vs H Q E h => ?_) (fun cdv A outer s H vs Q E hr h => ?_)
  · obtain ⟨a, ys, rfl, hl, _⟩ := h
    show ys.length + 1 = 2
    omega
  · obtain ⟨a, ys, rfl, hl, ha, k⟩ := h
    obtain ⟨y, rfl⟩ : ∃ y, ys = [y] := match ys, hl with | [y], _ => ⟨y, rfl⟩
    refine ⟨_, pss_one (ps_put (pv 0) (pv 1)), ?_⟩
    refine ⟨_, rfl, _, rfl, a, C 8, rfl, T.ec (by decide), T.fl 8 (by decide) (by decide), Or.inl ⟨ha, fun dx nx ne => ?_⟩⟩
    exact k dx _ nx ne upd_same (by rw [upd_ne ne, upd_same]; rfl) fun b h1 h2 => by rw [upd_ne h1, upd_ne h2]
theorem scI9 : FnScope ["self", "many"] ["self", "many"] (defScope sI9) := ⟨rfl, rfl, rfl, by decide +kernel, rfl, by decide +kernel, by decide +kernel⟩
theorem ok_I9 {f : Addr} {fd : FuncData} (F : Fun K "__init__" "NothingToUndo.__init__" sI9 f fd) (T : Kl K mg C I) : FnOk P w K mg base CX0 1 f fd ["self", "many"] (spIn (C 9) 1 (mk1 "many")) := by
  refine F.ok scI9 (fun vs H Q E h => ?_) (fun cdv A outer s H vs Q E hr h => ?_)
  · obtain ⟨a, ys, rfl, hl, _⟩ := h
    show ys.length + 1 = 2
    omega
  · obtain ⟨a, ys, rfl, hl, ha, k⟩ := h
    obtain ⟨y, rfl⟩ : ∃ y, ys = [y] := match ys, hl with | [y], _ => ⟨y, rfl⟩
    refine ⟨_, pss_one (ps_put (pv 0) (pv 1)), ?_⟩
    refine ⟨_, rfl, _, rfl, a, C 9, rfl, T.ec (by decide), T.fl 9 (by decide) (by decide), Or.inl ⟨ha, fun dx nx ne => ?_⟩⟩
    exact k dx _ nx ne upd_same (by rw [upd_ne ne, upd_same]; rfl) fun b h1 h2 => by rw [upd_ne h1, upd_ne h2]
theorem scI10 : FnScope ["self", "name", "reason"] ["self", "name", "reason"] (defScope sI10) := ⟨rfl, rfl, rfl, by decide +kernel, rfl, by decide +kernel, by decide +kernel⟩
theorem ok_I10 {f : Addr} {fd : FuncData} (F : Fun K "__init__" "Refused.__init__" sI10 f fd) (T : Kl K mg C I) : FnOk P w K mg base CX0 1 f fd ["self", "name", "reason"] (spIn (C 10) 2 mk2) := by
  refine F.ok scI10 (fun vs H Q E h => ?_) (fun cdv A outer s H vs Q E hr h => ?_)
  · obtain ⟨a, ys, rfl, hl, _⟩ := h
    show ys.length + 1 = 3
    omega
  · obtain ⟨a, ys, rfl, hl, ha, k⟩ := h
    obtain ⟨y, z, rfl⟩ : ∃ y z, ys = [y, z] := match ys, hl with | [y, z], _ => ⟨y, z, rfl⟩
    refine ⟨_, pss_cons (ps_put (pv 0) (pv 1)) (pss_one (ps_put (pv 0) (pv 2))), ?_⟩
    refine ⟨_, rfl, _, rfl, a, C 10, rfl, T.ec (by decide), T.f1, Or.inl ⟨ha, fun dx nx ne => ?_⟩⟩
    refine ⟨_, rfl, _, rfl, a, C 10, rfl, T.ec (by decide), T.f2, Or.inr ⟨dx, [("name", y)], upd_same, (by rw [upd_ne ne, upd_same]), (by show 1 ≤ 900; decide), ?_⟩⟩
    exact k dx _ nx ne (by rw [upd_ne ne.symm, upd_same]) upd_same fun b h1 h2 => by rw [upd_ne h2, upd_ne h1, upd_ne h2]
/-- each __init__ keeps its promise -/
structure Ini (P : Program) (w : World) (K : PySem.W.Frag) (mg : Str → Option Value) (base : Heap) (C I : Nat → Addr) (fds : Nat → FuncData) : Prop where
  o5 : FnOk P w K mg base CX0 1 (I 5) (fds 5) ["self", "line"] (spIn (C 5) 1 (mk1 "line"))
  b5 : Binds K (fds 5) ["self", "line"] []
  o6 : FnOk P w K mg base CX0 1 (I 6) (fds 6) ["self", "name"] (spIn (C 6) 1 (mk1 "name"))
  b6 : Binds K (fds 6) ["self", "name"] []
  o7 : FnOk P w K mg base CX0 1 (I 7) (fds 7) ["self", "value"] (spIn (C 7) 1 (mk1 "value"))
  b7 : Binds K (fds 7) ["self", "value"] []
  o8 : FnOk P w K mg base CX0 1 (I 8) (fds 8) ["self", "limit"] (spIn (C 8) 1 (mk1 "limit"))
  b8 : Binds K (fds 8) ["self", "limit"] []
  o9 : FnOk P w K mg base CX0 1 (I 9) (fds 9) ["self", "many"] (spIn (C 9) 1 (mk1 "many"))
  b9 : Binds K (fds 9) ["self", "many"] []
  o10 : FnOk P w K mg base CX0 1 (I 10) (fds 10) ["self", "name", "reason"] (spIn (C 10) 2 mk2)
  b10 : Binds K (fds 10) ["self", "name", "reason"] []
theorem if_t {c : Bool} {A B : Prop} (hc : c = true) (h : A) : if c = true then A else B := by rw [if_pos hc]; exact h
theorem if_f {c : Bool} {A B : Prop} (hc : c = false) (h : B) : if c = true then A else B := by rw [hc, if_neg Bool.false_ne_true]; exact h
/-- the error of kind k is raised: it is of the class at C k; its fields stand in a new dict -/
def spRaise (C : Nat → Addr) : Sp := fun vs H _ E => ∃ (k : Nat) (v o : V), vs = [.int k, v, o] ∧ k < 11 ∧ (k < 5 → E (.ref (C k)) none H) ∧
  (5 ≤ k → ∀ d H', H d = none → Same H H' → H' d = some (.xd (fds k v o)) → E (.ref (C k)) (some d) H')
theorem scRaise : FnScope ["kind", "value", "other"] ["kind", "value", "other"] (defScope sRaise) := ⟨rfl, rfl, rfl, by decide +kernel, rfl, by decide +kernel, by decide +kernel⟩
theorem gone_same {H H2 : Hp} {a d : Addr} {u v : HO} (na : H a = none) (nd : upd H a u d = none) (oth : ∀ b, b ≠ a → b ≠ d → H2 b = upd H a u b) : Same H (upd (del H2 a) d v) := fun b o e => by
  have ba := ne_of_none e na
  have bd : b ≠ d := fun z => by
    rw [← z, upd_ne ba, e] at nd
    cases nd
  rw [upd_ne bd, del_ne ba, oth b ba bd, upd_ne ba]
  exact e
theorem ok_raise {f : Addr} {fd : FuncData} {fdi : Nat → FuncData} (F : Fun K "_law_raise" "_law_raise" sRaise f fd) (T : Kl K mg C I) (N : Ini P w K mg base C I fdi) : FnOk P w K mg base (L2.CX P w) 3 f fd ["kind", "value", "other"] (spRaise C) := by
  refine F.okX scRaise (fun vs H Q E h => ?_) (fun cdv A outer s H vs Q E hr h => ?_)
  · obtain ⟨k, v, o, rfl, _⟩ := h
    rfl
  · obtain ⟨k, v, o, rfl, hk, h1, h2⟩ := h
    refine ⟨_, pss_cons (ps_if (pt_cmpR op_eq (pv 0) pe_int (nomark _)) (pss_one (ps_raise rfl (takes_of rfl rfl rfl rfl) (pmk_rsN (T.n 1 (by decide)) (by rfl) (pv 1)))) pss_nil)
      (pss_cons (ps_if (pt_cmpR op_eq (pv 0) pe_int (nomark _)) (pss_one (ps_raise rfl (takes_of rfl rfl rfl rfl) (pmk_rsN (T.n 2 (by decide)) (by rfl) (pv 1)))) pss_nil)
      (pss_cons (ps_if (pt_cmpR op_eq (pv 0) pe_int (nomark _)) (pss_one (ps_raise rfl (takes_of rfl rfl rfl rfl) (pmk_rsN (T.n 3 (by decide)) (by rfl) (pv 1)))) pss_nil)
      (pss_cons (ps_if (pt_cmpR op_eq (pv 0) pe_int (nomark _)) (pss_one (ps_raise rfl (takes_of rfl rfl rfl rfl) (pmk_rsN (T.n 4 (by decide)) (by rfl) (pv 1)))) pss_nil)
      (pss_cons (ps_if (pt_cmpR op_eq (pv 0) pe_int (nomark _)) (pss_one (ps_raise rfl (takes_of rfl rfl rfl rfl) (pmk_rsI (T.i 5 (by decide) (by decide)) N.o5 hr N.b5 pass0 (by rfl) (pa_cons (pv 1) pa_nil)))) pss_nil)
      (pss_cons (ps_if (pt_cmpR op_eq (pv 0) pe_int (nomark _)) (pss_one (ps_raise rfl (takes_of rfl rfl rfl rfl) (pmk_rsI (T.i 6 (by decide) (by decide)) N.o6 hr N.b6 pass0 (by rfl) (pa_cons (pv 1) pa_nil)))) pss_nil)
      (pss_cons (ps_if (pt_cmpR op_eq (pv 0) pe_int (nomark _)) (pss_one (ps_raise rfl (takes_of rfl rfl rfl rfl) (pmk_rsI (T.i 7 (by decide) (by decide)) N.o7 hr N.b7 pass0 (by rfl) (pa_cons (pv 1) pa_nil)))) pss_nil)
      (pss_cons (ps_if (pt_cmpR op_eq (pv 0) pe_int (nomark _)) (pss_one (ps_raise rfl (takes_of rfl rfl rfl rfl) (pmk_rsI (T.i 8 (by decide) (by decide)) N.o8 hr N.b8 pass0 (by rfl) (pa_cons (pv 1) pa_nil)))) pss_nil)
      (pss_cons (ps_if (pt_cmpR op_eq (pv 0) pe_int (nomark _)) (pss_one (ps_raise rfl (takes_of rfl rfl rfl rfl) (pmk_rsI (T.i 9 (by decide) (by decide)) N.o9 hr N.b9 pass0 (by rfl) (pa_cons (pv 1) pa_nil)))) pss_nil)
      (pss_cons (ps_if (pt_cmpR op_eq (pv 0) pe_int (nomark _)) (pss_one (ps_raise rfl (takes_of rfl rfl rfl rfl) (pmk_rsI (T.i 10 (by decide) (by decide)) N.o10 hr N.b10 pass0 (by rfl) (pa_cons (pv 1) (pa_cons (pv 2) pa_nil))))) pss_nil)
      (pss_one (ps_raise rfl (takes_of rfl rfl rfl rfl) (pmk_rsN (T.n 0 (by decide)) (by rfl) (pv 1))))))))))))), ?_⟩
    have kk : k = 0 ∨ k = 1 ∨ k = 2 ∨ k = 3 ∨ k = 4 ∨ k = 5 ∨ k = 6 ∨ k = 7 ∨ k = 8 ∨ k = 9 ∨ k = 10 := by omega
    rcases kk with rfl | rfl | rfl | rfl | rfl | rfl | rfl | rfl | rfl | rfl | rfl
    · exact ⟨_, rfl, rfl, _, rfl, if_f (by decide) ⟨_, rfl, rfl, _, rfl, if_f (by decide) ⟨_, rfl, rfl, _, rfl, if_f (by decide) ⟨_, rfl, rfl, _, rfl, if_f (by decide) ⟨_, rfl, rfl, _, rfl, if_f (by decide) ⟨_, rfl, rfl, _, rfl, if_f (by decide) ⟨_, rfl, rfl, _, rfl, if_f (by decide) ⟨_, rfl, rfl, _, rfl, if_f (by decide) ⟨_, rfl, rfl, _, rfl, if_f (by decide) ⟨_, rfl, rfl, _, rfl, if_f (by decide) ⟨_, rfl, h1 (by decide)⟩⟩⟩⟩⟩⟩⟩⟩⟩⟩⟩
    · exact ⟨_, rfl, rfl, _, rfl, if_t (by decide) ⟨_, rfl, h1 (by decide)⟩⟩
    · exact ⟨_, rfl, rfl, _, rfl, if_f (by decide) ⟨_, rfl, rfl, _, rfl, if_t (by decide) ⟨_, rfl, h1 (by decide)⟩⟩⟩
    · exact ⟨_, rfl, rfl, _, rfl, if_f (by decide) ⟨_, rfl, rfl, _, rfl, if_f (by decide) ⟨_, rfl, rfl, _, rfl, if_t (by decide) ⟨_, rfl, h1 (by decide)⟩⟩⟩⟩
    · exact ⟨_, rfl, rfl, _, rfl, if_f (by decide) ⟨_, rfl, rfl, _, rfl, if_f (by decide) ⟨_, rfl, rfl, _, rfl, if_f (by decide) ⟨_, rfl, rfl, _, rfl, if_t (by decide) ⟨_, rfl, h1 (by decide)⟩⟩⟩⟩⟩
    · exact ⟨_, rfl, rfl, _, rfl, if_f (by decide) ⟨_, rfl, rfl, _, rfl, if_f (by decide) ⟨_, rfl, rfl, _, rfl, if_f (by decide) ⟨_, rfl, rfl, _, rfl, if_f (by decide) ⟨_, rfl, rfl, _, rfl, if_t (by decide) ⟨_, rfl, (by show 1 ≤ 1000; decide), fun a na => ⟨a, [v], rfl, rfl, upd_same, fun d H2 nd ne ea ed oth => ⟨rfl, d, _, ea, ed, (by rw [upd_ne ne] at nd; exact nd), h2 (by decide) d _ (by rw [upd_ne ne] at nd; exact nd) (gone_same na nd oth) upd_same⟩⟩⟩⟩⟩⟩⟩⟩
    · exact ⟨_, rfl, rfl, _, rfl, if_f (by decide) ⟨_, rfl, rfl, _, rfl, if_f (by decide) ⟨_, rfl, rfl, _, rfl, if_f (by decide) ⟨_, rfl, rfl, _, rfl, if_f (by decide) ⟨_, rfl, rfl, _, rfl, if_f (by decide) ⟨_, rfl, rfl, _, rfl, if_t (by decide) ⟨_, rfl, (by show 1 ≤ 1000; decide), fun a na => ⟨a, [v], rfl, rfl, upd_same, fun d H2 nd ne ea ed oth => ⟨rfl, d, _, ea, ed, (by rw [upd_ne ne] at nd; exact nd), h2 (by decide) d _ (by rw [upd_ne ne] at nd; exact nd) (gone_same na nd oth) upd_same⟩⟩⟩⟩⟩⟩⟩⟩⟩
    · exact ⟨_, rfl, rfl, _, rfl, if_f (by decide) ⟨_, rfl, rfl, _, rfl, if_f (by decide) ⟨_, rfl, rfl, _, rfl, if_f (by decide) ⟨_, rfl, rfl, _, rfl, if_f (by decide) ⟨_, rfl, rfl, _, rfl, if_f (by decide) ⟨_, rfl, rfl, _, rfl, if_f (by decide) ⟨_, rfl, rfl, _, rfl, if_t (by decide) ⟨_, rfl, (by show 1 ≤ 1000; decide), fun a na => ⟨a, [v], rfl, rfl, upd_same, fun d H2 nd ne ea ed oth => ⟨rfl, d, _, ea, ed, (by rw [upd_ne ne] at nd; exact nd), h2 (by decide) d _ (by rw [upd_ne ne] at nd; exact nd) (gone_same na nd oth) upd_same⟩⟩⟩⟩⟩⟩⟩⟩⟩⟩
    · exact ⟨_, rfl, rfl, _, rfl, if_f (by decide) ⟨_, rfl, rfl, _, rfl, if_f (by decide) ⟨_, rfl, rfl, _, rfl, if_f (by decide) ⟨_, rfl, rfl, _, rfl, if_f (by decide) ⟨_, rfl, rfl, _, rfl, if_f (by decide) ⟨_, rfl, rfl, _, rfl, if_f (by decide) ⟨_, rfl, rfl, _, rfl, if_f (by decide) ⟨_, rfl, rfl, _, rfl, if_t (by decide) ⟨_, rfl, (by show 1 ≤ 1000; decide), fun a na => ⟨a, [v], rfl, rfl, upd_same, fun d H2 nd ne ea ed oth => ⟨rfl, d, _, ea, ed, (by rw [upd_ne ne] at nd; exact nd), h2 (by decide) d _ (by rw [upd_ne ne] at nd; exact nd) (gone_same na nd oth) upd_same⟩⟩⟩⟩⟩⟩⟩⟩⟩⟩⟩
    · exact ⟨_, rfl, rfl, _, rfl, if_f (by decide) ⟨_, rfl, rfl, _, rfl, if_f (by decide) ⟨_, rfl, rfl, _, rfl, if_f (by decide) ⟨_, rfl, rfl, _, rfl, if_f (by decide) ⟨_, rfl, rfl, _, rfl, if_f (by decide) ⟨_, rfl, rfl, _, rfl, if_f (by decide) ⟨_, rfl, rfl, _, rfl, if_f (by decide) ⟨_, rfl, rfl, _, rfl, if_f (by decide) ⟨_, rfl, rfl, _, rfl, if_t (by decide) ⟨_, rfl, (by show 1 ≤ 1000; decide), fun a na => ⟨a, [v], rfl, rfl, upd_same, fun d H2 nd ne ea ed oth => ⟨rfl, d, _, ea, ed, (by rw [upd_ne ne] at nd; exact nd), h2 (by decide) d _ (by rw [upd_ne ne] at nd; exact nd) (gone_same na nd oth) upd_same⟩⟩⟩⟩⟩⟩⟩⟩⟩⟩⟩⟩
    · exact ⟨_, rfl, rfl, _, rfl, if_f (by decide) ⟨_, rfl, rfl, _, rfl, if_f (by decide) ⟨_, rfl, rfl, _, rfl, if_f (by decide) ⟨_, rfl, rfl, _, rfl, if_f (by decide) ⟨_, rfl, rfl, _, rfl, if_f (by decide) ⟨_, rfl, rfl, _, rfl, if_f (by decide) ⟨_, rfl, rfl, _, rfl, if_f (by decide) ⟨_, rfl, rfl, _, rfl, if_f (by decide) ⟨_, rfl, rfl, _, rfl, if_f (by decide) ⟨_, rfl, rfl, _, rfl, if_t (by decide) ⟨_, rfl, _, rfl, (by show 2 ≤ 1000; decide), fun a na => ⟨a, [v, o], rfl, rfl, upd_same, fun d H2 nd ne ea ed oth => ⟨rfl, d, _, ea, ed, (by rw [upd_ne ne] at nd; exact nd), h2 (by decide) d _ (by rw [upd_ne ne] at nd; exact nd) (gone_same na nd oth) upd_same⟩⟩⟩⟩⟩⟩⟩⟩⟩⟩⟩⟩⟩
end
end Lk
end
section
set_option maxRecDepth 100000
set_option maxHeartbeats 4000000
/-! Errors caught: by their own class, by the base. -/
namespace Lk
open PySem L2 Kx PySem.Spec PyProof.Rows
section
variable {P : Program} {w : World} {K : PySem.W.Frag} {mg : Str → Option Value} {base : Heap} {C I : Nat → Addr}
theorem Kl.exs (T : Kl K mg C I) {i : Nat} (hi : i < 11) : ∀ (js : List Nat), (∀ j ∈ js, j < 11) → PySem.W.exmAny K (.ref (C i)) (js.map fun j => .ref (C j)) = some (js.any (kb i))
  | [], _ => rfl
  | j :: js, h => by
    have h1 := T.ex hi (h j List.mem_cons_self)
    have h2 := Kl.exs T hi js fun z m => h z (List.mem_cons_of_mem _ m)
    show PySem.W.exmAny K (.ref (C i)) (.ref (C j) :: js.map fun j => .ref (C j)) = _
    unfold PySem.W.exmAny
    rw [h1, h2]
    rfl
theorem lk1 (f : Str) (v : V) : ([(f, v)] : List (Str × V)).lookup f = some v := by simp [List.lookup]
theorem lk2 (v o : V) : (mk2 [v, o]).lookup ("name" : Str) = some v := by
  show List.lookup ("name" : Str) [(("reason" : Str), o), (("name" : Str), v)] = some v
  have h : (("name" : Str) == ("reason" : Str)) = false := by decide +kernel
  simp [List.lookup, h]
theorem lk3 (v o : V) : (mk2 [v, o]).lookup ("reason" : Str) = some o := by
  show List.lookup ("reason" : Str) [(("reason" : Str), o), (("name" : Str), v)] = some o
  simp [List.lookup]
theorem Kl.nm (T : Kl K mg C I) {X : Cx} (hm : X.mg = mg) {i : Nat} (hi : i < 11) {x : Str} (e : kn i = x) (hg : Gl X x) (hd : (x == ("__debug__" : Str)) = false) : Names X x (.ref (C i)) := ⟨hg, hd, .inl (by rw [hm, ← e]; exact T.g hi)⟩
structure TxtC (K : PySem.W.Frag) (mg : Str → Option Value) (fR : Addr) : Prop where
  gR : mg "_law_raise" = some (.ref fR)
  kR : PySem.W.keepIn K (.ref fR) = true
/-- what is kept -/
def spCaught : Sp := fun vs H Q _ => ∃ (k : Nat) (v o : V), vs = [.int k, v, o] ∧ k < 11 ∧ (k < 5 → ∀ H', Same H H' → Q (.int k) H') ∧ (5 ≤ k → k < 10 → ∀ H', Same H H' → Q v H') ∧
  (k = 10 → ∀ p H', Same H H' → H' p = some (.lst [v, o]) → p ≠ sysModules → Q (.ref p) H')
def spBy : Sp := fun vs H Q _ => ∃ (k : Nat) (v : V), vs = [.int k, v] ∧ k < 11 ∧ ∀ H', Same H H' → Q (.bl (decide (k < 6))) H'
theorem scCaught : FnScope ["kind", "value", "other", "e"] ["kind", "value", "other"] (defScope sCaught) := ⟨rfl, rfl, rfl, by decide +kernel, rfl, by decide +kernel, by decide +kernel⟩
theorem scBy : FnScope ["kind", "value"] ["kind", "value"] (defScope sByBase) := ⟨rfl, rfl, rfl, by decide +kernel, rfl, by decide +kernel, by decide +kernel⟩
theorem ok_by {f fR : Addr} {fd fdR : FuncData} (F : Fun K "_law_by_base" "_law_by_base" sByBase f fd) (T : Kl K mg C I) (TC : TxtC K mg fR) (GR : FnOk P w K mg base (L2.CX P w) 3 fR fdR ["kind", "value", "other"] (spRaise C)) (bR : Binds K fdR ["kind", "value", "other"] []) :
    FnOk P w K mg base CX0 4 f fd ["kind", "value"] spBy := by
  refine F.ok scBy (fun vs H Q E h => ?_) (fun cdv A outer s H vs Q E hr h => ?_)
  · obtain ⟨k, v, rfl, _⟩ := h
    rfl
  · obtain ⟨k, v, rfl, hk, q⟩ := h
    refine ⟨_, pss_cons (ps_try_hs (l := [([.ref (C 0)], none, fun _ _ _ => tRet (tC (.bl true))), ([.ref (C 6), .ref (C 7), .ref (C 8), .ref (C 9), .ref (C 10)], none, fun _ _ _ => tRet (tC (.bl false)))]) rfl rfl takes0
      (fun W pn xe tk _ => pss_one (ps_expr (pe_callS GR hr rfl TC.gR TC.kR bR (fun σ => passAt tk σ) (pa_cons (pv 0) (pa_cons (pv 1) (pa_cons (pv 0) pa_nil))))))
      (.bare (.one (T.nm rfl (i := 0) (by decide) rfl rfl (by decide))) (fun a oe cls d pn hz hf => pss_one (ps_ret pe_bl))
      (.bare (.tup (.cons (T.nm rfl (i := 6) (by decide) rfl rfl (by decide)) rfl (.cons (T.nm rfl (i := 7) (by decide) rfl rfl (by decide)) rfl (.cons (T.nm rfl (i := 8) (by decide) rfl rfl (by decide)) rfl (.cons (T.nm rfl (i := 9) (by decide) rfl rfl (by decide)) rfl (.cons (T.nm rfl (i := 10) (by decide) rfl rfl (by decide)) rfl .nil))))) (by show 2 ≤ 5; decide) (by show 5 ≤ 5; decide)) (fun a oe cls d pn hz hf => pss_one (ps_ret pe_bl)) .nil)))
      (pss_one (ps_ret pe_non)), ?_⟩
    refine ⟨_, rfl, _, rfl, _, rfl, k, v, _, rfl, hk, fun h5 => ?_, fun h5 d H' nd sm hd => ?_⟩
    · refine ⟨true, ?_, fun _ a na => ?_, fun z => nomatch z⟩
      · have e := T.exs hk [0] (by decide)
        have e2 : [0].any (kb k) = true := by
          simp only [List.any_cons, List.any_nil, Bool.or_false]
          unfold kb
          simp
          omega
        rw [e2] at e
        exact e
      · have := q H (Same.refl H)
        rw [decide_eq_true (by omega)] at this
        exact this
    · by_cases h6 : k = 5
      · subst h6
        exact ⟨true, T.exs (i := 5) (by decide) [0] (by decide), fun _ a na => q H' sm, fun z => nomatch z⟩
      · have kk : k = 6 ∨ k = 7 ∨ k = 8 ∨ k = 9 ∨ k = 10 := by omega
        rcases kk with rfl | rfl | rfl | rfl | rfl
        all_goals exact ⟨false, T.exs hk [0] (by decide), (fun z => nomatch z), fun _ => ⟨true, T.exs hk [6, 7, 8, 9, 10] (by decide), fun _ a na => q H' sm, fun z => nomatch z⟩⟩
theorem ok_caught {f fR : Addr} {fd fdR : FuncData} (F : Fun K "_law_caught" "_law_caught" sCaught f fd) (T : Kl K mg C I) (TC : TxtC K mg fR) (GR : FnOk P w K mg base (L2.CX P w) 3 fR fdR ["kind", "value", "other"] (spRaise C)) (bR : Binds K fdR ["kind", "value", "other"] []) :
    FnOk P w K mg base CX0 4 f fd ["kind", "value", "other"] spCaught := by
  refine F.ok scCaught (fun vs H Q E h => ?_) (fun cdv A outer s H vs Q E hr h => ?_)
  · obtain ⟨k, v, o, rfl, _⟩ := h
    rfl
  · obtain ⟨k, v, o, rfl, hk, q1, q2, q3⟩ := h
    refine ⟨_, pss_cons (ps_try_hs (l := [([.ref (C 5)], some 3, fun a cls d => tRet (tXf a cls d (C 5) "line" (tVar 3))), ([.ref (C 1), .ref (C 2), .ref (C 3), .ref (C 4)], none, fun _ _ _ => tRet (tVar 0)), ([.ref (C 6)], some 3, fun a cls d => tRet (tXf a cls d (C 6) "name" (tVar 3))), ([.ref (C 7)], some 3, fun a cls d => tRet (tXf a cls d (C 7) "value" (tVar 3))), ([.ref (C 8)], some 3, fun a cls d => tRet (tXf a cls d (C 8) "limit" (tVar 3))), ([.ref (C 9)], some 3, fun a cls d => tRet (tXf a cls d (C 9) "many" (tVar 3))), ([.ref (C 10)], some 3, fun a cls d => tRet (tLstN (tCons (tXf a cls d (C 10) "name" (tVar 3)) (tCons (tXf a cls d (C 10) "reason" (tVar 3)) tNil)))), ([.ref (C 0)], none, fun _ _ _ => tRet (tVar 0))]) rfl rfl takes0
      (fun W pn xe tk _ => pss_one (ps_expr (pe_callS GR hr rfl TC.gR TC.kR bR (fun σ => passAt tk σ) (pa_cons (pv 0) (pa_cons (pv 1) (pa_cons (pv 2) pa_nil))))))
      (.named (.one (T.nm rfl (i := 5) (by decide) rfl rfl (by decide))) scCaught.nd rfl rfl (fun a oe cls d pn hz hf => pss_one (ps_ret (pe_xf (T.ec (i := 5) (by decide)).xf (T.fl 5 (by decide) (by decide)) hz hf (pv 3))))
      (.bare (.tup (.cons (T.nm rfl (i := 1) (by decide) rfl rfl (by decide)) rfl (.cons (T.nm rfl (i := 2) (by decide) rfl rfl (by decide)) rfl (.cons (T.nm rfl (i := 3) (by decide) rfl rfl (by decide)) rfl (.cons (T.nm rfl (i := 4) (by decide) rfl rfl (by decide)) rfl .nil)))) (by show 2 ≤ 4; decide) (by show 4 ≤ 5; decide)) (fun a oe cls d pn hz hf => pss_one (ps_ret (pv 0)))
      (.named (.one (T.nm rfl (i := 6) (by decide) rfl rfl (by decide))) scCaught.nd rfl rfl (fun a oe cls d pn hz hf => pss_one (ps_ret (pe_xf (T.ec (i := 6) (by decide)).xf (T.fl 6 (by decide) (by decide)) hz hf (pv 3))))
      (.named (.one (T.nm rfl (i := 7) (by decide) rfl rfl (by decide))) scCaught.nd rfl rfl (fun a oe cls d pn hz hf => pss_one (ps_ret (pe_xf (T.ec (i := 7) (by decide)).xf (T.fl 7 (by decide) (by decide)) hz hf (pv 3))))
      (.named (.one (T.nm rfl (i := 8) (by decide) rfl rfl (by decide))) scCaught.nd rfl rfl (fun a oe cls d pn hz hf => pss_one (ps_ret (pe_xf (T.ec (i := 8) (by decide)).xf (T.fl 8 (by decide) (by decide)) hz hf (pv 3))))
      (.named (.one (T.nm rfl (i := 9) (by decide) rfl rfl (by decide))) scCaught.nd rfl rfl (fun a oe cls d pn hz hf => pss_one (ps_ret (pe_xf (T.ec (i := 9) (by decide)).xf (T.fl 9 (by decide) (by decide)) hz hf (pv 3))))
      (.named (.one (T.nm rfl (i := 10) (by decide) rfl rfl (by decide))) scCaught.nd rfl rfl (fun a oe cls d pn hz hf => pss_one (ps_ret (pe_lstN (pa_cons (pe_xf (T.ec (i := 10) (by decide)).xf T.f1 hz hf (pv 3)) (pa_cons (pe_xf (T.ec (i := 10) (by decide)).xf T.f2 hz hf (pv 3)) pa_nil)))))
      (.bare (.one (T.nm rfl (i := 0) (by decide) rfl rfl (by decide))) (fun a oe cls d pn hz hf => pss_one (ps_ret (pv 0))) .nil)))))))))
      (pss_one (ps_ret pe_str)), ?_⟩
    refine ⟨_, rfl, _, rfl, _, rfl, k, v, o, rfl, hk, fun h5 => ?_, fun h5 d H' nd sm hd => ?_⟩
    · have kk : k = 0 ∨ k = 1 ∨ k = 2 ∨ k = 3 ∨ k = 4 := by omega
      rcases kk with rfl | rfl | rfl | rfl | rfl
      · exact ⟨false, T.exs hk [5] (by decide), (fun z => nomatch z), fun _ => ⟨false, T.exs hk [1, 2, 3, 4] (by decide), (fun z => nomatch z), fun _ => ⟨false, T.exs hk [6] (by decide), (fun z => nomatch z), fun _ => ⟨false, T.exs hk [7] (by decide), (fun z => nomatch z), fun _ => ⟨false, T.exs hk [8] (by decide), (fun z => nomatch z), fun _ => ⟨false, T.exs hk [9] (by decide), (fun z => nomatch z), fun _ => ⟨false, T.exs hk [10] (by decide), (fun z => nomatch z), fun _ => ⟨true, T.exs hk [0] (by decide), fun _ a na => ⟨_, rfl, q1 (by decide) H (Same.refl H)⟩, fun z => nomatch z⟩⟩⟩⟩⟩⟩⟩⟩
      · exact ⟨false, T.exs hk [5] (by decide), (fun z => nomatch z), fun _ => ⟨true, T.exs hk [1, 2, 3, 4] (by decide), fun _ a na => ⟨_, rfl, q1 (by decide) H (Same.refl H)⟩, fun z => nomatch z⟩⟩
      · exact ⟨false, T.exs hk [5] (by decide), (fun z => nomatch z), fun _ => ⟨true, T.exs hk [1, 2, 3, 4] (by decide), fun _ a na => ⟨_, rfl, q1 (by decide) H (Same.refl H)⟩, fun z => nomatch z⟩⟩
      · exact ⟨false, T.exs hk [5] (by decide), (fun z => nomatch z), fun _ => ⟨true, T.exs hk [1, 2, 3, 4] (by decide), fun _ a na => ⟨_, rfl, q1 (by decide) H (Same.refl H)⟩, fun z => nomatch z⟩⟩
      · exact ⟨false, T.exs hk [5] (by decide), (fun z => nomatch z), fun _ => ⟨true, T.exs hk [1, 2, 3, 4] (by decide), fun _ a na => ⟨_, rfl, q1 (by decide) H (Same.refl H)⟩, fun z => nomatch z⟩⟩
    · have kk : k = 5 ∨ k = 6 ∨ k = 7 ∨ k = 8 ∨ k = 9 ∨ k = 10 := by omega
      rcases kk with rfl | rfl | rfl | rfl | rfl | rfl
      · exact ⟨true, T.exs hk [5] (by decide), fun _ a na => ⟨_, rfl, rfl, rfl, d, _, _, rfl, hd, lk1 _ _, q2 (by decide) (by decide) H' sm⟩, fun z => nomatch z⟩
      · exact ⟨false, T.exs hk [5] (by decide), (fun z => nomatch z), fun _ => ⟨false, T.exs hk [1, 2, 3, 4] (by decide), (fun z => nomatch z), fun _ => ⟨true, T.exs hk [6] (by decide), fun _ a na => ⟨_, rfl, rfl, rfl, d, _, _, rfl, hd, lk1 _ _, q2 (by decide) (by decide) H' sm⟩, fun z => nomatch z⟩⟩⟩
      · exact ⟨false, T.exs hk [5] (by decide), (fun z => nomatch z), fun _ => ⟨false, T.exs hk [1, 2, 3, 4] (by decide), (fun z => nomatch z), fun _ => ⟨false, T.exs hk [6] (by decide), (fun z => nomatch z), fun _ => ⟨true, T.exs hk [7] (by decide), fun _ a na => ⟨_, rfl, rfl, rfl, d, _, _, rfl, hd, lk1 _ _, q2 (by decide) (by decide) H' sm⟩, fun z => nomatch z⟩⟩⟩⟩
      · exact ⟨false, T.exs hk [5] (by decide), (fun z => nomatch z), fun _ => ⟨false, T.exs hk [1, 2, 3, 4] (by decide), (fun z => nomatch z), fun _ => ⟨false, T.exs hk [6] (by decide), (fun z => nomatch z), fun _ => ⟨false, T.exs hk [7] (by decide), (fun z => nomatch z), fun _ => ⟨true, T.exs hk [8] (by decide), fun _ a na => ⟨_, rfl, rfl, rfl, d, _, _, rfl, hd, lk1 _ _, q2 (by decide) (by decide) H' sm⟩, fun z => nomatch z⟩⟩⟩⟩⟩
      · exact ⟨false, T.exs hk [5] (by decide), (fun z => nomatch z), fun _ => ⟨false, T.exs hk [1, 2, 3, 4] (by decide), (fun z => nomatch z), fun _ => ⟨false, T.exs hk [6] (by decide), (fun z => nomatch z), fun _ => ⟨false, T.exs hk [7] (by decide), (fun z => nomatch z), fun _ => ⟨false, T.exs hk [8] (by decide), (fun z => nomatch z), fun _ => ⟨true, T.exs hk [9] (by decide), fun _ a na => ⟨_, rfl, rfl, rfl, d, _, _, rfl, hd, lk1 _ _, q2 (by decide) (by decide) H' sm⟩, fun z => nomatch z⟩⟩⟩⟩⟩⟩
      · exact ⟨false, T.exs hk [5] (by decide), (fun z => nomatch z), fun _ => ⟨false, T.exs hk [1, 2, 3, 4] (by decide), (fun z => nomatch z), fun _ => ⟨false, T.exs hk [6] (by decide), (fun z => nomatch z), fun _ => ⟨false, T.exs hk [7] (by decide), (fun z => nomatch z), fun _ => ⟨false, T.exs hk [8] (by decide), (fun z => nomatch z), fun _ => ⟨false, T.exs hk [9] (by decide), (fun z => nomatch z), fun _ => ⟨true, T.exs hk [10] (by decide), fun _ a na => ⟨_, rfl, rfl, rfl, d, _, _, rfl, hd, lk2 v o, _, rfl, rfl, rfl, d, _, _, rfl, hd, lk3 v o, (by show 2 ≤ sizeLine; decide), fun p np mp => q3 rfl p _ (sm.trans (same_new np)) upd_same mp⟩, fun z => nomatch z⟩⟩⟩⟩⟩⟩⟩
end
end Lk
end
section
set_option maxRecDepth 100000
set_option maxHeartbeats 4000000
/-! What stands while errors are made: those with values, the bare ones, further things. -/
namespace Lk
open PySem L2 Kx PySem.Spec PyProof.Rows
/-- the error of kind k stands at a, with its fields -/
def EAt (C : Nat → Addr) (v o : V) (G : Hp) (k : Nat) (a : Addr) : Prop := (k < 5 → G a = some (exo a (C k) none)) ∧ (5 ≤ k → ∃ dx, G a = some (exo a (C k) (some dx)) ∧ G dx = some (exd dx (fds k v o)))
section
variable {C : Nat → Addr} {v o : V} {H0 G G' : Hp} {k a p : Nat}
theorem EAt.err (h : EAt C v o G k a) : ErrAt G a (C k) (fds k v o) := by
  by_cases h5 : k < 5
  · exact .inl (h.1 h5)
  · exact .inr (h.2 (by omega))
theorem EAt.same (h : EAt C v o G k a) (e : Same G G') : EAt C v o G' k a := ⟨fun h5 => e _ _ (h.1 h5), fun h5 => let ⟨dx, q1, q2⟩ := h.2 h5; ⟨dx, e _ _ q1, e _ _ q2⟩⟩
structure Stt (C : Nat → Addr) (v o : V) (H0 G : Hp) (es bs : List Addr) (ls : List (Addr × HO)) : Prop where
  sm : Same H0 G
  me : ∀ k a, es[k]? = some a → EAt C v o G k a
  ba : ∀ k a, bs[k]? = some a → EAt C v o G k a
  ll : ∀ q ∈ ls, G q.1 = some q.2
theorem Stt.same {es bs : List Addr} {ls : List (Addr × HO)} (S : Stt C v o H0 G es bs ls) (e : Same G G') : Stt C v o H0 G' es bs ls := ⟨S.sm.trans e, fun k a h => (S.me k a h).same e, fun k a h => (S.ba k a h).same e, fun q h => e _ _ (S.ll q h)⟩
theorem Stt.new {es bs : List Addr} {ls : List (Addr × HO)} {p : Addr} {x : HO} (S : Stt C v o H0 G es bs ls) (h : G p = none) : Stt C v o H0 (upd G p x) es bs ((p, x) :: ls) := by
  have S' := S.same (same_new (o := x) h)
  refine ⟨S'.sm, S'.me, S'.ba, fun q hq => ?_⟩
  rcases List.mem_cons.mp hq with rfl | hq
  · exact upd_same
  · exact S'.ll q hq
theorem snoc_get {es : List Addr} {a b : Addr} {k n : Nat} (hl : es.length = n) (h : (es ++ [a])[k]? = some b) : es[k]? = some b ∨ (k = n ∧ b = a) := by
  by_cases hk : k < es.length
  · rw [List.getElem?_append_left hk] at h
    exact .inl h
  · rw [List.getElem?_append_right (by omega)] at h
    by_cases h0 : k - es.length = 0
    · rw [h0] at h
      exact .inr ⟨by omega, (Option.some.inj h).symm⟩
    · obtain ⟨j, hj⟩ : ∃ j, k - es.length = j + 1 := ⟨k - es.length - 1, by omega⟩
      rw [hj] at h
      cases h
theorem Stt.mkN {es bs : List Addr} {ls : List (Addr × HO)} {a : Addr} (S : Stt C v o H0 G es bs ls) (h : G a = none) (k : Nat) (hk : k < 5) (hl : es.length = k) : Stt C v o H0 (upd G a (exo a (C k) none)) (es ++ [a]) bs ls := by
  have S' := S.same (same_new (o := exo a (C k) none) h)
  refine ⟨S'.sm, fun j b hj => ?_, S'.ba, S'.ll⟩
  rcases snoc_get hl hj with q | ⟨rfl, rfl⟩
  · exact S'.me j b q
  · exact ⟨fun _ => upd_same, fun h5 => by omega⟩
theorem Stt.mkB {es bs : List Addr} {ls : List (Addr × HO)} {a : Addr} (S : Stt C v o H0 G es bs ls) (h : G a = none) (k : Nat) (hk : k < 5) (hl : bs.length = k) : Stt C v o H0 (upd G a (exo a (C k) none)) es (bs ++ [a]) ls := by
  have S' := S.same (same_new (o := exo a (C k) none) h)
  refine ⟨S'.sm, S'.me, fun j b hj => ?_, S'.ll⟩
  rcases snoc_get hl hj with q | ⟨rfl, rfl⟩
  · exact S'.ba j b q
  · exact ⟨fun _ => upd_same, fun h5 => by omega⟩
theorem Stt.mkI {es bs : List Addr} {ls : List (Addr × HO)} {a dx : Addr} {H2 : Hp} {fs : List (Str × V)} (S : Stt C v o H0 G es bs ls) (h : G a = none) (k : Nat) (hk : 5 ≤ k) (hl : es.length = k) (nd : upd G a (exo a (C k) none) dx = none) (ne : dx ≠ a)
    (ea : H2 a = some (exo a (C k) (some dx))) (ed : H2 dx = some (exd dx fs)) (hf : fs = fds k v o) (oth : ∀ b, b ≠ a → b ≠ dx → H2 b = upd G a (exo a (C k) none) b) : Stt C v o H0 H2 (es ++ [a]) bs ls := by
  have e : Same G H2 := fun b x hb => by
    have ba := ne_of_none hb h
    have bd : b ≠ dx := fun z => by
      rw [← z, upd_ne ba, hb] at nd
      cases nd
    rw [oth b ba bd, upd_ne ba]
    exact hb
  have S' := S.same e
  refine ⟨S'.sm, fun j b hj => ?_, S'.ba, S'.ll⟩
  rcases snoc_get hl hj with q | ⟨rfl, rfl⟩
  · exact S'.me j b q
  · exact ⟨fun h5 => by omega, fun _ => ⟨dx, ea, by rw [ed, hf]⟩⟩
end
/-! ### lists of bools, compared -/
theorem dp_bools {K : PySem.W.Frag} {H : Hp} (f : Nat → Bool) : ∀ l : List Nat, DpAll K H (l.map fun j => V.bl (f j)) (l.map fun j => PyData.bool (f j))
  | [] => .nil
  | j :: l => .cons (.bl _) (dp_bools f l)
def kD (i : Nat) : PyData := .list ((List.range 11).map fun j => .bool (kb i j))
def sD (i : Nat) : PyData := .list ((List.range 6).map fun t => .bool (sb i t))
theorem kD_ok : ∀ i, i < 11 → SeqAt.shaped (kD i) = true ∧ PyData.eqv (kD i) (kD i) = true := by decide +kernel
theorem sD_ok : ∀ i, i < 11 → SeqAt.shaped (sD i) = true ∧ PyData.eqv (sD i) (sD i) = true := by decide +kernel
theorem dp_kinds {K : PySem.W.Frag} {H : Hp} {p : Addr} {i : Nat} (h : H p = some (.lst (kindsOf i))) : Dp K H (.ref p) (kD i) := .lst (SqL.of h) (dp_bools _ _)
theorem dp_sorts {K : PySem.W.Frag} {H : Hp} {p : Addr} {i : Nat} (h : H p = some (.lst (sortsOf i))) : Dp K H (.ref p) (sD i) := .lst (SqL.of h) (dp_bools _ _)
theorem kb_eq (i j : Nat) : kb i j = (decide (V.int ((0 : Int) + (j : Nat)) = V.int ((i : Nat) : Int)) || (decide (V.int ((0 : Int) + (j : Nat)) = V.int 0) && decide (((i : Nat) : Int) < 6))) := by
  have e1 : decide (V.int ((0 : Int) + (j : Nat)) = V.int ((i : Nat) : Int)) = (j == i) := by
    rw [dec_int]
    by_cases h : j = i
    · subst h; simp
    · have h' : ¬ ((0 : Int) + (j : Nat)) = ((i : Nat) : Int) := by omega
      rw [beq_eq_false_iff_ne.mpr h', beq_eq_false_iff_ne.mpr h]
  have e2 : decide (V.int ((0 : Int) + (j : Nat)) = V.int 0) = (j == 0) := by
    rw [dec_int]
    by_cases h : j = 0
    · subst h; simp
    · have h' : ¬ ((0 : Int) + (j : Nat)) = 0 := by omega
      rw [beq_eq_false_iff_ne.mpr h', beq_eq_false_iff_ne.mpr h]
  have e3 : decide (((i : Nat) : Int) < 6) = decide (i < 6) := by
    by_cases h : i < 6
    · rw [decide_eq_true h, decide_eq_true (by omega)]
    · rw [decide_eq_false h, decide_eq_false (by omega)]
  rw [e1, e2, e3]
  rfl
/-! ### texts of small data -/
theorem small_list {ds : List PyData} (h : ∀ d ∈ ds, Small d) (hl : ds.length ≤ 10) : (PyData.list ds).showable = true ∧ (PyData.list ds).depth ≤ 100 ∧ (PyData.list ds).shown.length ≤ sizeLine := by
  have a1 : ∀ l : List PyData, (∀ d ∈ l, Small d) → PyData.showableAll l = true ∧ PyData.depthAll l ≤ 3 ∧ ((PyData.shownAll l).map (·.length)).sum ≤ 2000 * l.length ∧ (PyData.shownAll l).length = l.length := by
    intro l
    induction l with
    | nil => intro _; exact ⟨rfl, by show 0 ≤ 3; decide, by show 0 ≤ 0; decide, rfl⟩
    | cons d l ih =>
      intro hh
      obtain ⟨i1, i2, i3, i4⟩ := ih fun z m => hh z (List.mem_cons_of_mem _ m)
      obtain ⟨s1, s2, s3⟩ := hh d List.mem_cons_self
      refine ⟨by simp only [PyData.showableAll, s1, i1]; rfl, ?_, ?_, ?_⟩
      · show max d.depth (PyData.depthAll l) ≤ 3
        omega
      · simp only [PyData.shownAll, List.map_cons, List.sum_cons, List.length_cons]
        omega
      · simp only [PyData.shownAll, List.length_cons, i4]
  obtain ⟨i1, i2, i3, i4⟩ := a1 ds h
  refine ⟨by simp only [PyData.showable]; exact i1, by show PyData.depthAll ds + 1 ≤ 100; omega, ?_⟩
  have e := listText_len_le (PyData.shownAll ds)
  show (listText (PyData.shownAll ds)).length ≤ sizeLine
  rw [sizeLine_eq]
  omega
theorem Small.ok {d : PyData} (h : Small d) : d.showable = true ∧ d.depth ≤ 100 ∧ d.shown.length ≤ sizeLine := ⟨h.sh, by have := h.dp; omega, by have := h.sz; rw [sizeLine_eq]; omega⟩
end Lk
end
section
set_option maxRecDepth 100000
set_option maxHeartbeats 8000000
/-! The errors of one cell are right. -/
namespace Lk
open PySem L2 Kx PySem.Spec PyProof.Rows
def nR : List Str := ["dice", "value", "other", "made", "bare", "kind", "e", "due", "kept", "spot"]
theorem scRight : FnScope ["dice", "value", "other", "made", "bare", "kind", "e", "due", "kept", "spot"] ["dice"] (defScope sRight) := ⟨rfl, rfl, rfl, by decide +kernel, rfl, by decide +kernel, by decide +kernel⟩
structure TxtQ (K : PySem.W.Frag) (mg : Str → Option Value) (fV fK fS fC fB : Addr) : Prop where
  gVal : mg "_law_value" = some (.ref fV)
  kVal : PySem.W.keepIn K (.ref fV) = true
  gKi : mg "_law_kinds" = some (.ref fK)
  kKi : PySem.W.keepIn K (.ref fK) = true
  gSo : mg "_law_sorts" = some (.ref fS)
  kSo : PySem.W.keepIn K (.ref fS) = true
  gCa : mg "_law_caught" = some (.ref fC)
  kCa : PySem.W.keepIn K (.ref fC) = true
  gBy : mg "_law_by_base" = some (.ref fB)
  kBy : PySem.W.keepIn K (.ref fB) = true
  enum : mg "enumerate" = none
  range : mg "range" = none
  repr : mg "repr" = none
def spRight : Sp := fun vs H Q _ => ∃ d : Addr, vs = [.ref d] ∧ DiceAt H d 0 ∧ ∀ H', Keep d H H' → Q (.bl true) H'
theorem hid_sub {d : Addr} {H : Hp} : Same (hid d H) H := fun b o e => by
  unfold hid at e
  split at e
  · cases e
  · exact e
theorem hid_hid {d : Addr} {H H' : Hp} (k : Keep d H H') : Same (hid d H) (hid d H') := fun b o e => by
  have nb : b ≠ d := fun z => by
    unfold hid at e
    rw [if_pos z] at e
    cases e
  exact hid_of (k b o nb (hid_sub b o e)) nb
theorem ref_get {es : List Addr} {i : Nat} {z : V} (h : (es.map V.ref)[i]? = some z) : ∃ a, es[i]? = some a ∧ z = .ref a := by
  rw [List.getElem?_map] at h
  cases e : es[i]? with
  | none => rw [e] at h; cases h
  | some a => rw [e] at h; exact ⟨a, rfl, (Option.some.inj h).symm⟩
theorem lt6 (i : Nat) : decide (V.bl (decide (i < 6)) = V.bl (decide (((i : Nat) : Int) < 6))) = true := by
  by_cases h : i < 6
  · rw [decide_eq_true h, decide_eq_true (by omega : ((i : Nat) : Int) < 6)]
    rfl
  · rw [decide_eq_false h, decide_eq_false (by omega : ¬ ((i : Nat) : Int) < 6)]
    rfl
theorem ne_str (x : Str) : (!decide (V.str x = V.str x)) = false := by rw [decide_eq_true rfl]; rfl
theorem fds_lk (v o : V) : ∀ i, 5 ≤ i → i < 10 → (fds i v o).lookup (fld i) = some v := by
  intro i h5 h10
  have e : fds i v o = [(fld i, v)] := by
    unfold fds
    rw [if_neg (by omega)]
    rfl
  rw [e]
  exact lk1 _ _
section
variable {P : Program} {w : World} {K : PySem.W.Frag} {mg : Str → Option Value} {base : Heap} {C I : Nat → Addr}
theorem ok_right {f fV fK fS fC fB : Addr} {fd fdV fdK fdS fdC fdB : FuncData} {fdi : Nat → FuncData} (F : Fun K "_law_right" "_law_right" sRight f fd) (T : TxtQ K mg fV fK fS fC fB) (TK : Kl K mg C I) (NI : Ini P w K mg base C I fdi)
    (GV : FnOk P w K mg base CX0 3 fV fdV ["dice"] spVal) (bV : Binds K fdV ["dice"] []) (GK : FnOk P w K mg base CX0 1 fK fdK ["e"] (spKinds K C)) (bK : Binds K fdK ["e"] [])
    (GS : FnOk P w K mg base CX0 1 fS fdS ["e"] (spSorts K C)) (bS : Binds K fdS ["e"] []) (GC : FnOk P w K mg base CX0 4 fC fdC ["kind", "value", "other"] spCaught) (bC : Binds K fdC ["kind", "value", "other"] [])
    (GB : FnOk P w K mg base CX0 4 fB fdB ["kind", "value"] spBy) (bB : Binds K fdB ["kind", "value"] []) : FnG P w K mg base CX0 5 f fd ["dice"] spRight := by
  refine fng_ok F scRight (fun vs H Q E h => ?_) (fun cdv A outer s H vs Q E hgd hr h => ?_)
  · obtain ⟨d, rfl, _⟩ := h
    rfl
  · obtain ⟨d, rfl, hD, k⟩ := h
    have hr3 : Room 3 _ := hr.mono (by decide)
    have hr2 : Room 2 _ := hr.mono (by decide)
    have hr1 : Room 1 _ := hr.mono (by decide)
    have hu64 : (A.deeper (envOfC "_law_right" (defScope sRight) s.heap.objs.size f cdv)).units + 64 < cLine := by have := hr.un; omega
    have hu150 : (A.deeper (envOfC "_law_right" (defScope sRight) s.heap.objs.size f cdv)).units + 150 < cLine := by have := hr.un; omega
    have gd : (A.deeper (envOfC "_law_right" (defScope sRight) s.heap.objs.size f cdv)).guards = some [] := hgd
    refine ⟨_, pss_cons (ps_par (i := 1) (j := 2) rfl scRight.nd rfl rfl (by decide) rfl rfl (pa_cons (pe_call GV hr3 rfl T.gVal T.kVal bV .nil pass0 (pa_cons (pv 0) pa_nil)) (pa_cons (pe_call GV hr3 rfl T.gVal T.kVal bV .nil pass0 (pa_cons (pv 0) pa_nil)) pa_nil)) rfl)
      (pss_cons (ps_set (i := 3) scRight.nd rfl (Or.inl rfl) (pe_lst (pa_cons (pe_mkN (TK.n 0 (by decide)) (by rfl) (pa_cons (pv 1) pa_nil)) (pa_cons (pe_mkN (TK.n 1 (by decide)) (by rfl) (pa_cons (pv 1) pa_nil)) (pa_cons (pe_mkN (TK.n 2 (by decide)) (by rfl) (pa_cons (pv 1) pa_nil)) (pa_cons (pe_mkN (TK.n 3 (by decide)) (by rfl) (pa_cons (pv 1) pa_nil)) (pa_cons (pe_mkN (TK.n 4 (by decide)) (by rfl) (pa_cons (pv 1) pa_nil)) pa_nil)))))))
      (pss_cons (ps_set (i := 4) scRight.nd rfl (Or.inl rfl) (pe_lst (pa_cons (pe_mkN0 (TK.n 0 (by decide)) (by rfl)) (pa_cons (pe_mkN0 (TK.n 1 (by decide)) (by rfl)) (pa_cons (pe_mkN0 (TK.n 2 (by decide)) (by rfl)) (pa_cons (pe_mkN0 (TK.n 3 (by decide)) (by rfl)) (pa_cons (pe_mkN0 (TK.n 4 (by decide)) (by rfl)) pa_nil)))))))
      (pss_cons (ps_set (i := 3) scRight.nd rfl (Or.inl rfl) (pe_op op_cat (pv 3) (pe_lst (pa_cons (pe_mkI (TK.i 5 (by decide) (by decide)) NI.o5 hr2 NI.b5 pass0 (by rfl) (pa_cons (pv 1) pa_nil)) (pa_cons (pe_mkI (TK.i 6 (by decide) (by decide)) NI.o6 hr2 NI.b6 pass0 (by rfl) (pa_cons (pv 1) pa_nil)) (pa_cons (pe_mkI (TK.i 7 (by decide) (by decide)) NI.o7 hr2 NI.b7 pass0 (by rfl) (pa_cons (pv 1) pa_nil)) (pa_cons (pe_mkI (TK.i 8 (by decide) (by decide)) NI.o8 hr2 NI.b8 pass0 (by rfl) (pa_cons (pv 1) pa_nil)) pa_nil)))))))
      (pss_cons (ps_set (i := 3) scRight.nd rfl (Or.inl rfl) (pe_op op_cat (pv 3) (pe_lst (pa_cons (pe_mkI (TK.i 9 (by decide) (by decide)) NI.o9 hr2 NI.b9 pass0 (by rfl) (pa_cons (pv 1) pa_nil)) (pa_cons (pe_mkI (TK.i 10 (by decide) (by decide)) NI.o10 hr2 NI.b10 pass0 (by rfl) (pa_cons (pv 1) (pa_cons (pv 2) pa_nil))) pa_nil)))))
      (pss_cons (ps_for PassesOwn.never rfl (pi_enum (by rfl) T.enum (pa_cons (pv 3) pa_nil)) (pg_tup rfl (pgs_cons (pg_name (i := 5) scRight.nd rfl (Or.inr rfl)) (pgs_cons (pg_name (i := 6) scRight.nd rfl (Or.inl rfl)) pgs_nil))) (pss_cons (ps_if (pt_cmpR (op_neD hu64) (pe_call GK hr1 rfl T.gKi T.kKi bK .nil pass0 (pa_cons (pv 6) pa_nil)) (pe_lc (own := [("spot", 9)]) (g := gName 9) (tt := tYes) rfl scRight.nd (pi_range1 rfl T.range (pa_cons pe_int pa_nil)) (blkOk_by (own := [("spot", 9)]) (N := ["dice", "value", "other", "made", "bare", "kind", "e", "due", "kept", "spot"]) (sc := defScope sRight) (by decide +kernel)) (fun _ _ _ _ _ => pg_name (i := 9) scRight.nd rfl (Or.inl rfl)) (fun _ _ _ _ _ => pts_nil) (fun _ _ _ _ _ => pe_or (pe_cmpR op_eq (pv 9) (pv 5) (nomark _)) (pe_one (pe_and (pe_cmpR op_eq (pv 9) pe_int (nomark _)) (pe_one (pe_cmpR op_lt (pv 5) pe_int (nomark _))))))) (nomark _)) (pss_one (ps_ret pe_bl)) pss_nil) (pss_cons (ps_set (i := 7) scRight.nd rfl (Or.inl rfl) (pe_ifExp (pt_cmpR op_lt (pv 5) pe_int (nomark _)) (pv 5) (pe_ifExp (pt_cmpR op_lt (pv 5) pe_int (nomark _)) (pv 1) (pe_lstN (pa_cons (pv 1) (pa_cons (pv 2) pa_nil)))))) (pss_one (ps_if (PW.pt (pw_or (pt_cmpR op_ne (pe_callB (call_repr gd hu150) (by rfl) T.repr (by decide +kernel) (pa_cons (pe_call GC hr rfl T.gCa T.kCa bC .nil pass0 (pa_cons (pv 5) (pa_cons (pv 1) (pa_cons (pv 2) pa_nil)))) pa_nil)) (pe_callB (call_repr gd hu150) (by rfl) T.repr (by decide +kernel) (pa_cons (pv 7) pa_nil)) (nomark _)) (pw_or1 (pt_cmpR op_ne (pe_call GB hr rfl T.gBy T.kBy bB .nil pass0 (pa_cons (pv 5) (pa_cons (pv 1) pa_nil))) (pe_cmpR op_lt (pv 5) pe_int (nomark _)) (nomark _))))) (pss_one (ps_ret pe_bl)) pss_nil)))))
      (pss_cons (ps_for PassesOwn.never rfl (pi_enum (by rfl) T.enum (pa_cons (pv 4) pa_nil)) (pg_tup rfl (pgs_cons (pg_name (i := 5) scRight.nd rfl (Or.inr rfl)) (pgs_cons (pg_name (i := 6) scRight.nd rfl (Or.inl rfl)) pgs_nil))) (pss_one (ps_if (PW.pt (pw_or (pt_cmpR (op_neD hu64) (pe_call GK hr1 rfl T.gKi T.kKi bK .nil pass0 (pa_cons (pv 6) pa_nil)) (pe_call GK hr1 rfl T.gKi T.kKi bK .nil pass0 (pa_cons (pe_ix ix_list (pv 3) (pv 5) (fun _ _ => rfl)) pa_nil)) (nomark _)) (pw_or1 (pt_cmpR (op_neD hu64) (pe_call GS hr1 rfl T.gSo T.kSo bS .nil pass0 (pa_cons (pv 6) pa_nil)) (pe_call GS hr1 rfl T.gSo T.kSo bS .nil pass0 (pa_cons (pe_ix ix_list (pv 3) (pv 5) (fun _ _ => rfl)) pa_nil)) (nomark _))))) (pss_one (ps_ret pe_bl)) pss_nil)))
      (pss_cons (ps_set (i := 8) scRight.nd rfl (Or.inl rfl) (pe_lstN (pa_cons (pe_err (pe_ix ix_list (pv 3) pe_int (fun _ _ => rfl))) (pa_cons (pe_err (pe_ix ix_list (pv 3) pe_int (fun _ _ => rfl))) (pa_cons (pe_err (pe_ix ix_list (pv 3) pe_int (fun _ _ => rfl))) (pa_cons (pe_err (pe_ix ix_list (pv 3) pe_int (fun _ _ => rfl))) (pa_cons (pe_err (pe_ix ix_list (pv 3) pe_int (fun _ _ => rfl))) (pa_cons (pe_err (pe_ix ix_list (pv 3) pe_int (fun _ _ => rfl))) (pa_cons (pe_err (pe_ix ix_list (pv 3) pe_int (fun _ _ => rfl))) pa_nil)))))))))
      (pss_one (ps_ret (pe_cmpR op_eq (pe_callB (call_repr gd hu150) (by rfl) T.repr (by decide +kernel) (pa_cons (pv 8) pa_nil)) (pe_callB (call_repr gd hu150) (by rfl) T.repr (by decide +kernel) (pa_cons (pe_op op_catN (pe_op op_rep (pe_lst (pa_cons (pv 1) pa_nil)) pe_int) (pe_lst (pa_cons (pv 2) pa_nil))) pa_nil)) (nomark _))))))))))), ?_⟩
    -- value, other
    refine ⟨_, rfl, d, 0, rfl, hD, by decide, fun v Dv H1 k1 D1 q1 s1 => ⟨_, rfl, d, 2, rfl, D1, by decide, fun o Do H2 k2 D2 q2 s2 => ⟨v, o, rfl, ?_⟩⟩⟩
    have qv : Dq H2 v Dv := (q1.same (hid_hid k2)).same hid_sub
    have qo : Dq H2 o Do := q2.same hid_sub
    have kk : Keep d H H2 := k1.trans k2
    have S0 : Stt C v o H2 H2 [] [] [] := ⟨Same.refl _, (fun k a h => nomatch h), (fun k a h => nomatch h), (fun q h => nomatch h)⟩
    refine ⟨_, rfl, (by show 1 ≤ 1000; decide), fun a0 n0 => ?_⟩
    have S1 := S0.mkN n0 0 (by decide) rfl
    refine ⟨_, rfl, (by show 1 ≤ 1000; decide), fun a1 n1 => ?_⟩
    have S2 := S1.mkN n1 1 (by decide) rfl
    refine ⟨_, rfl, (by show 1 ≤ 1000; decide), fun a2 n2 => ?_⟩
    have S3 := S2.mkN n2 2 (by decide) rfl
    refine ⟨_, rfl, (by show 1 ≤ 1000; decide), fun a3 n3 => ?_⟩
    have S4 := S3.mkN n3 3 (by decide) rfl
    refine ⟨_, rfl, (by show 1 ≤ 1000; decide), fun a4 n4 => ?_⟩
    have S5 := S4.mkN n4 4 (by decide) rfl
    refine ⟨(by show 5 ≤ sizeLine; decide), fun M nM => ?_⟩
    have B0 := S5.new nM (x := .lst [.ref a0, .ref a1, .ref a2, .ref a3, .ref a4])
    refine ⟨(by show 0 ≤ 1000; decide), fun b0 m0 => ?_⟩
    have B1 := B0.mkB m0 0 (by decide) rfl
    refine ⟨(by show 0 ≤ 1000; decide), fun b1 m1 => ?_⟩
    have B2 := B1.mkB m1 1 (by decide) rfl
    refine ⟨(by show 0 ≤ 1000; decide), fun b2 m2 => ?_⟩
    have B3 := B2.mkB m2 2 (by decide) rfl
    refine ⟨(by show 0 ≤ 1000; decide), fun b3 m3 => ?_⟩
    have B4 := B3.mkB m3 3 (by decide) rfl
    refine ⟨(by show 0 ≤ 1000; decide), fun b4 m4 => ?_⟩
    have B5 := B4.mkB m4 4 (by decide) rfl
    refine ⟨(by show 5 ≤ sizeLine; decide), fun B nB => ?_⟩
    have T0 := B5.new nB (x := .lst (([b0, b1, b2, b3, b4] : List Addr).map V.ref))
    refine ⟨_, rfl, _, rfl, (by show 1 ≤ 1000; decide), fun a5 n5 => ⟨a5, [v], rfl, rfl, upd_same, fun x5 G5 y5 z5 e5 f5 o5 => ⟨rfl, ?_⟩⟩⟩
    have T1 := T0.mkI n5 5 (by decide) rfl y5 z5 e5 f5 rfl o5
    refine ⟨_, rfl, (by show 1 ≤ 1000; decide), fun a6 n6 => ⟨a6, [v], rfl, rfl, upd_same, fun x6 G6 y6 z6 e6 f6 o6 => ⟨rfl, ?_⟩⟩⟩
    have T2 := T1.mkI n6 6 (by decide) rfl y6 z6 e6 f6 rfl o6
    refine ⟨_, rfl, (by show 1 ≤ 1000; decide), fun a7 n7 => ⟨a7, [v], rfl, rfl, upd_same, fun x7 G7 y7 z7 e7 f7 o7 => ⟨rfl, ?_⟩⟩⟩
    have T3 := T2.mkI n7 7 (by decide) rfl y7 z7 e7 f7 rfl o7
    refine ⟨_, rfl, (by show 1 ≤ 1000; decide), fun a8 n8 => ⟨a8, [v], rfl, rfl, upd_same, fun x8 G8 y8 z8 e8 f8 o8 => ⟨rfl, ?_⟩⟩⟩
    have T4 := T3.mkI n8 8 (by decide) rfl y8 z8 e8 f8 rfl o8
    refine ⟨(by show 4 ≤ sizeLine; decide), fun L nL => ?_⟩
    have T5 := T4.new nL (x := .lst [.ref a5, .ref a6, .ref a7, .ref a8])
    refine ⟨M, L, _, _, rfl, rfl, T5.ll _ (.tail _ (.tail _ (.head _))), T5.ll _ (.head _), (by show 9 ≤ sizeLine; decide), fun M2 nM2 => ?_⟩
    have T6 := T5.new nM2 (x := .lst [.ref a0, .ref a1, .ref a2, .ref a3, .ref a4, .ref a5, .ref a6, .ref a7, .ref a8])
    refine ⟨_, rfl, _, rfl, (by show 1 ≤ 1000; decide), fun a9 n9 => ⟨a9, [v], rfl, rfl, upd_same, fun x9 G9 y9 z9 e9 f9 o9 => ⟨rfl, ?_⟩⟩⟩
    have U1 := T6.mkI n9 9 (by decide) rfl y9 z9 e9 f9 rfl o9
    refine ⟨_, rfl, _, rfl, (by show 2 ≤ 1000; decide), fun a10 n10 => ⟨a10, [v, o], rfl, rfl, upd_same, fun x10 G10 y10 z10 e10 f10 o10 => ⟨rfl, ?_⟩⟩⟩
    have U2 := U1.mkI n10 10 (by decide) rfl y10 z10 e10 f10 rfl o10
    refine ⟨(by show 2 ≤ sizeLine; decide), fun L2 nL2 => ?_⟩
    have U3 := U2.new nL2 (x := .lst [.ref a9, .ref a10])
    refine ⟨M2, L2, _, _, rfl, rfl, U3.ll _ (.tail _ (.head _)), U3.ll _ (.head _), (by show 11 ≤ sizeLine; decide), fun M3 nM3 => ?_⟩
    have U4 := U3.new nM3 (x := .lst (([a0, a1, a2, a3, a4, a5, a6, a7, a8, a9, a10] : List Addr).map V.ref))
    obtain ⟨es, hes⟩ : ∃ es : List Addr, es = [a0, a1, a2, a3, a4, a5, a6, a7, a8, a9, a10] := ⟨_, rfl⟩
    obtain ⟨bs, hbs⟩ : ∃ bs : List Addr, bs = [b0, b1, b2, b3, b4] := ⟨_, rfl⟩
    have U5 : Stt C v o H2 _ es bs [(M3, .lst (es.map V.ref)), (B, .lst (bs.map V.ref))] := ⟨U4.sm, by rw [hes]; exact U4.me, by rw [hbs]; exact U4.ba, fun q hq => by
      rcases List.mem_cons.mp hq with rfl | hq
      · rw [hes]
        exact U4.ll _ (.head _)
      · rcases List.mem_cons.mp hq with rfl | hq
        · rw [hbs]
          exact U4.ll _ (.tail _ (.tail _ (.tail _ (.tail _ (.head _)))))
        · cases hq⟩
    have le : es.length = 11 := by rw [hes]; rfl
    have lb : bs.length = 5 := by rw [hbs]; rfl
    -- the first loop
    refine ⟨_, rfl, M3, _, rfl, SqL.of (U5.ll _ (.head _)), for_it (walk_enum (K := K) (a := M3) (xs := es.map V.ref)) (fun i σ G' => Stt C v o H2 G' es bs [(M3, .lst (es.map V.ref)), (B, .lst (bs.map V.ref))] ∧
      ∃ x5 x6 x7 x9, σ = [some (.ref d), some v, some o, some (.ref M3), some (.ref B), x5, x6, x7, none, x9]) ⟨U5, _, _, _, _, rfl⟩ (fun i σ G' _ p => SqL.of (p.1.ll _ (.head _))) ?_ ?_⟩
    · rintro i x σ G1 G2 hi ⟨R0, x5, x6, x7, x9, rfl⟩ ⟨T0', y, z, rfl, nT, rfl, ey, ez⟩
      obtain ⟨a, ha, rfl⟩ := ref_get ez
      cases ey
      have hi' : i < 11 := by rw [List.length_map, le] at hi; exact hi
      have R1 := R0.same (same_new (o := .tup [.int (i : Nat), .ref a]) nT)
      refine ⟨T0', _, rfl, SqT.of upd_same, rfl, _, _, rfl, _, _, rfl, rfl, ?_⟩
      -- its kinds
      refine ⟨_, rfl, a, i, _, rfl, hi', (R1.me i a ha).err, fun p P1 sp np hp => ?_⟩
      have R2 := R1.same sp
      refine ⟨11, rfl, by decide, by decide, fun D nD => lc_range (lo := 0) (n := 11) (fun j G3 => G3 = upd P1 D (.lst ((List.range j).map fun s => .bl (kb i s)))) rfl (fun j G3 hj e => ?_) (fun G3 e => ?_)⟩
      · subst e
        refine ⟨rfl, ?_⟩
        unfold tYes
        dsimp only
        rw [if_pos rfl]
        have fin : ∀ y : V, y = .bl (kb i j) → ∃ acc, (upd P1 D (.lst ((List.range j).map fun s => V.bl (kb i s)))) D = some (.lst acc) ∧ acc.length < sizeLine ∧
            upd (upd P1 D (.lst ((List.range j).map fun s => V.bl (kb i s)))) D (.lst (acc ++ [y])) = upd P1 D (.lst ((List.range (j + 1)).map fun s => V.bl (kb i s))) := by
          intro y hy
          refine ⟨_, upd_same, by rw [List.length_map, List.length_range, sizeLine_eq]; omega, ?_⟩
          rw [upd_upd, hy, List.range_succ, List.map_append]
          rfl
        have e0 := kb_eq i j
        refine ⟨_, rfl, _, rfl, rfl, _, rfl, ite2 (fun c1 => fin _ ?_) (fun c1 => ?_)⟩
        · rw [e0, c1]
          rfl
        · have c1' := Bool.eq_false_iff.mpr c1
          refine ⟨_, rfl, rfl, _, rfl, ite2 (fun c2 => ⟨_, rfl, _, _, rfl, rfl, fin _ ?_⟩) (fun c2 => fin _ ?_)⟩
          · rw [e0, c1', c2]
            rfl
          · rw [e0, c1', Bool.eq_false_iff.mpr c2]
            rfl
      · subst e
        have R3 := R2.same (same_new (o := .lst ((List.range 11).map fun s => V.bl (kb i s))) nD)
        refine ⟨kD i, kD i, dp_kinds (by rw [upd_ne (ne_of_none hp nD)]; exact hp), dp_kinds upd_same, (kD_ok i hi').1, (kD_ok i hi').1, _, rfl, if_f (by rw [(kD_ok i hi').2]; rfl) ?_⟩
        have byend : ∀ {P2 : Hp}, Same P2 P2 := fun {P2} => Same.refl P2
        by_cases h5 : i < 5
        · refine ⟨_, rfl, _, _, rfl, rfl, _, rfl, if_t (decide_eq_true (by omega)) ⟨_, rfl, ?_⟩⟩
          refine ⟨_, rfl, _, rfl, _, rfl, i, v, o, rfl, hi', fun _ P2 sp2 => ?_, fun h _ => absurd h5 (by omega), fun h => absurd h5 (by omega)⟩
          have sm := (small_int (r := ((i : Nat) : Int)) (by omega) (by omega)).ok
          refine ⟨_, _, rfl, .int _, sm.1, sm.2.1, sm.2.2, _, rfl, _, _, rfl, .int _, sm.1, sm.2.1, sm.2.2, rfl, _, rfl, if_f (ne_str _) ?_⟩
          exact ⟨_, rfl, _, rfl, i, v, rfl, hi', fun P3 sp3 => ⟨_, rfl, _, _, rfl, rfl, rfl, _, rfl, if_f (by rw [lt6]; rfl) ⟨(R3.same sp2).same sp3, _, _, _, _, rfl⟩⟩⟩
        · by_cases h10 : i < 10
          · refine ⟨_, rfl, _, _, rfl, rfl, _, rfl, if_f (decide_eq_false (by omega)) ⟨_, rfl, _, _, rfl, rfl, _, rfl, if_t (decide_eq_true (by omega)) ⟨_, rfl, ?_⟩⟩⟩
            refine ⟨_, rfl, _, rfl, _, rfl, i, v, o, rfl, hi', fun h => absurd h h5, fun _ _ P2 sp2 => ?_, fun h => absurd h10 (by omega)⟩
            have sm := s1.ok
            have qv' := qv.same (R3.sm.trans sp2)
            refine ⟨_, _, rfl, qv', sm.1, sm.2.1, sm.2.2, _, rfl, _, _, rfl, qv', sm.1, sm.2.1, sm.2.2, rfl, _, rfl, if_f (ne_str _) ?_⟩
            exact ⟨_, rfl, _, rfl, i, v, rfl, hi', fun P3 sp3 => ⟨_, rfl, _, _, rfl, rfl, rfl, _, rfl, if_f (by rw [lt6]; rfl) ⟨(R3.same sp2).same sp3, _, _, _, _, rfl⟩⟩⟩
          · refine ⟨_, rfl, _, _, rfl, rfl, _, rfl, if_f (decide_eq_false (by omega)) ⟨_, rfl, _, _, rfl, rfl, _, rfl, if_f (decide_eq_false (by omega)) ⟨_, rfl, _, rfl, (by show 2 ≤ sizeLine; decide), fun q nq mq => ?_⟩⟩⟩
            have R4 := R3.same (same_new (o := .lst [v, o]) nq)
            refine ⟨_, rfl, _, rfl, _, rfl, i, v, o, rfl, hi', fun h => absurd h h5, fun _ h => absurd h h10, fun _ p2 P2 sp2 hp2 mp2 => ?_⟩
            have qv' := qv.same (R4.sm.trans sp2)
            have qo' := qo.same (R4.sm.trans sp2)
            have sm := small_list (ds := [Dv, Do]) (by intro z hz; rcases List.mem_cons.mp hz with rfl | hz; exact s1; rcases List.mem_cons.mp hz with rfl | hz; exact s2; cases hz) (by show 2 ≤ 10; decide)
            refine ⟨_, _, rfl, .lst hp2 mp2 (.cons qv' (.cons qo' .nil)), sm.1, sm.2.1, sm.2.2, _, rfl, _, _, rfl, .lst (sp2 _ _ upd_same) mq (.cons qv' (.cons qo' .nil)), sm.1, sm.2.1, sm.2.2, rfl, _, rfl, if_f (ne_str _) ?_⟩
            exact ⟨_, rfl, _, rfl, i, v, rfl, hi', fun P3 sp3 => ⟨_, rfl, _, _, rfl, rfl, rfl, _, rfl, if_f (by rw [lt6]; rfl) ⟨(R4.same sp2).same sp3, _, _, _, _, rfl⟩⟩⟩
    · rintro σ G1 ⟨R0, x5, x6, x7, x9, rfl⟩
      -- the second loop
      refine ⟨_, rfl, B, _, rfl, SqL.of (R0.ll _ (.tail _ (.head _))), for_it (walk_enum (K := K) (a := B) (xs := bs.map V.ref)) (fun i σ G' => Stt C v o H2 G' es bs [(M3, .lst (es.map V.ref)), (B, .lst (bs.map V.ref))] ∧ ∃ x5 x6 x7 x9, σ = [some (.ref d), some v, some o, some (.ref M3), some (.ref B), x5, x6, x7, none, x9])
        ⟨R0, _, _, _, _, rfl⟩ (fun i σ G' _ p => SqL.of (p.1.ll _ (.tail _ (.head _)))) ?_ ?_⟩
      · rintro i x σ G1 G2 hi ⟨R0, x5, x6, x7, x9, rfl⟩ ⟨T0', y, z, rfl, nT, rfl, ey, ez⟩
        obtain ⟨b, hb, rfl⟩ := ref_get ez
        cases ey
        have hi5 : i < 5 := by rw [List.length_map, lb] at hi; exact hi
        have hi' : i < 11 := by omega
        obtain ⟨a, ha⟩ : ∃ a, es[i]? = some a := ⟨_, List.getElem?_eq_getElem (show i < es.length by omega)⟩
        have hat : atI (es.map V.ref) ((i : Nat) : Int) = some (.ref a) := atI_nat (by rw [List.getElem?_map, ha]; rfl)
        have R1 := R0.same (same_new (o := .tup [.int (i : Nat), .ref b]) nT)
        refine ⟨T0', _, rfl, SqT.of upd_same, rfl, _, _, rfl, _, _, rfl, rfl, ?_⟩
        refine ⟨_, rfl, b, i, _, rfl, hi', (R1.ba i b hb).err, fun p P1 sp np hp => ?_⟩
        have R2 := R1.same sp
        refine ⟨_, rfl, _, rfl, M3, _, _, .ref a, rfl, rfl, SqL.of (R2.ll _ (.head _)), hat, a, i, _, rfl, hi', (R2.me i a ha).err, fun p2 P2 sp2 np2 hp2 => ?_⟩
        have R3 := R2.same sp2
        refine ⟨kD i, kD i, dp_kinds (sp2 _ _ hp), dp_kinds hp2, (kD_ok i hi').1, (kD_ok i hi').1, _, rfl, if_f (by rw [(kD_ok i hi').2]; rfl) ?_⟩
        refine ⟨_, rfl, b, i, _, rfl, hi', (R3.ba i b hb).err, fun p3 P3 sp3 np3 hp3 => ?_⟩
        have R4 := R3.same sp3
        refine ⟨_, rfl, _, rfl, M3, _, _, .ref a, rfl, rfl, SqL.of (R4.ll _ (.head _)), hat, a, i, _, rfl, hi', (R4.me i a ha).err, fun p4 P4 sp4 np4 hp4 => ?_⟩
        have R5 := R4.same sp4
        exact ⟨sD i, sD i, dp_sorts (sp4 _ _ hp3), dp_sorts hp4, (sD_ok i hi').1, (sD_ok i hi').1, _, rfl, if_f (by rw [(sD_ok i hi').2]; rfl) ⟨R5, _, _, _, _, rfl⟩⟩
      · rintro σ G1 ⟨R0, x5, x6, x7, x9, rfl⟩
        have hM := R0.ll _ (.head _)
        obtain ⟨dx5, p5, q5⟩ := (R0.me 5 a5 (by rw [hes]; rfl)).2 (by decide)
        obtain ⟨dx6, p6, q6⟩ := (R0.me 6 a6 (by rw [hes]; rfl)).2 (by decide)
        obtain ⟨dx7, p7, q7⟩ := (R0.me 7 a7 (by rw [hes]; rfl)).2 (by decide)
        obtain ⟨dx8, p8, q8⟩ := (R0.me 8 a8 (by rw [hes]; rfl)).2 (by decide)
        obtain ⟨dx9, p9, q9⟩ := (R0.me 9 a9 (by rw [hes]; rfl)).2 (by decide)
        obtain ⟨dx10, p10, q10⟩ := (R0.me 10 a10 (by rw [hes]; rfl)).2 (by decide)
        -- kept
        refine ⟨_, rfl, M3, _, _, _, rfl, rfl, SqL.of hM, (by rw [hes]; rfl), a5, C 5, dx5, _, v, rfl, p5, q5, TK.ec (by decide), TK.fl 5 (by decide) (by decide), fds_lk v o 5 (by decide) (by decide), ?_⟩
        refine ⟨_, rfl, M3, _, _, _, rfl, rfl, SqL.of hM, (by rw [hes]; rfl), a6, C 6, dx6, _, v, rfl, p6, q6, TK.ec (by decide), TK.fl 6 (by decide) (by decide), fds_lk v o 6 (by decide) (by decide), ?_⟩
        refine ⟨_, rfl, M3, _, _, _, rfl, rfl, SqL.of hM, (by rw [hes]; rfl), a7, C 7, dx7, _, v, rfl, p7, q7, TK.ec (by decide), TK.fl 7 (by decide) (by decide), fds_lk v o 7 (by decide) (by decide), ?_⟩
        refine ⟨_, rfl, M3, _, _, _, rfl, rfl, SqL.of hM, (by rw [hes]; rfl), a8, C 8, dx8, _, v, rfl, p8, q8, TK.ec (by decide), TK.fl 8 (by decide) (by decide), fds_lk v o 8 (by decide) (by decide), ?_⟩
        refine ⟨_, rfl, M3, _, _, _, rfl, rfl, SqL.of hM, (by rw [hes]; rfl), a9, C 9, dx9, _, v, rfl, p9, q9, TK.ec (by decide), TK.fl 9 (by decide) (by decide), fds_lk v o 9 (by decide) (by decide), ?_⟩
        refine ⟨_, rfl, M3, _, _, _, rfl, rfl, SqL.of hM, (by rw [hes]; rfl), a10, C 10, dx10, _, v, rfl, p10, q10, TK.ec (by decide), TK.f1, lk2 v o, ?_⟩
        refine ⟨_, rfl, M3, _, _, _, rfl, rfl, SqL.of hM, (by rw [hes]; rfl), a10, C 10, dx10, _, o, rfl, p10, q10, TK.ec (by decide), TK.f2, lk3 v o, ?_⟩
        refine ⟨(by show 7 ≤ sizeLine; decide), fun q nq mq => ?_⟩
        have sq : Same H2 (upd G1 q (.lst [v, v, v, v, v, v, o])) := R0.sm.trans (same_new nq)
        have sm := small_list (ds := [Dv, Dv, Dv, Dv, Dv, Dv, Do]) (by
          intro z hz
          simp only [List.mem_cons, List.not_mem_nil, or_false] at hz
          rcases hz with rfl | rfl | rfl | rfl | rfl | rfl | rfl <;> first | exact s1 | exact s2) (by show 7 ≤ 10; decide)
        have dq : ∀ {H' : Hp} {p : Addr}, Same H2 H' → H' p = some (.lst [v, v, v, v, v, v, o]) → p ≠ sysModules → Dq H' (.ref p) (.list [Dv, Dv, Dv, Dv, Dv, Dv, Do]) := fun {H' p} e hp mp =>
          let a := qv.same e
          .lst hp mp (.cons a (.cons a (.cons a (.cons a (.cons a (.cons a (.cons (qo.same e) .nil)))))))
        refine ⟨_, rfl, .ref q, _, rfl, dq sq upd_same mq, sm.1, sm.2.1, sm.2.2, ?_⟩
        refine ⟨_, rfl, (by show 1 ≤ sizeLine; decide), fun l1 u1 => ⟨l1, 6, [v], rfl, rfl, upd_same, by decide, by decide, (by show 1 * 6 ≤ sizeLine; decide), fun l2 u2 => ⟨_, rfl, (by show 1 ≤ sizeLine; decide), fun l3 u3 => ⟨l2, l3, _, _, rfl, rfl, (by rw [upd_ne (ne_of_none upd_same u3)]; exact upd_same), upd_same, (by show 7 ≤ sizeLine; decide), fun l4 u4 w4 => ?_⟩⟩⟩⟩
        have sz := (((sq.trans (same_new u1)).trans (same_new u2)).trans (same_new u3)).trans (same_new (o := .lst [v, v, v, v, v, v, o]) u4)
        refine ⟨.ref l4, _, rfl, dq sz upd_same w4, sm.1, sm.2.1, sm.2.2, rfl, ?_⟩
        rw [decide_eq_true rfl]
        exact k _ (kk.trans (Keep.of sz))
end
end Lk
end
section
set_option maxRecDepth 100000
set_option maxHeartbeats 8000000
/-! The law's def. -/
namespace Lk
open PySem L2 Kx PySem.Spec PyProof.Rows
theorem scLaw : FnScope ["script", "at", "made", "told", "first", "due", "e"] ["script"] (defScope sLaw) := ⟨rfl, rfl, rfl, by decide +kernel, rfl, by decide +kernel, by decide +kernel⟩
structure TxtL (K : PySem.W.Frag) (mg : Str → Option Value) (fD fG fS : Addr) : Prop where
  gD : mg "_law_dice" = some (.ref fD)
  kD : PySem.W.keepIn K (.ref fD) = true
  gG : mg "_law_right" = some (.ref fG)
  kG : PySem.W.keepIn K (.ref fG) = true
  gSo : mg "_law_sorts" = some (.ref fS)
  kSo : PySem.W.keepIn K (.ref fS) = true
  range : mg "range" = none
  max : mg "max" = none
  min : mg "min" = none
  len : mg "len" = none
/-- errors that stand, each with its kind; lists that stand -/
structure Sx (C : Nat → Addr) (H0 G : Hp) (es : List (Addr × Nat)) (ls : List (Addr × HO)) : Prop where
  sm : Same H0 G
  me : ∀ q ∈ es, q.2 < 11 ∧ ∃ fs, ErrAt G q.1 (C q.2) fs
  ll : ∀ q ∈ ls, G q.1 = some q.2
section
variable {C : Nat → Addr} {H0 G G' : Hp} {es : List (Addr × Nat)} {ls : List (Addr × HO)}
theorem Sx.same (S : Sx C H0 G es ls) (e : Same G G') : Sx C H0 G' es ls := ⟨S.sm.trans e, fun q h => let ⟨a, fs, b⟩ := S.me q h; ⟨a, fs, b.same e⟩, fun q h => e _ _ (S.ll q h)⟩
theorem Sx.new {p : Addr} {x : HO} (S : Sx C H0 G es ls) (h : G p = none) : Sx C H0 (upd G p x) es ((p, x) :: ls) := by
  have S' := S.same (same_new (o := x) h)
  refine ⟨S'.sm, S'.me, fun q hq => ?_⟩
  rcases List.mem_cons.mp hq with rfl | hq
  · exact upd_same
  · exact S'.ll q hq
theorem Sx.mkN {a : Addr} (S : Sx C H0 G es ls) (h : G a = none) (k : Nat) (hk : k < 11) : Sx C H0 (upd G a (exo a (C k) none)) ((a, k) :: es) ls := by
  have S' := S.same (same_new (o := exo a (C k) none) h)
  refine ⟨S'.sm, fun q hq => ?_, S'.ll⟩
  rcases List.mem_cons.mp hq with rfl | hq
  · exact ⟨hk, [], .inl upd_same⟩
  · exact S'.me q hq
theorem Sx.mkI {a dx : Addr} {H2 : Hp} {fs : List (Str × V)} (S : Sx C H0 G es ls) (h : G a = none) (k : Nat) (hk : k < 11) (nd : upd G a (exo a (C k) none) dx = none)
    (ea : H2 a = some (exo a (C k) (some dx))) (ed : H2 dx = some (exd dx fs)) (oth : ∀ b, b ≠ a → b ≠ dx → H2 b = upd G a (exo a (C k) none) b) : Sx C H0 H2 ((a, k) :: es) ls := by
  have e : Same G H2 := fun b x hb => by
    have ba := ne_of_none hb h
    have bd : b ≠ dx := fun z => by
      rw [← z, upd_ne ba, hb] at nd
      cases nd
    rw [oth b ba bd, upd_ne ba]
    exact hb
  have S' := S.same e
  refine ⟨S'.sm, fun q hq => ?_, S'.ll⟩
  rcases List.mem_cons.mp hq with rfl | hq
  · exact ⟨hk, fs, .inr ⟨dx, ea, ed⟩⟩
  · exact S'.me q hq
end
theorem same_sq {K : PySem.W.Frag} {H H' : Hp} {a : Addr} {xs : List V} (h : SqL K H a xs) (e : Same H H') : SqL K H' a xs :=
  h.elim (fun h => .inl (h.elim (fun h => .inl (e _ _ h)) fun ⟨o, h⟩ => .inr ⟨o, e _ _ h⟩)) fun h => .inr h
theorem same_sqT {K : PySem.W.Frag} {H H' : Hp} {a : Addr} {xs : List V} (h : SqT K H a xs) (e : Same H H') : SqT K H' a xs :=
  h.elim (fun h => .inl (h.elim (fun h => .inl (e _ _ h)) fun ⟨o, h⟩ => .inr ⟨o, e _ _ h⟩)) fun h => .inr h
mutual
theorem dp_same {K : PySem.W.Frag} {H H' : Hp} (h : Dp K H v d) (e : Same H H') : Dp K H' v d := match h with
  | .non => .non
  | .bl b => .bl b
  | .int i => .int i
  | .str x => .str x
  | .lst a b => .lst (same_sq a e) (dps_same b e)
  | .tup a b => .tup (same_sqT a e) (dps_same b e)
theorem dps_same {K : PySem.W.Frag} {H H' : Hp} (h : DpAll K H v d) (e : Same H H') : DpAll K H' v d := match h with
  | .nil => .nil
  | .cons a b => .cons (dp_same a e) (dps_same b e)
end
/-- the places of law(script): a list of at most 63 ints -/
def spLaw (K : PySem.W.Frag) : Sp := fun vs H Q _ => ∃ (a : Addr) (ns : List Int), vs = [.ref a] ∧ SqL K H a (ns.map V.int) ∧ ns.length ≤ 63 ∧ ∀ H', Q (.bl true) H'
def dueD : PyData := .list ([0, 3, 5, 6, 7, 8, 9, 10].map sD)
theorem dueD_ok : SeqAt.shaped dueD = true ∧ PyData.eqv dueD dueD = true := by decide +kernel
theorem dp_list {K : PySem.W.Frag} {H : Hp} : ∀ {rs : List Addr} {ks : List Nat}, rs.length = ks.length → (∀ (j : Nat) (r : Addr), rs[j]? = some r → ∃ k, ks[j]? = some k ∧ H r = some (.lst (sortsOf k))) → DpAll K H (rs.map V.ref) (ks.map sD)
  | [], [], _, _ => .nil
  | [], _ :: _, h, _ => by cases h
  | _ :: _, [], h, _ => by cases h
  | r :: rs, k :: ks, h, f => by
    obtain ⟨k', e, q⟩ := f 0 r rfl
    cases e
    exact .cons (dp_sorts q) (dp_list (Nat.succ.inj h) fun j r' hj => f (j + 1) r' hj)
/-- what the comprehension keeps: lists told so far -/
structure Told (H1 G : Hp) (D : Addr) (ks : List Nat) (i : Nat) (rs : List Addr) : Prop where
  sm : Same H1 G
  le : rs.length = i
  at' : G D = some (.lst (rs.map V.ref))
  me : ∀ (j : Nat) (r : Addr), rs[j]? = some r → r ≠ D ∧ ∃ k, ks[j]? = some k ∧ G r = some (.lst (sortsOf k))
theorem Told.next {H1 G G' : Hp} {D p : Addr} {ks : List Nat} {i k : Nat} {rs : List Addr} (T : Told H1 G D ks i rs) (nD : H1 D = none) (hk : ks[i]? = some k) (e : Same G G') (np : G p = none) (hp : G' p = some (.lst (sortsOf k))) :
    Told H1 (upd G' D (.lst ((rs ++ [p]).map V.ref))) D ks (i + 1) (rs ++ [p]) := by
  have pD : p ≠ D := fun z => by rw [z, T.at'] at np; cases np
  refine ⟨fun b o h => ?_, by rw [List.length_append, T.le]; rfl, upd_same, fun j r hj => ?_⟩
  · rw [upd_ne (ne_of_none h nD)]
    exact e _ _ (T.sm _ _ h)
  · rcases snoc_get T.le hj with q | ⟨rfl, rfl⟩
    · obtain ⟨a, k', b, c⟩ := T.me j r q
      exact ⟨a, k', b, by rw [upd_ne a]; exact e _ _ c⟩
    · exact ⟨pD, k, hk, by rw [upd_ne pD]; exact hp⟩
section
variable {P : Program} {w : World} {K : PySem.W.Frag} {mg : Str → Option Value} {base : Heap} {C I : Nat → Addr}
theorem ok_law {f fD fG fS : Addr} {fd fdD fdG fdS : FuncData} {fdi : Nat → FuncData} (F : Fun K "law" "law" sLaw f fd) (T : TxtL K mg fD fG fS) (TK : Kl K mg C I) (NI : Ini P w K mg base C I fdi)
    (GD : FnOk P w K mg base CX0 1 fD fdD ["script", "at"] (spDice K)) (bD : Binds K fdD ["script", "at"] []) (GG : FnG P w K mg base CX0 5 fG fdG ["dice"] spRight) (bG : Binds K fdG ["dice"] [])
    (GS : FnOk P w K mg base CX0 1 fS fdS ["e"] (spSorts K C)) (bS : Binds K fdS ["e"] []) : FnG P w K mg base CX0 6 f fd ["script"] (spLaw K) := by
  refine fng_ok F scLaw (fun vs H Q E h => ?_) (fun cdv A outer s H vs Q E hgd hr h => ?_)
  · obtain ⟨a, ns, rfl, _⟩ := h
    rfl
  · obtain ⟨a, ns, rfl, hS, hlen, k⟩ := h
    have hr1 : Room 1 _ := hr.mono (by decide)
    have hr2 : Room 2 _ := hr.mono (by decide)
    have hu64 : (A.deeper (envOfC "law" (defScope sLaw) s.heap.objs.size f cdv)).units + 64 < cLine := by have := hr.un; omega
    have gd : (A.deeper (envOfC "law" (defScope sLaw) s.heap.objs.size f cdv)).guards = some [] := hgd
    refine ⟨_, pss_cons (ps_for PassesOwn.never rfl (pi_range1 (by rfl) T.range (pa_cons (pe_callB (call_max2 (by rfl)) (by rfl) T.max (by decide +kernel) (pa_cons pe_int (pa_cons (pe_callB (call_min2 (by rfl)) (by rfl) T.min (by decide +kernel) (pa_cons pe_int (pa_cons (pe_callB call_len_seq (by rfl) T.len PySem.boot_len (pa_cons (pv 0) pa_nil)) pa_nil))) pa_nil))) pa_nil)) (pg_name (i := 1) scLaw.nd rfl (Or.inl rfl))
        (pss_one (ps_if (pt_not (pt_val (pe_callG GG gd hr (by rfl) T.gG T.kG bG pass0 (pa_cons (pe_call GD hr1 (by rfl) T.gD T.kD bD .nil pass0 (pa_cons (pv 0) (pa_cons (pv 1) pa_nil))) pa_nil)))) (pss_one (ps_ret pe_bl)) pss_nil)))
      (pss_cons (ps_set (i := 2) scLaw.nd rfl (Or.inl rfl) (pe_lst (pa_cons (pe_mkN (TK.n 0 (by decide)) (by rfl) (pa_cons pe_str pa_nil)) (pa_cons (pe_mkN (TK.n 3 (by decide)) (by rfl) (pa_cons pe_str pa_nil)) (pa_cons (pe_mkI (TK.i 5 (by decide) (by decide)) NI.o5 hr2 NI.b5 pass0 (by rfl) (pa_cons pe_non pa_nil)) (pa_cons (pe_mkI (TK.i 6 (by decide) (by decide)) NI.o6 hr2 NI.b6 pass0 (by rfl) (pa_cons pe_str pa_nil)) (pa_cons (pe_mkI (TK.i 7 (by decide) (by decide)) NI.o7 hr2 NI.b7 pass0 (by rfl) (pa_cons (pe_un un_neg pe_int) pa_nil)) (pa_cons (pe_mkI (TK.i 8 (by decide) (by decide)) NI.o8 hr2 NI.b8 pass0 (by rfl) (pa_cons pe_int pa_nil)) pa_nil))))))))
      (pss_cons (ps_setLc (i := 3) (own := [("e", 6)]) (g := gName 6) (tt := tYes) rfl scLaw.nd rfl rfl (by rfl) (pi_list (pe_op op_cat (pv 2) (pe_lst (pa_cons (pe_mkI (TK.i 9 (by decide) (by decide)) NI.o9 hr2 NI.b9 pass0 (by rfl) (pa_cons pe_int pa_nil)) (pa_cons (pe_mkI (TK.i 10 (by decide) (by decide)) NI.o10 hr2 NI.b10 pass0 (by rfl) (pa_cons pe_str (pa_cons pe_str pa_nil))) pa_nil)))))
        (blkOk_by (own := [("e", 6)]) (N := ["script", "at", "made", "told", "first", "due", "e"]) (sc := defScope sLaw) (by decide +kernel)) (fun _ _ _ _ _ => pg_name (i := 6) scLaw.nd rfl (Or.inl rfl)) (fun _ _ _ _ _ => pts_nil)
        (fun _ _ _ _ _ => pe_call GS hr1 (by rfl) T.gSo T.kSo bS .nil pass0 (pa_cons (pv 6) pa_nil)))
      (pss_cons (ps_set (i := 4) scLaw.nd rfl (Or.inl rfl) (pe_op op_cat (pe_lst (pa_cons pe_bl pa_nil)) (pe_op op_rep (pe_lst (pa_cons pe_bl pa_nil)) pe_int)))
      (pss_cons (ps_set (i := 5) scLaw.nd rfl (Or.inl rfl) (pe_lst (pa_cons (pv 4) (pa_cons (pv 4) (pa_cons (pv 4) (pa_cons (pe_lst (pa_cons pe_bl (pa_cons pe_bl (pa_cons pe_bl (pa_cons pe_bl (pa_cons pe_bl (pa_cons pe_bl pa_nil))))))) (pa_cons (pe_lst (pa_cons pe_bl (pa_cons pe_bl (pa_cons pe_bl (pa_cons pe_bl (pa_cons pe_bl (pa_cons pe_bl pa_nil))))))) pa_nil)))))))
      (pss_cons (ps_set (i := 5) scLaw.nd rfl (Or.inl rfl) (pe_op op_cat (pv 5) (pe_lst (pa_cons (pe_lst (pa_cons pe_bl (pa_cons pe_bl (pa_cons pe_bl (pa_cons pe_bl (pa_cons pe_bl (pa_cons pe_bl pa_nil))))))) (pa_cons (pe_lst (pa_cons pe_bl (pa_cons pe_bl (pa_cons pe_bl (pa_cons pe_bl (pa_cons pe_bl (pa_cons pe_bl pa_nil))))))) pa_nil)))))
      (pss_one (ps_ret (pe_cmpR (op_eqD hu64) (pv 3) (pe_op op_cat (pv 5) (pe_lst (pa_cons (pe_lst (pa_cons pe_bl (pa_cons pe_bl (pa_cons pe_bl (pa_cons pe_bl (pa_cons pe_bl (pa_cons pe_bl pa_nil))))))) pa_nil))) (nomark _))))))))), ?_⟩
    have mb : ∀ L : Int, 0 ≤ L → 1 ≤ (if (if L < 8 then L else 8) > 1 then (if L < 8 then L else 8) else 1) ∧ (if (if L < 8 then L else 8) > 1 then (if L < 8 then L else 8) else 1) ≤ 8 := fun L h => by
      constructor <;> (repeat' split) <;> omega
    have mm := mb ((ns.map V.int).length : Int) (by omega)
    refine ⟨_, rfl, a, _, rfl, Or.inl hS, _, _, rfl, _, _, rfl, _, rfl, (by omega), (by omega), for_range (lo := 0) (fun i σ G => Same H G ∧ ∃ x1, σ = [some (.ref a), x1, none, none, none, none, none]) ⟨Same.refl _, _, rfl⟩ ?_ ?_⟩
    · rintro i σ G hi ⟨sm, x1, rfl⟩
      have hi' : i < 100 := by omega
      refine ⟨_, rfl, _, rfl, a, ns, i, (by rw [Int.zero_add]; rfl), same_sq hS sm, hlen, hi', fun d H1 nd s1 hd => ⟨d, rfl, hd, fun H2 kp => ⟨true, rfl, if_f rfl ⟨?_, _, rfl⟩⟩⟩⟩
      exact fun b o e => kp b o (ne_of_none (sm _ _ e) nd) (s1 _ _ (sm _ _ e))
    · rintro σ G ⟨sm, x1, rfl⟩
      have S0 : Sx C H G [] [] := ⟨sm, (fun q h => nomatch h), (fun q h => nomatch h)⟩
      refine ⟨(by show 1 ≤ 1000; decide), fun a0 n0 => ?_⟩
      have S1 := S0.mkN n0 0 (by decide)
      refine ⟨(by show 1 ≤ 1000; decide), fun a1 n1 => ?_⟩
      have S2 := S1.mkN n1 3 (by decide)
      refine ⟨(by show 1 ≤ 1000; decide), fun a2 n2 => ⟨a2, [.non], rfl, rfl, upd_same, fun x2 G2 y2 z2 e2 f2 o2 => ⟨rfl, ?_⟩⟩⟩
      have S3 := S2.mkI n2 5 (by decide) y2 e2 f2 o2
      refine ⟨(by show 1 ≤ 1000; decide), fun a3 n3 => ⟨a3, [.str "a"], rfl, rfl, upd_same, fun x3 G3 y3 z3 e3 f3 o3 => ⟨rfl, ?_⟩⟩⟩
      have S4 := S3.mkI n3 6 (by decide) y3 e3 f3 o3
      refine ⟨_, rfl, (by show 1 ≤ 1000; decide), fun a4 n4 => ⟨a4, [.int (-1)], rfl, rfl, upd_same, fun x4 G4 y4 z4 e4 f4 o4 => ⟨rfl, ?_⟩⟩⟩
      have S5 := S4.mkI n4 7 (by decide) y4 e4 f4 o4
      refine ⟨(by show 1 ≤ 1000; decide), fun a5 n5 => ⟨a5, [.int 4], rfl, rfl, upd_same, fun x5 G5 y5 z5 e5 f5 o5 => ⟨rfl, ?_⟩⟩⟩
      have S6 := S5.mkI n5 8 (by decide) y5 e5 f5 o5
      refine ⟨(by show 6 ≤ sizeLine; decide), fun M nM => ?_⟩
      have S7 := S6.new nM (x := .lst [.ref a0, .ref a1, .ref a2, .ref a3, .ref a4, .ref a5])
      -- told
      refine ⟨_, rfl, (by show 1 ≤ 1000; decide), fun a6 n6 => ⟨a6, [.int 1], rfl, rfl, upd_same, fun x6 G6 y6 z6 e6 f6 o6 => ⟨rfl, ?_⟩⟩⟩
      have S8 := S7.mkI n6 9 (by decide) y6 e6 f6 o6
      refine ⟨(by show 2 ≤ 1000; decide), fun a7 n7 => ⟨a7, [.str "left", .str "task"], rfl, rfl, upd_same, fun x7 G7 y7 z7 e7 f7 o7 => ⟨rfl, ?_⟩⟩⟩
      have S9 := S8.mkI n7 10 (by decide) y7 e7 f7 o7
      refine ⟨(by show 2 ≤ sizeLine; decide), fun L nL => ?_⟩
      have S10 := S9.new nL (x := .lst [.ref a6, .ref a7])
      refine ⟨M, L, _, _, rfl, rfl, S10.ll _ (.tail _ (.head _)), S10.ll _ (.head _), (by show 8 ≤ sizeLine; decide), fun M2 nM2 => ?_⟩
      have S11 := S10.new nM2 (x := .lst (([a0, a1, a2, a3, a4, a5, a6, a7] : List Addr).map V.ref))
      obtain ⟨es, hes⟩ : ∃ es : List Addr, es = [a0, a1, a2, a3, a4, a5, a6, a7] := ⟨_, rfl⟩
      obtain ⟨ks, hks⟩ : ∃ ks : List Nat, ks = [0, 3, 5, 6, 7, 8, 9, 10] := ⟨_, rfl⟩
      have le : es.length = 8 := by rw [hes]; rfl
      have lk : ks.length = 8 := by rw [hks]; rfl
      have me : ∀ (j : Nat) (b : Addr), es[j]? = some b → ∃ k, ks[j]? = some k ∧ (b, k) ∈ [(a7, 10), (a6, 9), (a5, 8), (a4, 7), (a3, 6), (a2, 5), (a1, 3), (a0, 0)] := by
        intro j b hj
        rw [hes] at hj
        rw [hks]
        match j, hj with
        | 0, h => cases h; exact ⟨_, rfl, by simp⟩
        | 1, h => cases h; exact ⟨_, rfl, by simp⟩
        | 2, h => cases h; exact ⟨_, rfl, by simp⟩
        | 3, h => cases h; exact ⟨_, rfl, by simp⟩
        | 4, h => cases h; exact ⟨_, rfl, by simp⟩
        | 5, h => cases h; exact ⟨_, rfl, by simp⟩
        | 6, h => cases h; exact ⟨_, rfl, by simp⟩
        | 7, h => cases h; exact ⟨_, rfl, by simp⟩
        | j + 8, h => cases h
      have hme := S11.me
      refine ⟨M2, rfl, ⟨_, SqL.of upd_same⟩, fun D nD => ?_⟩
      have hx := (show (upd (upd G7 L (HO.lst [V.ref a6, V.ref a7])) M2 (HO.lst ([V.ref a0, V.ref a1, V.ref a2, V.ref a3, V.ref a4, V.ref a5] ++ [V.ref a6, V.ref a7]))) M2 = some (.lst (es.map V.ref)) from by rw [hes]; exact upd_same)
      refine lc_list (xs := es.map V.ref) (fun i G => ∃ rs, Told _ G D ks i rs) ⟨[], same_new nD, rfl, upd_same, (fun j r h => nomatch h)⟩ (fun i G _ ⟨rs, T⟩ => SqL.of (T.sm _ _ hx)) ?_ ?_
      · rintro i x G1 hx1 ⟨rs, T1⟩
        obtain ⟨b, hb, rfl⟩ := ref_get hx1
        obtain ⟨k1, hk1, hm⟩ := me i b hb
        obtain ⟨lt, fs, er⟩ := hme _ hm
        refine ⟨rfl, ?_⟩
        unfold tYes
        dsimp only
        rw [if_pos rfl]
        have hil : i < 8 := by
          rw [← le]
          exact (List.getElem?_eq_some_iff.mp hb).1
        refine ⟨_, rfl, b, k1, fs, rfl, lt, er.same T1.sm, fun p H' sp np hp => ⟨_, sp _ _ T1.at', by rw [List.length_map, T1.le, sizeLine_eq]; omega, rs ++ [p], ?_⟩⟩
        have z := T1.next nD hk1 sp np hp
        rw [List.map_append] at z
        exact z
      · rintro G1 ⟨rs, T1⟩
        have lr : rs.length = ks.length := by rw [T1.le, List.length_map, le, lk]
        have F0 : Dp K G1 (.ref D) dueD := by
          have q := dp_list (K := K) lr fun j r hj => (T1.me j r hj).2
          have z : dueD = .list (ks.map sD) := by rw [hks]; rfl
          rw [z]
          exact .lst (SqL.of T1.at') q
        have hD := T1.at'
        have Z0 : Sx C G1 G1 [] [(D, .lst (rs.map V.ref))] := ⟨Same.refl _, (fun q h => nomatch h), fun q h => by
          rcases List.mem_cons.mp h with rfl | h
          · exact hD
          · cases h⟩
        refine ⟨(by show 1 ≤ sizeLine; decide), fun c1 m1 => ?_⟩
        have Z1 := Z0.new m1 (x := .lst [.bl true])
        refine ⟨(by show 1 ≤ sizeLine; decide), fun c2 m2 => ?_⟩
        have Z2 := Z1.new m2 (x := .lst [.bl false])
        refine ⟨c2, 5, [.bl false], rfl, rfl, upd_same, by decide, by decide, (by show 1 * 5 ≤ sizeLine; decide), fun c3 m3 => ?_⟩
        have Z3 := Z2.new m3 (x := .lst [.bl false, .bl false, .bl false, .bl false, .bl false])
        refine ⟨c1, c3, [.bl true], _, rfl, rfl, Z3.ll _ (.tail _ (.tail _ (.head _))), upd_same, (by show 6 ≤ sizeLine; decide), fun fi m4 => ?_⟩
        have Z4 := Z3.new m4 (x := .lst (sortsOf 0))
        refine ⟨_, rfl, _, rfl, _, rfl, (by show 6 ≤ sizeLine; decide), fun d1 q1 => ?_⟩
        have Z5 := Z4.new q1 (x := .lst (sortsOf 6))
        refine ⟨(by show 6 ≤ sizeLine; decide), fun d2 q2 => ?_⟩
        have Z6 := Z5.new q2 (x := .lst (sortsOf 7))
        refine ⟨(by show 5 ≤ sizeLine; decide), fun d3 q3 => ?_⟩
        have Z7 := Z6.new q3 (x := .lst [.ref fi, .ref fi, .ref fi, .ref d1, .ref d2])
        refine ⟨_, rfl, (by show 6 ≤ sizeLine; decide), fun d4 q4 => ?_⟩
        have Z8 := Z7.new q4 (x := .lst (sortsOf 8))
        refine ⟨(by show 6 ≤ sizeLine; decide), fun d5 q5 => ?_⟩
        have Z9 := Z8.new q5 (x := .lst (sortsOf 9))
        refine ⟨(by show 2 ≤ sizeLine; decide), fun d6 q6 => ?_⟩
        have Z10 := Z9.new q6 (x := .lst [.ref d4, .ref d5])
        refine ⟨d3, d6, [.ref fi, .ref fi, .ref fi, .ref d1, .ref d2], [.ref d4, .ref d5], rfl, rfl, Z10.ll _ (.tail _ (.tail _ (.tail _ (.head _)))), upd_same, (by show 7 ≤ sizeLine; decide), fun d7 q7 => ?_⟩
        have Z11 := Z10.new q7 (x := .lst [.ref fi, .ref fi, .ref fi, .ref d1, .ref d2, .ref d4, .ref d5])
        refine ⟨_, rfl, _, rfl, (by show 6 ≤ sizeLine; decide), fun d8 q8 => ?_⟩
        have Z12 := Z11.new q8 (x := .lst (sortsOf 10))
        refine ⟨(by show 1 ≤ sizeLine; decide), fun d9 q9 => ?_⟩
        have Z13 := Z12.new q9 (x := .lst [.ref d8])
        refine ⟨d7, d9, [.ref fi, .ref fi, .ref fi, .ref d1, .ref d2, .ref d4, .ref d5], [.ref d8], rfl, rfl, Z13.ll _ (.tail _ (.tail _ (.head _))), upd_same, (by show 8 ≤ sizeLine; decide), fun d10 q10 => ?_⟩
        have Z14 := Z13.new q10 (x := .lst [.ref fi, .ref fi, .ref fi, .ref d1, .ref d2, .ref d4, .ref d5, .ref d8])
        refine ⟨dueD, dueD, dp_same F0 Z14.sm, ?_, dueD_ok.1, dueD_ok.1, ?_⟩
        · refine .lst (SqL.of upd_same) ?_
          have f0 := dp_sorts (K := K) (i := 0) (Z14.ll (fi, _) (by simp))
          exact .cons f0 (.cons f0 (.cons f0 (.cons (dp_sorts (K := K) (i := 6) (Z14.ll (d1, _) (by simp))) (.cons (dp_sorts (K := K) (i := 7) (Z14.ll (d2, _) (by simp))) (.cons (dp_sorts (K := K) (i := 8) (Z14.ll (d4, _) (by simp))) (.cons (dp_sorts (K := K) (i := 9) (Z14.ll (d5, _) (by simp))) (.cons (dp_sorts (K := K) (i := 10) (Z14.ll (d8, _) (by simp))) .nil)))))))
        · rw [dueD_ok.2]
          exact k _
end
end Lk
end
section
set_option maxRecDepth 100000
set_option maxHeartbeats 4000000
namespace Kx
open PySem PySem.Spec PyProof.Rows L2
/-- the law's promise at the heap behind the top, for a def that shows data by repr: callerA guards nothing -/
theorem law_callG {P : Program} {w : World} {K : PySem.W.Frag} {mg mb : Str → Option Value} {k : Nat} {fa a : Addr} {fd : FuncData} {x : Str} {sp : Sp} {s₁ : Shared} {vs : List Value} {ns : List Int}
    (KX : K.In s₁.heap) (hns : s₁.heap.Ns mainGlobals mg) (hb : s₁.heap.Ns builtinsNs mb) (hbb : ∀ x : Str, x ≠ "__name__" → mb x = bootBuiltins x) (hlim : s₁.heap.NoLimit) (hg : s₁.gens = #[])
    (ha : s₁.heap.get? a = some { cls := .type "list", data := .seq vs.toArray }) (hi : IntsAre vs ns) (hl : ns.length ≤ sizeLine) (hr : Room k callerA)
    (F : ∀ base : Heap, K.In base → base.Ns mainGlobals mg → FnG P w K mg base CX0 k fa fd [x] sp) (hbind : ∀ (s : Shared) (u : Value), BindsTo s fd ⟨[u], []⟩ [(x, u)])
    (hsp : ∀ H : Hp, SqL K H a (ns.map V.int) → sp [.ref a] H (fun v _ => v = .bl true) fun _ _ _ => False) :
    codeAny (model P w) callerA (.call (.ref fa) ⟨[.ref a], []⟩) (fun r s' => r = .ok (.ret (.bool true)) ∧ OldK s₁.heap s'.heap ∧ s'.os = s₁.os ∧ AllBare s'.gens) s₁ := by
  have rv := vals_ints hi
  have lv := hi.length
  have core : ∀ H : Hp, SqL K H a (ns.map V.int) → HOk P w H s₁.heap → (∀ b u, H b = some u → (b = a ∧ K.lookup a = none) ∧ ∃ o xs, u = .frz o (.lst xs)) →
      codeAny (model P w) callerA (.call (.ref fa) ⟨[.ref a], []⟩) (fun r s' => r = .ok (.ret (.bool true)) ∧ OldK s₁.heap s'.heap ∧ s'.os = s₁.os ∧ AllBare s'.gens) s₁ := by
    intro H hS hok hA
    have dct : ∀ {b : Addr} {o : Obj} {es : Array DictEntry} {ep : Nat}, s₁.heap.get? b = some o → o.data = .dict es ep → H b = none := fun {b o es ep} e d => by
      cases q : H b with
      | none => rfl
      | some u =>
        have e' : b = a := (hA b u q).1.1
        rw [e', ha] at e
        cases e
        exact Data.noConfusion (show Data.seq vs.toArray _ = Data.dict es ep from d)
    have nsK : ∀ {b : Addr} {m : Str → Option Value}, s₁.heap.Ns b m → (hidT s₁.heap H).Ns b m := fun {b m} ⟨o, es, ep, e, d, r⟩ => ⟨o, es, ep, hidT_get e (dct e d), d, r⟩
    have hKb : K.In (hidT s₁.heap H) := fun b o e => hidT_get (KX b o e) (by
      cases q : H b with
      | none => rfl
      | some u =>
        obtain ⟨⟨e', n⟩, _⟩ := hA b u q
        rw [e', n] at e
        cases e)
    have e0 : Env0 P w K mg (hidT s₁.heap H) callerA [] s₁ H := ⟨rfl, ⟨hKb, nsK hns, ⟨mb, nsK hb, hbb⟩, let ⟨mc, h1, h2⟩ := hlim; ⟨mc, nsK h1, h2⟩⟩, fun b o e => of_hidT e, Nat.le_of_eq (hidT_size _ _), trivial, fun b hb => absurd (show b ∈ ([] : List Addr) from hb) (by simp), hok, .of_eq hg⟩
    refine codeAny_mono ((F _ hKb (nsK hns)).run callerA [] s₁ H ⟨[.ref a], []⟩ [.ref a] [.ref a] _ _ rfl hr e0 (hbind s₁ (.ref a)) (.cons rfl .nil) (hsp H hS)) fun r s' h => ?_
    rcases r with e | (_ | _ | _ | u)
    all_goals first | exact False.elim h | skip
    obtain ⟨v, H', os, bare, un, hok', r', q⟩ := h
    obtain rfl : v = .bl true := q
    obtain rfl : u = Value.bool true := r'
    refine ⟨rfl, OldK.of_keep fun b o e => ?_, os, bare⟩
    cases q : H b with
    | none => exact un.keep b o e q (by intro z; exact absurd (show b ∈ ([] : List Addr) from z) (by simp)) (by simp)
    | some u =>
      obtain ⟨_, ob, xs, rfl⟩ := hA b u q
      have z2 := un.frzs b ob _ q
      obtain ⟨e1, _⟩ := hok b _ q
      obtain ⟨e2, _⟩ := hok' b _ z2
      rw [e] at e1
      cases e1
      exact e2
  cases hk : K.lookup a with
  | some o =>
    have e := KX a o hk
    rw [ha] at e
    cases e
    refine core (fun _ => none) (.inr ⟨_, vs.toArray, _, hk, rfl, rfl, rfl, by rw [List.size_toArray, lv]; exact hl, by simpa using rv⟩) (fun b u z => by cases (show (none : Option HO) = some u from z)) fun b u z => by cases (show (none : Option HO) = some u from z)
  | none =>
    have at_ : ∀ b u, (if b = a then some (HO.frz { cls := .type "list", data := .seq vs.toArray } (.lst (ns.map V.int))) else none) = some u → b = a ∧ u = .frz { cls := .type "list", data := .seq vs.toArray } (.lst (ns.map V.int)) := fun b u z => by
      by_cases hb : b = a
      · rw [if_pos hb] at z
        exact ⟨hb, (Option.some.inj z).symm⟩
      · rw [if_neg hb] at z
        cases z
    refine core (fun b => if b = a then some (.frz { cls := .type "list", data := .seq vs.toArray } (.lst (ns.map V.int))) else none) (.inl (.inr ⟨_, if_pos rfl⟩)) (fun b u z => ?_) fun b u z => ?_
    · obtain ⟨rfl, rfl⟩ := at_ b u z
      exact ⟨ha, by rw [List.length_map]; exact hl, vs, _, rv, ha⟩
    · obtain ⟨rfl, rfl⟩ := at_ b u z
      exact ⟨⟨rfl, hk⟩, _, _, rfl⟩
theorem walk_ofG {l : PySem.W.OpenLaw} {n k : Nat} {q : Program} {loose : List Str} {XP : (Str → Option Value) → Heap → Prop} {YP : World → Heap → Prop} {d : DefRec} {K : Params → PySem.W.Frag} {sp : World → Sp} {x : Str}
    (hn : l.most = some n) (hn2 : n ≤ sizeLine) (hdf : d.params.defaults = []) (hr : Room k callerA)
    (hY : ∀ (w : World) (h : Heap), YP w h → (K w.params).In h)
    (F : ∀ (w : World) (mg : Str → Option Value) (fa : Addr) (h : Heap), (K w.params).In h → h.Ns mainGlobals mg → mg d.name = some (.ref fa) →
      ∃ fd : FuncData, (∀ (s : Shared) (u : Value), BindsTo s fd ⟨[u], []⟩ [(x, u)]) ∧
        ∀ base : Heap, (K w.params).In base → base.Ns mainGlobals mg → FnG l.prog w (K w.params) mg base CX0 k fa fd [x] (sp w))
    (hsp : ∀ (w : World) (H : Hp) (a : Addr) (ns : List Int), ns.length ≤ n → SqL (K w.params) H a (ns.map V.int) → sp w [.ref a] H (fun v _ => v = .bl true) fun _ _ _ => False) :
    PySem.W.WalkO q loose XP YP l.row.toRowW d [] (fun f vs => PySem.call f vs) := by
  refine Att.attach_call hn hdf fun w s₀ s₁ mg mb fa o pm cd doc a vs ns G Y ho hd hcd hmg hobj hints hlen hg => ?_
  have KX := hY w _ Y
  obtain ⟨fd, hb, hF⟩ := F w mg fa _ KX G.T.g hmg
  exact law_callG KX G.T.g G.T.b G.T.builtins G.T.nolimit hg hobj hints (Nat.le_trans hlen hn2) hr hF hb fun H hS => hsp w H a ns hlen hS
end Kx
end
section
set_option maxRecDepth 100000
set_option maxHeartbeats 4000000
namespace PySem.F
theorem store_KeyErr : StoreFacts "KeyError" [.type "KeyError", .type "LookupError", .type "Exception", .type "BaseException", .type "object"] "object.__setattr__" "object" where
  mro := by kernel_rfl
  slot := .of (owner := "object") (n := "__setattr__") (by rw [typeLookup_type, builtinLookup_eq_fast]; kernel_rfl) (by decide +kernel) (by decide +kernel) (by decide +kernel)
    (by first | exact .inl (by decide +kernel) | exact .inr (by decide +kernel)) (by rw [isSubtype_type]; kernel_rfl)
  entry := entry_object_sa
  kind := by decide +kernel
  split := by decide +kernel
  hasOwner := by decide +kernel
  args := fun a b c => by unfold argsOk; kernel_rfl
  passes := fun self => by kernel_rfl
end PySem.F
/-! What the top has written, as one answer of a kernel run over the written part. -/
namespace Lk
open PySem PySem.W L2 Kx PySem.Spec PyProof.Rows
def cA (K : Frag) (i : Nat) : Addr := He.ga K (kn i)
def cI (K : Frag) (i : Nat) : Addr := He.ma K (He.ga K (kn i)) "__init__"
def veL : List Value := [.type "ValueError", .type "Exception", .type "BaseException", .type "object"]
def keL : List Value := [.type "KeyError", .type "LookupError", .type "Exception", .type "BaseException", .type "object"]
def reL : List Value := [.type "RuntimeError", .type "Exception", .type "BaseException", .type "object"]
def oeL : List Value := [.type "OverflowError", .type "ArithmeticError", .type "Exception", .type "BaseException", .type "object"]
def ieL : List Value := [.type "IndexError", .type "LookupError", .type "Exception", .type "BaseException", .type "object"]
def aeL : List Value := [.type "ArithmeticError", .type "Exception", .type "BaseException", .type "object"]
def eqO1 (a b : Option Value) : Bool := decide (a = b)
def eqB (a b : Option Bool) : Bool := decide (a = b)
/-- one class's facts -/
def clsOk (K : Frag) (C : Addr) (bm : List Value) : Bool :=
  excOver K C bm && (hasDictIn K C && (He.eqO (findIn K (.ref C) "__setattr__") (some (some (.builtin "object.__setattr__"))) && (eqB (subIn K (.ref C) (.type "BaseException")) (some true) && (eqO1 (typeIn K (.ref C)) (some (.type "type")) && (keepIn K (.ref C) &&
  (He.eqO (findIn K (.ref C) "__getattribute__") (some (some (.builtin "BaseException.__getattribute__"))) && (He.eqO (findIn K (.ref C) "__getattr__") (some none) && (He.eqO (findIn K (.ref C) "__class__") (some (some (.builtin "object.__class__"))) &&
  (He.eqO (specialIn K (.builtin "object.__class__") "__get__") (some (some (.builtin "getset_descriptor.__get__"))) && (eqB (takesIn K (.builtin "object.__class__")) (some true) && eqB (mroIn K C (.type "object")) (some true)))))))))))
def iniOk (K : Frag) (i : Nat) (B newId : String) : Bool := basesIn K (cA K i) B newId && (He.eqO (findIn K (.ref (cA K i)) "__init__") (some (some (.ref (cI K i)))) && eqO1 (typeIn K (.ref (cI K i))) (some (.type "function")))
def kitOk (K : Frag) : Bool := (List.range 11).all fun i => (List.range 11).all fun j => eqB (kitCls K (.ref (cA K i)) (.ref (cA K j))) (some (kb i j))
def srtOk (K : Frag) : Bool := (List.range 11).all fun i => (List.range 6).all fun t => eqB (kitOne K (.ref (cA K i)) (.type (bt t))) (some (sb i t))
def fldOk (K : Frag) : Bool := (List.range 5).all fun i => He.eqO (findIn K (.ref (cA K (i + 5))) (fld (i + 5))) (some none)
def gloOk (K : Frag) : Bool := (List.range 11).all fun i => He.eqO (nsIn K mainGlobals (kn i)) (some (some (.ref (cA K i))))
def defs : List Str := ["_law_dice", "_law_roll", "_law_one_of", "_law_value", "_law_sorts", "_law_kinds", "_law_raise", "_law_caught", "_law_by_base", "_law_right", "law"]
def defOk (K : Frag) : Bool := defs.all fun x => He.eqO (nsIn K mainGlobals x) (some (some (.ref (He.ga K x))))
def frees : List Str := ["len", "int", "abs", "isinstance", "enumerate", "range", "repr", "max", "min", "ValueError", "KeyError", "RuntimeError", "OverflowError", "IndexError", "ArithmeticError"]
def freeOk (K : Frag) : Bool := frees.all fun x => He.eqO (nsIn K mainGlobals x) (some none)
def baseOk (K : Frag) : List Bool :=
  [clsOk K (cA K 0) veL, clsOk K (cA K 1) veL, clsOk K (cA K 2) veL, clsOk K (cA K 3) veL, clsOk K (cA K 4) veL, clsOk K (cA K 5) veL, clsOk K (cA K 6) keL, clsOk K (cA K 7) reL, clsOk K (cA K 8) oeL, clsOk K (cA K 9) ieL, clsOk K (cA K 10) aeL,
   excIn K (cA K 0) veL "ValueError.__new__", excIn K (cA K 1) veL "ValueError.__new__", excIn K (cA K 2) veL "ValueError.__new__", excIn K (cA K 3) veL "ValueError.__new__", excIn K (cA K 4) veL "ValueError.__new__",
   iniOk K 5 "ValueError" "ValueError.__new__", iniOk K 6 "LookupError" "LookupError.__new__", iniOk K 7 "RuntimeError" "RuntimeError.__new__", iniOk K 8 "OverflowError" "OverflowError.__new__", iniOk K 9 "IndexError" "IndexError.__new__", iniOk K 10 "ArithmeticError" "ArithmeticError.__new__",
   kitOk K, srtOk K, fldOk K, He.eqO (findIn K (.ref (cA K 10)) "name") (some none), He.eqO (findIn K (.ref (cA K 10)) "reason") (some none), gloOk K, defOk K, freeOk K]
def topOk (K : Frag) : Bool := (baseOk K).all id
def dF (x : Str) (st : Stmt) : He.FnD := ⟨(x, none), x, x, defArgs st, defBody st, defScope st⟩
def dI (c q : Str) (st : Stmt) : He.FnD := ⟨(c, some "__init__"), "__init__", q, defArgs st, defBody st, defScope st⟩
def fns : List He.FnD := [dF "_law_dice" sDice, dF "_law_roll" sRoll, dF "_law_one_of" sOne, dF "_law_value" sVal, dF "_law_sorts" sSorts, dF "_law_kinds" sKinds, dF "_law_raise" sRaise, dF "_law_caught" sCaught, dF "_law_by_base" sByBase, dF "_law_right" sRight, dF "law" sLaw,
  dI "ParseError" "ParseError.__init__" sI5, dI "UnknownName" "UnknownName.__init__" sI6, dI "InvalidNumber" "InvalidNumber.__init__" sI7, dI "TooMany" "TooMany.__init__" sI8, dI "NothingToUndo" "NothingToUndo.__init__" sI9, dI "Refused" "Refused.__init__" sI10]
end Lk
end
section
set_option maxRecDepth 100000
set_option maxHeartbeats 4000000
namespace Lk
open PySem PySem.W L2 Kx PySem.Spec PyProof.Rows
section
variable {K : Frag} {h : Heap} {mg : Str → Option Value}
theorem cls_ec {C : Addr} {B : String} {bm : List Value} (S : StoreFacts B bm "object.__setattr__" "object") (c : clsOk K C bm = true) : EC K C := by
  obtain ⟨c1, c⟩ := He.ba c
  obtain ⟨c2, c⟩ := He.ba c
  obtain ⟨c3, c⟩ := He.ba c
  obtain ⟨c4, c⟩ := He.ba c
  obtain ⟨c5, c⟩ := He.ba c
  obtain ⟨c6, c⟩ := He.ba c
  obtain ⟨c7, c⟩ := He.ba c
  obtain ⟨c8, c⟩ := He.ba c
  obtain ⟨c9, c⟩ := He.ba c
  obtain ⟨c10, c⟩ := He.ba c
  obtain ⟨c11, c12⟩ := He.ba c
  exact ⟨⟨B, bm, S, c1⟩, c2, He.eqO_ok c3, of_decide_eq_true c4, of_decide_eq_true c5, c6, He.eqO_ok c7, He.eqO_ok c8, He.eqO_ok c9, He.eqO_ok c10, of_decide_eq_true c11, of_decide_eq_true c12⟩
theorem base_at (c : topOk K = true) (i : Nat) {b : Bool} (e : (baseOk K)[i]? = some b) : b = true := List.all_eq_true.mp c b (List.mem_of_getElem? e)
theorem glo_at (X : K.In h) (G : h.Ns mainGlobals mg) (c : gloOk K = true) {i : Nat} (hi : i < 11) : mg (kn i) = some (.ref (cA K i)) :=
  PySem.W.mg_of X G (He.eqO_ok (List.all_eq_true.mp c i (List.mem_range.mpr hi)))
theorem free_at (X : K.In h) (G : h.Ns mainGlobals mg) (c : freeOk K = true) {x : Str} (hx : x ∈ frees) : mg x = none := PySem.W.mg_none_of X G (He.eqO_ok (List.all_eq_true.mp c x hx))
theorem def_at (X : K.In h) (G : h.Ns mainGlobals mg) (c : defOk K = true) {x : Str} (hx : x ∈ defs) : mg x = some (.ref (He.ga K x)) := PySem.W.mg_of X G (He.eqO_ok (List.all_eq_true.mp c x hx))
theorem ini_eci {i : Nat} {B newId initId : String} {bmB : List Value} (X : K.In h) (G : h.Ns mainGlobals mg) (E : EC K (cA K i)) (g : mg (kn i) = some (.ref (cA K i))) (F : ExcBaseFacts B newId initId bmB) (c : iniOk K i B newId = true) : ECI K mg (kn i) (cA K i) (cI K i) := by
  obtain ⟨c1, c⟩ := He.ba c
  obtain ⟨c2, c3⟩ := He.ba c
  exact ⟨E, g, ⟨B, newId, initId, bmB, F, c1⟩, He.eqO_ok c2, of_decide_eq_true c3⟩
theorem kl_of (X : K.In h) (G : h.Ns mainGlobals mg) (c : topOk K = true) : Kl K mg (cA K) (cI K) := by
  have g : gloOk K = true := base_at c 27 rfl
  have fr : freeOk K = true := base_at c 29 rfl
  refine ⟨fun i hi => ?_, fun i h5 hi => ?_, fun i hi j hj => ?_, fun i hi t ht => ?_, fun i h5 hi => ?_, He.eqO_ok (base_at c 25 rfl), He.eqO_ok (base_at c 26 rfl), free_at X G fr (by decide +kernel), fun t ht => ?_⟩
  · match i, hi with
    | 0, _ => exact ⟨cls_ec F.store_ValueError (base_at c 0 rfl), glo_at X G g (by decide), ⟨_, _, _, _, F.excBase_ValueError, base_at c 11 rfl⟩⟩
    | 1, _ => exact ⟨cls_ec F.store_ValueError (base_at c 1 rfl), glo_at X G g (by decide), ⟨_, _, _, _, F.excBase_ValueError, base_at c 12 rfl⟩⟩
    | 2, _ => exact ⟨cls_ec F.store_ValueError (base_at c 2 rfl), glo_at X G g (by decide), ⟨_, _, _, _, F.excBase_ValueError, base_at c 13 rfl⟩⟩
    | 3, _ => exact ⟨cls_ec F.store_ValueError (base_at c 3 rfl), glo_at X G g (by decide), ⟨_, _, _, _, F.excBase_ValueError, base_at c 14 rfl⟩⟩
    | 4, _ => exact ⟨cls_ec F.store_ValueError (base_at c 4 rfl), glo_at X G g (by decide), ⟨_, _, _, _, F.excBase_ValueError, base_at c 15 rfl⟩⟩
    | k + 5, z => omega
  · match i, h5, hi with
    | 5, _, _ => exact ini_eci X G (cls_ec F.store_ValueError (base_at c 5 rfl)) (glo_at X G g (by decide)) F.excBase_ValueError (base_at c 16 rfl)
    | 6, _, _ => exact ini_eci X G (cls_ec F.store_KeyErr (base_at c 6 rfl)) (glo_at X G g (by decide)) F.excBase_LookupError (base_at c 17 rfl)
    | 7, _, _ => exact ini_eci X G (cls_ec F.store_RuntimeError (base_at c 7 rfl)) (glo_at X G g (by decide)) F.excBase_RuntimeError (base_at c 18 rfl)
    | 8, _, _ => exact ini_eci X G (cls_ec F.store_OverflowError (base_at c 8 rfl)) (glo_at X G g (by decide)) F.excBase_OverflowError (base_at c 19 rfl)
    | 9, _, _ => exact ini_eci X G (cls_ec F.store_IndexError (base_at c 9 rfl)) (glo_at X G g (by decide)) F.excBase_IndexError (base_at c 20 rfl)
    | 10, _, _ => exact ini_eci X G (cls_ec F.store_ArithmeticError (base_at c 10 rfl)) (glo_at X G g (by decide)) F.excBase_ArithmeticError (base_at c 21 rfl)
    | k + 11, _, z => omega
    | 0, z, _ => omega
    | 1, z, _ => omega
    | 2, z, _ => omega
    | 3, z, _ => omega
    | 4, z, _ => omega
  · have k : kitOk K = true := base_at c 22 rfl
    exact of_decide_eq_true (List.all_eq_true.mp (List.all_eq_true.mp k i (List.mem_range.mpr hi)) j (List.mem_range.mpr hj))
  · have k : srtOk K = true := base_at c 23 rfl
    exact of_decide_eq_true (List.all_eq_true.mp (List.all_eq_true.mp k i (List.mem_range.mpr hi)) t (List.mem_range.mpr ht))
  · have k : fldOk K = true := base_at c 24 rfl
    obtain ⟨j, rfl⟩ : ∃ j, i = j + 5 := ⟨i - 5, by omega⟩
    exact He.eqO_ok (List.all_eq_true.mp k j (List.mem_range.mpr (by omega)))
  · refine free_at X G fr ?_
    match t, ht with
    | 0, _ => decide +kernel
    | 1, _ => decide +kernel
    | 2, _ => decide +kernel
    | 3, _ => decide +kernel
    | 4, _ => decide +kernel
    | 5, _ => decide +kernel
    | k + 6, z => omega
/-- the defs -/
def fnOk (K : Frag) : Prop := (fns.all fun d => (He.Fa.code d.at_ d.qual).ok K) = true ∧ fns.map (fun d => He.fnObs K d.at_) = fns.map He.FnD.val
theorem fun_at (c : fnOk K) (i : Nat) {x q : Str} {st : Stmt} {p : Str × Option Str} (e : fns[i]? = some ⟨p, x, q, defArgs st, defBody st, defScope st⟩) : ∃ fd, Fun K x q st (He.fAd K p) fd := by
  have e2 : (fns.map fun d => He.fnObs K d.at_)[i]? = (fns.map He.FnD.val)[i]? := by rw [c.2]
  rw [List.getElem?_map, List.getElem?_map, e] at e2
  obtain ⟨oc, od, osl, kV, doc, pm, an, cdv, ct, l, cd⟩ := He.fn_ok (Option.some.inj e2) (List.all_eq_true.mp c.1 _ (List.mem_of_getElem? e))
  refine ⟨_, fun_mk (st := st) l cd ?_⟩
  have l' : K.lookup (He.fAd K p) = _ := l
  unfold PySem.W.keepIn
  dsimp only
  rw [l']
theorem all_mk {P : Program} {w : World} {fa : Addr} (X : K.In h) (G : h.Ns mainGlobals mg) (hfa : mg "law" = some (.ref fa)) (c : topOk K = true) (cf : fnOk K) :
    ∃ fd : FuncData, (∀ (s : Shared) (v : Value), BindsTo s fd ⟨[v], []⟩ [("script", v)]) ∧ ∀ base : Heap, K.In base → base.Ns mainGlobals mg → FnG P w K mg base CX0 6 fa fd ["script"] (spLaw K) := by
  have df : defOk K = true := base_at c 28 rfl
  have fr : freeOk K = true := base_at c 29 rfl
  have D : ∀ {x : Str}, x ∈ defs → mg x = some (.ref (He.ga K x)) := fun hx => def_at X G df hx
  have N : ∀ {x : Str}, x ∈ frees → mg x = none := fun hx => free_at X G fr hx
  have e := hfa.symm.trans (D (x := "law") (by decide +kernel))
  cases e
  have TK := kl_of X G c
  obtain ⟨fdD, FD⟩ := fun_at cf 0 (st := sDice) rfl
  obtain ⟨fdR, FR⟩ := fun_at cf 1 (st := sRoll) rfl
  obtain ⟨fdO, FO⟩ := fun_at cf 2 (st := sOne) rfl
  obtain ⟨fdV, FV⟩ := fun_at cf 3 (st := sVal) rfl
  obtain ⟨fdS, FS⟩ := fun_at cf 4 (st := sSorts) rfl
  obtain ⟨fdK, FK⟩ := fun_at cf 5 (st := sKinds) rfl
  obtain ⟨fdX, FX⟩ := fun_at cf 6 (st := sRaise) rfl
  obtain ⟨fdC, FC⟩ := fun_at cf 7 (st := sCaught) rfl
  obtain ⟨fdB, FB⟩ := fun_at cf 8 (st := sByBase) rfl
  obtain ⟨fdG, FG⟩ := fun_at cf 9 (st := sRight) rfl
  obtain ⟨fdL, FL⟩ := fun_at cf 10 (st := sLaw) rfl
  obtain ⟨fd5, F5⟩ := fun_at cf 11 (st := sI5) rfl
  obtain ⟨fd6, F6⟩ := fun_at cf 12 (st := sI6) rfl
  obtain ⟨fd7, F7⟩ := fun_at cf 13 (st := sI7) rfl
  obtain ⟨fd8, F8⟩ := fun_at cf 14 (st := sI8) rfl
  obtain ⟨fd9, F9⟩ := fun_at cf 15 (st := sI9) rfl
  obtain ⟨fd10, F10⟩ := fun_at cf 16 (st := sI10) rfl
  have bD := FD.binds (ps := ["script", "at"]) fun _ _ _ _ _ _ us hl => match us, hl with | [_, _], _ => rfl
  have bR := FR.binds (ps := ["dice", "total"]) fun _ _ _ _ _ _ us hl => match us, hl with | [_, _], _ => rfl
  have bO := FO.binds (ps := ["dice", "items"]) fun _ _ _ _ _ _ us hl => match us, hl with | [_, _], _ => rfl
  have bV := FV.binds (ps := ["dice"]) fun _ _ _ _ _ _ us hl => match us, hl with | [_], _ => rfl
  have bS := FS.binds (ps := ["e"]) fun _ _ _ _ _ _ us hl => match us, hl with | [_], _ => rfl
  have bK := FK.binds (ps := ["e"]) fun _ _ _ _ _ _ us hl => match us, hl with | [_], _ => rfl
  have bX := FX.binds (ps := ["kind", "value", "other"]) fun _ _ _ _ _ _ us hl => match us, hl with | [_, _, _], _ => rfl
  have bC := FC.binds (ps := ["kind", "value", "other"]) fun _ _ _ _ _ _ us hl => match us, hl with | [_, _, _], _ => rfl
  have bB := FB.binds (ps := ["kind", "value"]) fun _ _ _ _ _ _ us hl => match us, hl with | [_, _], _ => rfl
  have bG := FG.binds (ps := ["dice"]) fun _ _ _ _ _ _ us hl => match us, hl with | [_], _ => rfl
  have b5 := F5.binds (ps := ["self", "line"]) fun _ _ _ _ _ _ us hl => match us, hl with | [_, _], _ => rfl
  have b6 := F6.binds (ps := ["self", "name"]) fun _ _ _ _ _ _ us hl => match us, hl with | [_, _], _ => rfl
  have b7 := F7.binds (ps := ["self", "value"]) fun _ _ _ _ _ _ us hl => match us, hl with | [_, _], _ => rfl
  have b8 := F8.binds (ps := ["self", "limit"]) fun _ _ _ _ _ _ us hl => match us, hl with | [_, _], _ => rfl
  have b9 := F9.binds (ps := ["self", "many"]) fun _ _ _ _ _ _ us hl => match us, hl with | [_, _], _ => rfl
  have b10 := F10.binds (ps := ["self", "name", "reason"]) fun _ _ _ _ _ _ us hl => match us, hl with | [_, _, _], _ => rfl
  have bL : ∀ (s : Shared) (v : Value), BindsTo s fdL ⟨[v], []⟩ [("script", v)] := by
    obtain ⟨oc, od, kV, doc, pm, an, cdv, ct, osl, rfl, _⟩ := FL.ex
    exact fun s v => .of_eq rfl
  refine ⟨fdL, bL, fun base _ _ => ?_⟩
  have NI : Ini P w K mg base (cA K) (cI K) (fun i => if i = 5 then fd5 else if i = 6 then fd6 else if i = 7 then fd7 else if i = 8 then fd8 else if i = 9 then fd9 else fd10) :=
    ⟨ok_I5 F5 TK, b5, ok_I6 F6 TK, b6, ok_I7 F7 TK, b7, ok_I8 F8 TK, b8, ok_I9 F9 TK, b9, ok_I10 F10 TK, b10⟩
  have TD : TxtD mg := ⟨N (x := "len") (by decide +kernel), N (x := "int") (by decide +kernel), N (x := "abs") (by decide +kernel)⟩
  have TR : TxtR K mg (He.fAd K ("_law_roll", none)) (He.fAd K ("_law_one_of", none)) := ⟨TD, D (x := "_law_roll") (by decide +kernel), FR.kp, D (x := "_law_one_of") (by decide +kernel), FO.kp⟩
  have GD : FnOk P w K mg base CX0 1 _ fdD ["script", "at"] (spDice K) := ok_dice FD TD
  have GR : FnOk P w K mg base CX0 1 _ fdR ["dice", "total"] spRoll := ok_roll FR TD
  have GO : FnOk P w K mg base CX0 2 _ fdO ["dice", "items"] (spOne K) := ok_one FO TR GR bR
  have GV : FnOk P w K mg base CX0 3 _ fdV ["dice"] spVal := ok_val FV TR GR bR GO bO
  have GS : FnOk P w K mg base CX0 1 _ fdS ["e"] (spSorts K (cA K)) := ok_sorts FS TK
  have GK : FnOk P w K mg base CX0 1 _ fdK ["e"] (spKinds K (cA K)) := ok_kinds FK TK
  have GX : FnOk P w K mg base (L2.CX P w) 3 _ fdX ["kind", "value", "other"] (spRaise (cA K)) := ok_raise FX TK NI
  have TC : TxtC K mg (He.fAd K ("_law_raise", none)) := ⟨D (x := "_law_raise") (by decide +kernel), FX.kp⟩
  have GC : FnOk P w K mg base CX0 4 _ fdC ["kind", "value", "other"] spCaught := ok_caught FC TK TC GX bX
  have GB : FnOk P w K mg base CX0 4 _ fdB ["kind", "value"] spBy := ok_by FB TK TC GX bX
  have TQ : TxtQ K mg (He.fAd K ("_law_value", none)) (He.fAd K ("_law_kinds", none)) (He.fAd K ("_law_sorts", none)) (He.fAd K ("_law_caught", none)) (He.fAd K ("_law_by_base", none)) :=
    ⟨D (x := "_law_value") (by decide +kernel), FV.kp, D (x := "_law_kinds") (by decide +kernel), FK.kp, D (x := "_law_sorts") (by decide +kernel), FS.kp, D (x := "_law_caught") (by decide +kernel), FC.kp, D (x := "_law_by_base") (by decide +kernel), FB.kp, N (x := "enumerate") (by decide +kernel), N (x := "range") (by decide +kernel), N (x := "repr") (by decide +kernel)⟩
  have GG : FnG P w K mg base CX0 5 _ fdG ["dice"] spRight := ok_right FG TQ TK NI GV bV GK bK GS bS GC bC GB bB
  have TL : TxtL K mg (He.fAd K ("_law_dice", none)) (He.fAd K ("_law_right", none)) (He.fAd K ("_law_sorts", none)) :=
    ⟨D (x := "_law_dice") (by decide +kernel), FD.kp, D (x := "_law_right") (by decide +kernel), FG.kp, D (x := "_law_sorts") (by decide +kernel), FS.kp, N (x := "range") (by decide +kernel), N (x := "max") (by decide +kernel), N (x := "min") (by decide +kernel), N (x := "len") (by decide +kernel)⟩
  exact ok_law FL TL TK NI GD bD GG bG GS bS
end
end Lk
end
open PySem PySem.W PyProof.Rows
set_option maxRecDepth 100000 in
set_option maxHeartbeats 0 in
theorem PySem.Challenge.cw_whatparts_k00_errors_and_what_they_keep_holds : PySem.Challenge.rw_whatparts_k00_errors_and_what_they_keep.Holds := by
  w_on; o_law; k_head; (case hw => w_witness2)
  k_fill
  refine Kx.walk_ofG (l := PySem.Challenge.rw_whatparts_k00_errors_and_what_they_keep) (n := 63) (k := 6) (x := "script") (sp := fun w => Lk.spLaw _) rfl (by decide) rfl ⟨rfl, by decide, by decide⟩ (fun w h Y => PySem.W.kIn_of Y) ?F (fun _ _ a ns hl hS => ⟨a, ns, rfl, hS, hl, fun _ => rfl⟩)
  case F =>
    intro w mg fa h KX G hmg
    refine Lk.all_mk KX G hmg ?c ⟨?f1, ?f2⟩
    case c => kernel_rfl
    case f1 => kernel_rfl
    case f2 => kernel_rfl
